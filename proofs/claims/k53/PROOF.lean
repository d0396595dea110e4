import PyProof.Rows.All
import HandS.ForMost
import HandS.Exc
import HandS.TryOnly
import HandS.ExcOwn
import HandS.WordsExc
import HandS.CallSlots
import HandS.Wide
import HandS.Deep
import HandS.Conv
import PyProof.MaxThree
import PyProof.CallFns
import PyProof.ReprRoads
import HandS.IsInst
import HandS.Style
import HandS.More
import HandS.SortInts
import PyProof.LongRange
import PyProof.ListRange
import HandS.Defaults
import HandS.Iter
import KE.KDictZip
import KE.DataMinMax
import PyProof.Rows.RowBridgeK
import HandS.Star
import HandS.SortKw
import KE.GoesEnumKw
import HandS.SetFor
import HandS.Strs
import PyProof.ReprLen
import PyProof.FitsInt
import KE.KEqSeq
import KE.DataEq
import PySem.Challenge.RW_evenslices_k53_most_behind
set_option Elab.async false
set_option linter.all false
set_option maxRecDepth 100000
set_option maxHeartbeats 4000000
/-! A layer of data over the hand layer: slots hold data (PyData) or lists that the def owns; defs are functions from cells to answers. -/
namespace Dx
open PySem PySem.Spec PyProof.Rows L2

/-- a slot: nothing known, data that nobody changes, a list of one's own, a list that the caller owns (parameter j), the last address of c.A and no more (Cn.A; a pin) -/
inductive Cell where
  | u
  | v (d : PyData)
  | o (ds : List PyData)
  | io (j : Nat) (ds : List PyData)
  | p (j : Nat)
abbrev Ev := List Cell
/-- an error in the air: the name of its class, its fields -/
structure Exn where
  cls : String
  fs : List (Str × PyData)
inductive R (A : Type) where
  | ok (a : A) (r : Ev)
  | ex (x : Exn) (r : Ev)
  | no
abbrev M (A : Type) := Ev → R A
def mpure {A : Type} (a : A) : M A := fun r => .ok a r
def mbind {A B : Type} (m : M A) (k : A → M B) : M B := fun r => match m r with
  | .ok a r1 => k a r1
  | .ex x r1 => .ex x r1
  | .no => .no
def mno {A : Type} : M A := fun _ => .no
def mopt {A : Type} : Option A → M A
  | some a => mpure a
  | none => mno
/-- how a block ends -/
inductive SR where
  | nx (r : Ev)
  | rt (d : PyData) (r : Ev)
  | ro (ds : List PyData) (r : Ev)
  | bk (r : Ev)
  | ct (r : Ev)
  | ex (x : Exn) (r : Ev)
  | no
abbrev S := Ev → SR

/-- what stays the same while a def runs: what it may not change, the data at its entry, the addresses of its parameters, the classes of errors -/
structure Kn where
  K : PySem.W.Frag
  ct : String → Option Value
structure Cn where
  G : Hp
  F0 : Hp
  A : List (Option Addr)

/-! ### data in a growing heap -/
theorem sameT {K : PySem.W.Frag} {H H' : Hp} {a : Addr} {xs : List V} (e : Same H H') (h : SqT K H a xs) : SqT K H' a xs := by
  rcases h with h | h
  · rcases h with h | ⟨o, h⟩
    · exact .inl (.inl (e _ _ h))
    · exact .inl (.inr ⟨o, e _ _ h⟩)
  · exact .inr h
mutual
theorem Dp.up {K : PySem.W.Frag} {H H' : Hp} (e : Same H H') : ∀ (d : PyData) (v : V), Dp K H v d → Dp K H' v d
  | .none, _, h => by
    cases h
    exact Dp.non
  | .bool b, _, h => by
    cases h
    exact Dp.bl b
  | .int i, _, h => by
    cases h
    exact Dp.int i
  | .str x, _, h => by
    cases h
    exact Dp.str x
  | .list ds, _, h => by
    cases h with
    | lst a b => exact Dp.lst (e.seq a) (DpAll.up e ds _ b)
  | .tuple ds, _, h => by
    cases h with
    | tup a b => exact Dp.tup (sameT e a) (DpAll.up e ds _ b)
  | .dict _, _, h => by cases h
theorem DpAll.up {K : PySem.W.Frag} {H H' : Hp} (e : Same H H') : ∀ (ds : List PyData) (vs : List V), DpAll K H vs ds → DpAll K H' vs ds
  | [], _, h => by
    cases h
    exact DpAll.nil
  | d :: ds, _, h => by
    cases h with
    | cons a b => exact DpAll.cons (Dp.up e d _ a) (DpAll.up e ds _ b)
end
theorem DpAll.len {K : PySem.W.Frag} {H : Hp} : ∀ {ds : List PyData} {vs : List V}, DpAll K H vs ds → vs.length = ds.length
  | _, _, .nil => rfl
  | _, _, .cons _ t => by
    rw [List.length_cons, List.length_cons, DpAll.len t]
theorem DpAll.get {K : PySem.W.Frag} {H : Hp} : ∀ {ds : List PyData} {vs : List V} {i : Nat} {d : PyData}, DpAll K H vs ds → ds[i]? = some d → ∃ v, vs[i]? = some v ∧ Dp K H v d
  | _, _, _, _, .nil, e => by simp at e
  | _, _, 0, _, .cons r _, e => by
    simp at e
    subst e
    exact ⟨_, rfl, r⟩
  | _, _, i + 1, _, .cons _ t, e => by
    obtain ⟨v, h1, h2⟩ := DpAll.get (i := i) t (by simpa using e)
    exact ⟨v, by simpa using h1, h2⟩
theorem DpAll.getV {K : PySem.W.Frag} {H : Hp} : ∀ {ds : List PyData} {vs : List V} {i : Nat} {v : V}, DpAll K H vs ds → vs[i]? = some v → ∃ d, ds[i]? = some d ∧ Dp K H v d
  | _, _, _, _, .nil, e => by simp at e
  | _, _, 0, _, .cons r _, e => by
    simp at e
    subst e
    exact ⟨_, rfl, r⟩
  | _, _, i + 1, _, .cons _ t, e => by
    obtain ⟨d, h1, h2⟩ := DpAll.getV (i := i) t (by simpa using e)
    exact ⟨d, by simpa using h1, h2⟩
theorem DpAll.append {K : PySem.W.Frag} {H : Hp} : ∀ {ds es : List PyData} {vs us : List V}, DpAll K H vs ds → DpAll K H us es → DpAll K H (vs ++ us) (ds ++ es)
  | _, _, _, _, .nil, s => s
  | _, _, _, _, .cons r t, s => DpAll.cons r (DpAll.append t s)
theorem DpAll.set {K : PySem.W.Frag} {H : Hp} {v : V} {d : PyData} (r : Dp K H v d) : ∀ {ds : List PyData} {vs : List V} (i : Nat), DpAll K H vs ds → DpAll K H (vs.set i v) (ds.set i d)
  | _, _, _, .nil => .nil
  | _, _, 0, .cons _ t => .cons r t
  | _, _, i + 1, .cons q t => .cons q (DpAll.set r i t)
theorem DpAll.take {K : PySem.W.Frag} {H : Hp} : ∀ {ds : List PyData} {vs : List V} (n : Nat), DpAll K H vs ds → DpAll K H (vs.take n) (ds.take n)
  | _, _, 0, _ => .nil
  | _, _, _ + 1, .nil => .nil
  | _, _, n + 1, .cons r t => .cons r (DpAll.take n t)
theorem DpAll.drop {K : PySem.W.Frag} {H : Hp} : ∀ {ds : List PyData} {vs : List V} (n : Nat), DpAll K H vs ds → DpAll K H (vs.drop n) (ds.drop n)
  | _, _, 0, r => r
  | _, _, _ + 1, .nil => .nil
  | _, _, n + 1, .cons _ t => DpAll.drop n t
theorem DpAll.one {K : PySem.W.Frag} {H : Hp} {v : V} {d : PyData} (r : Dp K H v d) : DpAll K H [v] [d] := .cons r .nil
theorem DpAll.rep {K : PySem.W.Frag} {H : Hp} {ds : List PyData} {vs : List V} (r : DpAll K H vs ds) : ∀ n : Nat, DpAll K H (List.replicate n vs).flatten (List.replicate n ds).flatten
  | 0 => .nil
  | n + 1 => by
    rw [List.replicate_succ, List.replicate_succ, List.flatten_cons, List.flatten_cons]
    exact DpAll.append r (DpAll.rep r n)

/-! ### the state: data F within the heap H, the cells of the slots -/
def CellOk (k : Kn) (c : Cn) (F H : Hp) (x : Cell) (y : Option V) : Prop := match x with
  | .u => True
  | .v d => ∃ v, y = some v ∧ Dp k.K F v d
  | .o ds => ∃ a vs, y = some (.ref a) ∧ F a = none ∧ c.G a = none ∧ H a = some (.lst vs) ∧ DpAll k.K F vs ds
  | .io j ds => ∃ a vs, y = some (.ref a) ∧ c.A[j]? = some (some a) ∧ F a = none ∧ c.G a = none ∧ H a = some (.lst vs) ∧ DpAll k.K F vs ds
  | .p _ => ∃ a, y = some (.ref a) ∧ c.A.getLast? = some (some a)
/-- the cell owns the address -/
def Own (x : Cell) (y : Option V) (a : Addr) : Prop := match x with
  | .o _ => y = some (.ref a)
  | .io _ _ => y = some (.ref a)
  | _ => False
structure Sta (k : Kn) (c : Cn) (F H : Hp) (r : Ev) (σ : List (Option V)) : Prop where
  len : r.length = σ.length
  fh : Same F H
  gh : Same c.G H
  f0 : Same c.F0 F
  fg : ∀ b o, F b = some o → c.G b ≠ none → c.F0 b ≠ none
  cell : ∀ (i : Nat) (x : Cell) (y : Option V), r[i]? = some x → σ[i]? = some y → CellOk k c F H x y
  dis : ∀ (i j : Nat) (x : Cell) (y : Option V) (x' : Cell) (y' : Option V) (a : Addr), r[i]? = some x → σ[i]? = some y → r[j]? = some x' → σ[j]? = some y' → Own x y a → Own x' y' a → i = j
theorem CellOk.own {k : Kn} {c : Cn} {F H : Hp} {x : Cell} {y : Option V} {a : Addr} (h : CellOk k c F H x y) (w : Own x y a) : F a = none ∧ c.G a = none ∧ ∃ vs, H a = some (.lst vs) := by
  cases x with
  | u => exact w.elim
  | p _ => exact w.elim
  | v d => exact w.elim
  | o ds =>
    obtain ⟨b, vs, e, f, g, z, _⟩ := h
    have w' : y = some (.ref a) := w
    rw [e] at w'
    cases w'
    exact ⟨f, g, vs, z⟩
  | io j ds =>
    obtain ⟨b, vs, e, _, f, g, z, _⟩ := h
    have w' : y = some (.ref a) := w
    rw [e] at w'
    cases w'
    exact ⟨f, g, vs, z⟩
/-- a cell stays as it is where its list is not touched -/
theorem CellOk.stay {k : Kn} {c : Cn} {F H F' H' : Hp} {x : Cell} {y : Option V} (h : CellOk k c F H x y) (e : Same F F')
    (kk : ∀ a vs, Own x y a → H a = some (.lst vs) → H' a = some (.lst vs)) (n : ∀ a, Own x y a → F' a = none) : CellOk k c F' H' x y := by
  cases x with
  | u => trivial
  | p _ => exact h
  | v d =>
    obtain ⟨v, q, z⟩ := h
    exact ⟨v, q, Dp.up e _ _ z⟩
  | o ds =>
    obtain ⟨b, vs, q, f, g, z, t⟩ := h
    exact ⟨b, vs, q, n b q, g, kk b vs q z, DpAll.up e _ _ t⟩
  | io j ds =>
    obtain ⟨b, vs, q, a, f, g, z, t⟩ := h
    exact ⟨b, vs, q, a, n b q, g, kk b vs q z, DpAll.up e _ _ t⟩
theorem same_new {H : Hp} {p : Addr} {o : HO} (h : H p = none) : Same H (upd H p o) := fun b x e => by
  rw [upd_ne (ne_of_none e h)]
  exact e
section
variable {k : Kn} {c : Cn} {F H : Hp} {r : Ev} {σ : List (Option V)}
theorem Sta.nF (s : Sta k c F H r σ) {p : Addr} (h : H p = none) : F p = none := s.fh.free h
theorem Sta.nG (s : Sta k c F H r σ) {p : Addr} (h : H p = none) : c.G p = none := s.gh.free h
/-- new data is laid -/
theorem Sta.alloc (s : Sta k c F H r σ) {p : Addr} {o : HO} (h : H p = none) : Sta k c (upd F p o) (upd H p o) r σ where
  len := s.len
  fh := fun b x e => by
    by_cases q : b = p
    · subst q
      rw [upd_same] at e ⊢
      exact e
    · rw [upd_ne q] at e ⊢
      exact s.fh b x e
  gh := fun b x e => same_new h b x (s.gh b x e)
  f0 := s.f0.trans (same_new (s.nF h))
  fg := fun b x e g => by
    by_cases q : b = p
    · subst q
      exact absurd (s.nG h) g
    · rw [upd_ne q] at e
      exact s.fg b x e g
  cell := fun i x y e1 e2 => (s.cell i x y e1 e2).stay (same_new (s.nF h)) (fun a vs w e => same_new h a _ e) fun a w => by
    obtain ⟨f, _, vs, z⟩ := (s.cell i x y e1 e2).own w
    rw [upd_ne (ne_of_none z h)]
    exact f
  dis := s.dis
/-- something new is laid that is no data -/
theorem Sta.fresh (s : Sta k c F H r σ) {p : Addr} {o : HO} (h : H p = none) : Sta k c F (upd H p o) r σ where
  len := s.len
  fh := s.fh.trans (same_new h)
  gh := s.gh.trans (same_new h)
  f0 := s.f0
  fg := s.fg
  cell := fun i x y e1 e2 => (s.cell i x y e1 e2).stay (Same.refl F) (fun a vs w e => same_new h a _ e) fun a w => ((s.cell i x y e1 e2).own w).1
  dis := s.dis
end
end Dx

namespace Dx
open PySem PySem.Spec PyProof.Rows L2

def FsOk (K : PySem.W.Frag) (F : Hp) (fv : List (Str × V)) (fs : List (Str × PyData)) : Prop := Paired (fun (p : Str × V) (q : Str × PyData) => p.1 = q.1 ∧ Dp K F p.2 q.2) fv fs
def ExRep (k : Kn) (F H : Hp) (x : Exn) (cls : Value) (dd : Option Addr) : Prop :=
  k.ct x.cls = some cls ∧ (x.fs = [] ∨ ∃ d fv, dd = some d ∧ H d = some (.xd fv) ∧ FsOk k.K F fv x.fs)
section
variable {A B : Type} {k : Kn} {c : Cn} {W : WX} {σ : List (Option V)} {F F' H H' : Hp} {r : Ev}
/-- what an answer is to bring about, the data being F -/
def Run (k : Kn) (c : Cn) (W : WX) (σ : List (Option V)) (F : Hp) (q : R A) (P : A → Ev → Hp → Hp → Prop) : Prop := match q with
  | .ok a r' => ∀ F' H', Same F F' → Sta k c F' H' r' σ → P a r' F' H'
  | .ex x r' => ∀ F' H' cls dd, Same F F' → Sta k c F' H' r' σ → ExRep k F' H' x cls dd → W cls dd σ H'
  | .no => False
theorem Run.imp {q : R A} {P Q : A → Ev → Hp → Hp → Prop} (h : Run k c W σ F q P) (kk : ∀ a r' F' H', Same F F' → Sta k c F' H' r' σ → P a r' F' H' → Q a r' F' H') : Run k c W σ F q Q := by
  cases q with
  | ok a r' => exact fun F' H' e s => kk a r' F' H' e s (h F' H' e s)
  | ex x r' => exact h
  | no => exact h
theorem Run.up {q : R A} {P : A → Ev → Hp → Hp → Prop} (h : Run k c W σ F q P) (e : Same F F') : Run k c W σ F' q P := by
  cases q with
  | ok a r' => exact fun F2 H2 e2 s => h F2 H2 (e.trans e2) s
  | ex x r' => exact fun F2 H2 cls dd e2 s => h F2 H2 cls dd (e.trans e2) s
  | no => exact h
theorem Run.bind {m : M A} {kk : A → M B} {P : B → Ev → Hp → Hp → Prop} (h : Run k c W σ F (mbind m kk r) P) : Run k c W σ F (m r) fun a r' F' H' => Sta k c F' H' r' σ ∧ Same F F' ∧ Run k c W σ F' (kk a r') P := by
  have h2 : Run k c W σ F (match m r with
    | .ok a r1 => kk a r1
    | .ex x r1 => .ex x r1
    | .no => .no) P := h
  revert h2
  cases m r with
  | ok a r' => exact fun h2 F' H' e s => ⟨s, e, Run.up h2 e⟩
  | ex x r' => exact fun h2 => h2
  | no => exact fun h2 => h2
theorem Run.opt {o : Option A} {P : A → Ev → Hp → Hp → Prop} (h : Run k c W σ F (mopt o r) P) : ∃ a, o = some a ∧ ∀ F' H', Same F F' → Sta k c F' H' r σ → P a r F' H' := by
  cases o with
  | none => exact h.elim
  | some a => exact ⟨a, rfl, h⟩
end

/-! ### readings -/
inductive Arg where
  | d (d : PyData)
  | s (i : Nat)
def ArgOk (k : Kn) (F : Hp) (σ : List (Option V)) (y : V) (a : Arg) : Prop := match a with
  | .d d => Dp k.K F y d
  | .s i => σ[i]? = some (some y)
abbrev ArgsOk (k : Kn) (F : Hp) (σ : List (Option V)) : List V → List Arg → Prop := Paired (ArgOk k F σ)
def rD (k : Kn) (W : WX) (m : M PyData) : TE := fun σ H Q => ∃ c F r, Sta k c F H r σ ∧ Run k c W σ F (m r) fun d _ F' H' => ∀ y, Dp k.K F' y d → Q y H'
/-- a list just made, owned by nobody -/
def Fresh (k : Kn) (c : Cn) (F H : Hp) (r : Ev) (σ : List (Option V)) (a : Addr) (vs : List V) (ds : List PyData) : Prop :=
  F a = none ∧ c.G a = none ∧ H a = some (.lst vs) ∧ DpAll k.K F vs ds ∧ ∀ (i : Nat) (x : Cell) (y : Option V), r[i]? = some x → σ[i]? = some y → ¬ Own x y a
def rO (k : Kn) (W : WX) (m : M (List PyData)) : TE := fun σ H Q => ∃ c F r, Sta k c F H r σ ∧ Run k c W σ F (m r) fun ds r' F' H' => ∀ a vs, Fresh k c F' H' r' σ a vs ds → Q (.ref a) H'
def rT (k : Kn) (W : WX) (m : M Bool) : TT := fun σ H Q => ∃ c F r, Sta k c F H r σ ∧ Run k c W σ F (m r) fun b _ F' H' => Q b H'
def rA (k : Kn) (W : WX) (m : M (List Arg)) : TA := fun σ H Q => ∃ c F r, Sta k c F H r σ ∧ Run k c W σ F (m r) fun as _ F' H' => ∀ ys, ArgsOk k F' σ ys as → Q ys H'
/-- data alone -/
def rL (k : Kn) (W : WX) (m : M (List PyData)) : TA := fun σ H Q => ∃ c F r, Sta k c F H r σ ∧ Run k c W σ F (m r) fun ds _ F' H' => ∀ ys, DpAll k.K F' ys ds → Q ys H'
def SRun (k : Kn) (c : Cn) (W : WX) (F : Hp) (q : SR) (D : Ends) : Prop := match q with
  | .nx r => ∀ F' H' σ, Same F F' → Sta k c F' H' r σ → D.nx σ H'
  | .rt d r => ∀ F' H' σ y, Same F F' → Sta k c F' H' r σ → Dp k.K F' y d → D.rt y H'
  | .ro ds r => ∀ F' H' σ a vs, Same F F' → Sta k c F' H' r σ → Fresh k c F' H' r σ a vs ds → D.rt (.ref a) H'
  | .bk r => ∀ F' H' σ, Same F F' → Sta k c F' H' r σ → D.bk σ H'
  | .ct r => ∀ F' H' σ, Same F F' → Sta k c F' H' r σ → D.ct σ H'
  | .ex x r => ∀ F' H' σ cls dd, Same F F' → Sta k c F' H' r σ → ExRep k F' H' x cls dd → W cls dd σ H'
  | .no => False
def rS (k : Kn) (W : WX) (m : S) : TS := fun D σ H => ∃ c F r, Sta k c F H r σ ∧ SRun k c W F (m r) D
theorem SRun.up {k : Kn} {c : Cn} {W : WX} {F F' : Hp} {q : SR} {D : Ends} (h : SRun k c W F q D) (e : Same F F') : SRun k c W F' q D := by
  cases q with
  | nx r => exact fun F2 H2 σ e2 s => h F2 H2 σ (e.trans e2) s
  | rt d r => exact fun F2 H2 σ y e2 s => h F2 H2 σ y (e.trans e2) s
  | ro ds r => exact fun F2 H2 σ a vs e2 s => h F2 H2 σ a vs (e.trans e2) s
  | bk r => exact fun F2 H2 σ e2 s => h F2 H2 σ (e.trans e2) s
  | ct r => exact fun F2 H2 σ e2 s => h F2 H2 σ (e.trans e2) s
  | ex x r => exact fun F2 H2 σ cls dd e2 s => h F2 H2 σ cls dd (e.trans e2) s
  | no => exact h
theorem pe_imp {X : Cx} {e : Expr} {t t' : TE} (h : PE X e t) (kk : ∀ σ H Q, t' σ H Q → t σ H Q) : PE X e t' := ⟨fun pins s σ H Q I q => h.run pins s σ H Q I (kk σ H Q q)⟩
theorem pt_imp {X : Cx} {e : Expr} {t t' : TT} (h : PT X e t) (kk : ∀ σ H Q, t' σ H Q → t σ H Q) : PT X e t' := ⟨fun pins s σ H Q I q => h.run pins s σ H Q I (kk σ H Q q)⟩
theorem pw_imp {X : Cx} {e : Expr} {t t' : TT} (h : PW X e t) (kk : ∀ σ H Q, t' σ H Q → t σ H Q) : PW X e t' := ⟨fun wh pins s σ H Q I q => h.run wh pins s σ H Q I (kk σ H Q q)⟩
theorem pa_imp {X : Cx} {e : List Expr} {t t' : TA} (h : PA X e t) (kk : ∀ σ H Q, t' σ H Q → t σ H Q) : PA X e t' := ⟨fun ps pins s σ H Q I q => h.run ps pins s σ H Q I (kk σ H Q q)⟩
theorem ps_imp {X : Cx} {e : Stmt} {t t' : TS} (h : PS X e t) (kk : ∀ D σ H, t' D σ H → t D σ H) : PS X e t' := ⟨fun pins s σ H D I q => h.run pins s σ H D I (kk D σ H q)⟩
theorem pss_imp {X : Cx} {e : List Stmt} {t t' : TS} (h : PSs X e t) (kk : ∀ D σ H, t' D σ H → t D σ H) : PSs X e t' := ⟨fun pins s σ H D I q => h.run pins s σ H D I (kk D σ H q)⟩

/-! ### names -/
section
variable {k : Kn} {c : Cn} {F H : Hp} {r : Ev} {σ : List (Option V)}
theorem Sta.slot (s : Sta k c F H r σ) {i : Nat} {x : Cell} (h : r[i]? = some x) : ∃ y, σ[i]? = some y ∧ CellOk k c F H x y := by
  have l := (List.getElem?_eq_some_iff.mp h).1
  rw [s.len] at l
  exact ⟨σ[i], List.getElem?_eq_getElem l, s.cell i x _ h (List.getElem?_eq_getElem l)⟩
/-- an owned list becomes data -/
theorem Sta.freeze (s : Sta k c F H r σ) {i : Nat} {ds : List PyData} {a : Addr} {vs : List V} (h : r[i]? = some (.o ds)) (ha : σ[i]? = some (some (.ref a))) (hH : H a = some (.lst vs)) (hd : DpAll k.K F vs ds) (hF : F a = none) (hG : c.G a = none) :
    Sta k c (upd F a (.lst vs)) H (r.set i (.v (.list ds))) σ where
  len := by
    rw [List.length_set]
    exact s.len
  fh := fun b x e => by
    by_cases q : b = a
    · subst q
      rw [upd_same] at e
      rw [hH]
      exact e
    · rw [upd_ne q] at e
      exact s.fh b x e
  gh := s.gh
  f0 := s.f0.trans (same_new hF)
  fg := fun b x e g => by
    by_cases q : b = a
    · subst q
      exact absurd hG g
    · rw [upd_ne q] at e
      exact s.fg b x e g
  cell := fun j x y e1 e2 => by
    by_cases q : i = j
    · subst q
      rw [List.getElem?_set_self (List.getElem?_eq_some_iff.mp h).1] at e1
      cases e1
      rw [ha] at e2
      cases e2
      exact ⟨_, rfl, Dp.lst (SqL.of upd_same) (DpAll.up (same_new hF) _ _ hd)⟩
    · rw [List.getElem?_set_ne q] at e1
      refine (s.cell j x y e1 e2).stay (same_new hF) (fun _ _ _ e => e) fun b w => ?_
      have n : b ≠ a := fun z => q (s.dis i j _ _ _ _ a h ha e1 e2 rfl (z ▸ w))
      rw [upd_ne n]
      exact ((s.cell j x y e1 e2).own w).1
  dis := fun j k x y x' y' b e1 e2 e3 e4 w w' => by
    by_cases q : i = j
    · subst q
      rw [List.getElem?_set_self (List.getElem?_eq_some_iff.mp h).1] at e1
      cases e1
      exact w.elim
    · by_cases q' : i = k
      · subst q'
        rw [List.getElem?_set_self (List.getElem?_eq_some_iff.mp h).1] at e3
        cases e3
        exact w'.elim
      · rw [List.getElem?_set_ne q] at e1
        rw [List.getElem?_set_ne q'] at e3
        exact s.dis j k x y x' y' b e1 e2 e3 e4 w w'
/-- a list just made becomes data -/
theorem Sta.adopt (s : Sta k c F H r σ) {a : Addr} {vs : List V} {ds : List PyData} (f : Fresh k c F H r σ a vs ds) : Sta k c (upd F a (.lst vs)) H r σ where
  len := s.len
  fh := fun b x e => by
    by_cases q : b = a
    · subst q
      rw [upd_same] at e
      rw [f.2.2.1]
      exact e
    · rw [upd_ne q] at e
      exact s.fh b x e
  gh := s.gh
  f0 := s.f0.trans (same_new f.1)
  fg := fun b x e g => by
    by_cases q : b = a
    · subst q
      exact absurd f.2.1 g
    · rw [upd_ne q] at e
      exact s.fg b x e g
  cell := fun j x y e1 e2 => by
    refine (s.cell j x y e1 e2).stay (same_new f.1) (fun _ _ _ e => e) fun b w => ?_
    have n : b ≠ a := fun z => f.2.2.2.2 j x y e1 e2 (z ▸ w)
    rw [upd_ne n]
    exact ((s.cell j x y e1 e2).own w).1
  dis := s.dis
theorem Fresh.data (f : Fresh k c F H r σ a vs ds) : Dp k.K (upd F a (.lst vs)) (.ref a) (.list ds) := Dp.lst (SqL.of upd_same) (DpAll.up (same_new f.1) _ _ f.2.2.2.1)
/-- a new list at a new address is nobody's -/
theorem Sta.freshL (s : Sta k c F H r σ) {p : Addr} {vs : List V} {ds : List PyData} (h : H p = none) (d : DpAll k.K F vs ds) : Fresh k c F (upd H p (.lst vs)) r σ p vs ds :=
  ⟨s.nF h, s.nG h, upd_same, d, fun i x y e1 e2 w => by
    obtain ⟨_, _, us, z⟩ := (s.cell i x y e1 e2).own w
    rw [h] at z
    cases z⟩
end
def mVar (i : Nat) : M PyData := fun r => match r[i]? with
  | some (.v d) => .ok d r
  | some (.o ds) => .ok (.list ds) (r.set i (.v (.list ds)))
  | _ => .no
section
variable {X : Cx} {k : Kn} {W : WX} {e : Expr} {A B : Type}
theorem de_var {i : Nat} (h : PE X e (tVar i)) : PE X e (rD k W (mVar i)) := pe_imp h fun σ H Q q => by
  obtain ⟨c, F, r, s, q⟩ := q
  unfold mVar at q
  cases hc : r[i]? with
  | none =>
    rw [hc] at q
    exact q.elim
  | some x =>
    obtain ⟨y, hy, ok⟩ := s.slot hc
    rw [hc] at q
    cases x with
    | u => exact q.elim
    | p _ => exact q.elim
    | io j ds => exact q.elim
    | v d =>
      obtain ⟨v, rfl, z⟩ := ok
      exact ⟨v, hy, q F H (Same.refl F) s v z⟩
    | o ds =>
      obtain ⟨a, vs, rfl, f, g, z, dd⟩ := ok
      refine ⟨.ref a, hy, q (upd F a (.lst vs)) H (same_new f) (s.freeze hc hy z dd f g) _ ?_⟩
      exact Dp.lst (SqL.of upd_same) (DpAll.up (same_new f) _ _ dd)
theorem de_c {v : V} {d : PyData} (h : PE X e (tC v)) (hd : ∀ F, Dp k.K F v d := by
    intro F
    first | exact Dp.int _ | exact Dp.str _ | exact Dp.bl _ | exact Dp.non) : PE X e (rD k W (mpure d)) := pe_imp h fun σ H Q q => by
  obtain ⟨c, F, r, s, q⟩ := q
  exact q F H (Same.refl F) s v (hd F)
/-- a list just made, as data -/
def mList (m : M (List PyData)) : M PyData := mbind m fun ds => mpure (.list ds)
theorem de_list {m : M (List PyData)} (h : PE X e (rO k W m)) : PE X e (rD k W (mList m)) := pe_imp h fun σ H Q q => by
  obtain ⟨c, F, r, s, q⟩ := q
  refine ⟨c, F, r, s, (Run.bind q).imp fun ds r' F' H' e s' ⟨_, _, z⟩ a vs f => ?_⟩
  exact z _ H' (same_new f.1) (s'.adopt f) _ f.data
end
end Dx

namespace Dx
open PySem PySem.Spec PyProof.Rows L2
section
variable {X : Cx} {k : Kn} {W : WX} {e a b : Expr} {A B : Type} {pos : Pos}
/-! ### two values, an operation -/
def OpD (k : Kn) (t : R2) (f : PyData → PyData → Option PyData) : Prop :=
  ∀ (c : Cn) (F H : Hp) (r : Ev) (σ : List (Option V)) (x y : V) (d e z : PyData) (Q : VK), Sta k c F H r σ → Dp k.K F x d → Dp k.K F y e → f d e = some z →
    (∀ F' H' v, Same F F' → Sta k c F' H' r σ → Dp k.K F' v z → Q v H') → t x y H Q
def UnD (k : Kn) (t : V → Hp → VK → Prop) (f : PyData → Option PyData) : Prop :=
  ∀ (c : Cn) (F H : Hp) (r : Ev) (σ : List (Option V)) (x : V) (d z : PyData) (Q : VK), Sta k c F H r σ → Dp k.K F x d → f d = some z →
    (∀ F' H' v, Same F F' → Sta k c F' H' r σ → Dp k.K F' v z → Q v H') → t x H Q
def orD (f g : PyData → PyData → Option PyData) : PyData → PyData → Option PyData := fun d e => (f d e).or (g d e)
theorem OpD.or {t t' : R2} {f f' : PyData → PyData → Option PyData} (h : OpD k t f) (h' : OpD k t' f') : OpD k (fun x y H Q => t x y H Q ∨ t' x y H Q) (orD f f') := by
  intro c F H r σ x y d e z Q s dx dy hz kk
  unfold orD at hz
  cases q : f d e with
  | some z' =>
    rw [q] at hz
    exact .inl (h c F H r σ x y d e z Q s dx dy (q.trans hz) kk)
  | none =>
    rw [q] at hz
    exact .inr (h' c F H r σ x y d e z Q s dx dy hz kk)
def mOp (f : PyData → PyData → Option PyData) (m n : M PyData) : M PyData := mbind m fun d => mbind n fun e => mopt (f d e)
theorem dt_op {ta : R2} {f : PyData → PyData → Option PyData} {m n : M PyData} (o : OpD k ta f) : ∀ σ H Q, rD k W (mOp f m n) σ H Q → tOp ta (rD k W m) (rD k W n) σ H Q := fun σ H Q q => by
  obtain ⟨c, F, r, s, q⟩ := q
  refine ⟨c, F, r, s, (Run.bind q).imp fun d r1 F1 H1 e1 _ ⟨s1, _, q1⟩ x dx => ?_⟩
  refine ⟨c, F1, r1, s1, (Run.bind q1).imp fun e r2 F2 H2 e2 _ ⟨s2, _, q2⟩ y dy => ?_⟩
  obtain ⟨z, hz, kk⟩ := Run.opt q2
  exact o c F2 H2 r2 σ x y d e z Q s2 (Dp.up e2 _ _ dx) dy hz fun F' H' v e3 s3 dv => kk F' H' e3 s3 v dv
theorem de_op {op : Operator} {ta : R2} {f : PyData → PyData → Option PyData} {m n : M PyData} (ho : OpR X (binaryOp op) ta) (o : OpD k ta f) (ha : PE X a (rD k W m)) (hb : PE X b (rD k W n)) :
    PE X (.BinOp a op b pos) (rD k W (mOp f m n)) := pe_imp (pe_op ho ha hb) (dt_op o)
def mUn (f : PyData → Option PyData) (m : M PyData) : M PyData := mbind m fun d => mopt (f d)
theorem dt_un {ta : V → Hp → VK → Prop} {f : PyData → Option PyData} {m : M PyData} (o : UnD k ta f) : ∀ σ H Q, rD k W (mUn f m) σ H Q → tUn ta (rD k W m) σ H Q := fun σ H Q q => by
  obtain ⟨c, F, r, s, q⟩ := q
  refine ⟨c, F, r, s, (Run.bind q).imp fun d r1 F1 H1 e1 _ ⟨s1, _, q1⟩ x dx => ?_⟩
  obtain ⟨z, hz, kk⟩ := Run.opt q1
  exact o c F1 H1 r1 σ x d z Q s1 dx hz fun F' H' v e3 s3 dv => kk F' H' e3 s3 v dv
theorem de_un {op : UnaryOp} {ta : V → Hp → VK → Prop} {f : PyData → Option PyData} {m : M PyData} (ho : UnR X (unaryOp op) ta) (o : UnD k ta f) (ha : PE X a (rD k W m)) :
    PE X (.UnaryOp op a pos) (rD k W (mUn f m)) := pe_imp (pe_un ho ha) (dt_un o)
/-! ints -/
def fI (g : Int → Int → PyData) : PyData → PyData → Option PyData
  | .int i, .int j => some (g i j)
  | _, _ => none
def fIC (C : Int → Int → Bool) (g : Int → Int → PyData) : PyData → PyData → Option PyData
  | .int i, .int j => if C i j then some (g i j) else none
  | _, _ => none
theorem dp_int {K : PySem.W.Frag} {F : Hp} {x : V} {i : Int} (h : Dp K F x (.int i)) : x = .int i := by
  cases h
  rfl
theorem dp_str {K : PySem.W.Frag} {F : Hp} {x : V} {i : Str} (h : Dp K F x (.str i)) : x = .str i := by
  cases h
  rfl
theorem dp_bl {K : PySem.W.Frag} {F : Hp} {x : V} {i : Bool} (h : Dp K F x (.bool i)) : x = .bl i := by
  cases h
  rfl
theorem dp_non {K : PySem.W.Frag} {F : Hp} {x : V} (h : Dp K F x .none) : x = .non := by
  cases h
  rfl
theorem dp_lst {K : PySem.W.Frag} {F : Hp} {x : V} {ds : List PyData} (h : Dp K F x (.list ds)) : ∃ a xs, x = .ref a ∧ SqL K F a xs ∧ DpAll K F xs ds := by
  cases h with
  | lst p q => exact ⟨_, _, rfl, p, q⟩
theorem dp_tup {K : PySem.W.Frag} {F : Hp} {x : V} {ds : List PyData} (h : Dp K F x (.tuple ds)) : ∃ a xs, x = .ref a ∧ SqT K F a xs ∧ DpAll K F xs ds := by
  cases h with
  | tup p q => exact ⟨_, _, rfl, p, q⟩
theorem opd_int {gv : Int → Int → V} {g : Int → Int → PyData} (rel : ∀ F i j, Dp k.K F (gv i j) (g i j)) : OpD k (rI0 gv) (fI g) := by
  intro c F H r σ x y d e z Q s dx dy hz kk
  unfold fI at hz
  split at hz
  · rename_i i j
    cases hz
    exact ⟨i, j, dp_int dx, dp_int dy, kk F H _ (Same.refl F) s (rel F i j)⟩
  · cases hz
theorem opd_intC {C : Int → Int → Prop} {Cb : Int → Int → Bool} {gv : Int → Int → V} {g : Int → Int → PyData} (hC : ∀ i j, Cb i j = true → C i j) (rel : ∀ F i j, Dp k.K F (gv i j) (g i j)) : OpD k (rI C gv) (fIC Cb g) := by
  intro c F H r σ x y d e z Q s dx dy hz kk
  unfold fIC at hz
  split at hz
  · rename_i i j
    split at hz
    · rename_i hc
      cases hz
      exact ⟨i, j, dp_int dx, dp_int dy, hC i j hc, kk F H _ (Same.refl F) s (rel F i j)⟩
    · cases hz
  · cases hz
def fU (g : Int → PyData) : PyData → Option PyData
  | .int i => some (g i)
  | _ => none
theorem und_int {gv : Int → V} {g : Int → PyData} (rel : ∀ F i, Dp k.K F (gv i) (g i)) : UnD k (rU gv) (fU g) := by
  intro c F H r σ x d z Q s dx hz kk
  unfold fU at hz
  split at hz
  · rename_i i
    cases hz
    exact ⟨i, dp_int dx, kk F H _ (Same.refl F) s (rel F i)⟩
  · cases hz
/-! lists, tuples, texts: + -/
def rCatS (K : PySem.W.Frag) : R2 := fun x y H Q => ∃ l b xs zs, x = .ref l ∧ y = .ref b ∧ SqL K H l xs ∧ SqL K H b zs ∧ xs.length + zs.length ≤ sizeLine ∧ ∀ p, H p = none → Q (.ref p) (upd H p (.lst (xs ++ zs)))
theorem op_catS : OpR X (binaryOp .Add) (rCatS X.K) := by
  intro pins s σ H x y v u Q I rx ry h
  obtain ⟨l, b, xs, zs, rfl, rfl, hL, hB, hz, q⟩ := h
  cases rx
  cases ry
  obtain ⟨i1, r1, p1, z1⟩ := I.list hL
  obtain ⟨i2, r2, p2, z2⟩ := I.list hB
  have l1 := r1.length
  have l2 := r2.length
  have ea : i1.toArray ++ i2.toArray = (i1 ++ i2).toArray := by simp
  obtain ⟨⟨cls, dd, data, sl⟩, n, ho, hc, _, hd⟩ := p1
  obtain ⟨⟨cls2, dd2, data2, sl2⟩, n2, ho2, hc2, _, hd2⟩ := p2
  simp only at hc hd hc2 hd2
  subst hc hd hc2 hd2
  have fin : EP X pins σ Q (.ref s.heap.objs.size) { s with heap := s.heap.push { cls := .type "list", data := .seq (i1 ++ i2).toArray }, toks := s.toks } :=
    ⟨.ref _, _, I.lnew (t' := s.toks) (r1.append r2) (by rw [List.length_append]; omega), rfl, q _ I.fresh⟩
  rw [← ea] at fin
  exact concat_meets ⟨_, ho, rfl⟩ ⟨_, ho2, rfl⟩ noFill_list_add seq_list_add PySem.F.slot_list_add PySem.F.entry_list_add (PySem.F.args_list_add_2 _ _)
    (list_addW l b i1.toArray i2.toArray n n2 dd dd2 sl sl2 (by rw [List.size_toArray, List.size_toArray]; omega)) ⟨ho, ho2, fin⟩

def fCat : PyData → PyData → Option PyData
  | .list xs, .list ys => if xs.length + ys.length ≤ sizeLine then some (.list (xs ++ ys)) else none
  | _, _ => none
def fCatT : PyData → PyData → Option PyData
  | .tuple xs, .tuple ys => if xs ≠ [] ∧ ys ≠ [] ∧ xs.length + ys.length ≤ sizeLine then some (.tuple (xs ++ ys)) else none
  | _, _ => none
def fCatX : PyData → PyData → Option PyData
  | .str x, .str y => if x.length + y.length ≤ sizeLine then some (.str (x ++ y)) else none
  | _, _ => none
theorem ne_nil {K : PySem.W.Frag} {F : Hp} {vs : List V} {ds : List PyData} (h : DpAll K F vs ds) (n : ds ≠ []) : vs ≠ [] := by
  cases h with
  | nil => exact absurd rfl n
  | cons _ _ => simp
theorem opd_cat : OpD k (rCatS k.K) fCat := by
  intro c F H r σ x y d e z Q s dx dy hz kk
  unfold fCat at hz
  split at hz
  · rename_i ds es
    split at hz
    · rename_i hc
      cases hz
      obtain ⟨a, xs, rfl, p1, q1⟩ := dp_lst dx
      obtain ⟨b, ys, rfl, p2, q2⟩ := dp_lst dy
      refine ⟨a, b, xs, ys, rfl, rfl, s.fh.seq p1, s.fh.seq p2, by rw [DpAll.len q1, DpAll.len q2]; exact hc, fun p np => ?_⟩
      exact kk (upd F p (.lst (xs ++ ys))) _ _ (same_new (s.nF np)) (s.alloc np) (Dp.lst (SqL.of upd_same) (DpAll.append (DpAll.up (same_new (s.nF np)) _ _ q1) (DpAll.up (same_new (s.nF np)) _ _ q2)))
    · cases hz
  · cases hz
theorem opd_catT : OpD k (rCatT k.K) fCatT := by
  intro c F H r σ x y d e z Q s dx dy hz kk
  unfold fCatT at hz
  split at hz
  · rename_i ds es
    split at hz
    · rename_i hc
      cases hz
      obtain ⟨a, xs, rfl, p1, q1⟩ := dp_tup dx
      obtain ⟨b, ys, rfl, p2, q2⟩ := dp_tup dy
      refine ⟨a, b, xs, ys, rfl, rfl, sameT s.fh p1, sameT s.fh p2, ne_nil q1 hc.1, by rw [DpAll.len q1, DpAll.len q2]; exact hc.2.2, fun e => absurd e (ne_nil q2 hc.2.1), fun _ p np => ?_⟩
      exact kk (upd F p (.tup (xs ++ ys))) _ _ (same_new (s.nF np)) (s.alloc np) (Dp.tup (SqT.of upd_same) (DpAll.append (DpAll.up (same_new (s.nF np)) _ _ q1) (DpAll.up (same_new (s.nF np)) _ _ q2)))
    · cases hz
  · cases hz
abbrev rCatX : R2 := fun x y H Q => ∃ i j, x = .str i ∧ y = .str j ∧ i.length + j.length ≤ sizeLine ∧ Q (.str (i ++ j)) H
theorem opd_catX : OpD k rCatX fCatX := by
  intro c F H r σ x y d e z Q s dx dy hz kk
  unfold fCatX at hz
  split at hz
  · rename_i i j
    split at hz
    · rename_i hc
      cases hz
      exact ⟨i, j, dp_str dx, dp_str dy, hc, kk F H _ (Same.refl F) s (Dp.str _)⟩
    · cases hz
  · cases hz
/-- a + b -/
def fAdd : PyData → PyData → Option PyData := orD (orD (fI fun i j => .int (i + j)) fCat) (orD fCatT fCatX)
theorem dAdd {m n : M PyData} (ha : PE X a (rD k W m)) (hb : PE X b (rD k W n)) (hK : X.K = k.K := by rfl) : PE X (.BinOp a .Add b pos) (rD k W (mOp fAdd m n)) :=
  de_op (OpR.or (OpR.or op_add (hK ▸ op_catS)) (OpR.or (hK ▸ op_catT) op_add_str)) (OpD.or (OpD.or (opd_int fun _ _ _ => Dp.int _) opd_cat) (OpD.or opd_catT opd_catX)) ha hb
def fSub : PyData → PyData → Option PyData := fI fun i j => .int (i - j)
theorem dSub {m n : M PyData} (ha : PE X a (rD k W m)) (hb : PE X b (rD k W n)) : PE X (.BinOp a .Sub b pos) (rD k W (mOp fSub m n)) :=
  de_op op_sub (opd_int fun _ _ _ => Dp.int _) ha hb
/-- sizes of factors -/
def okMul (i j : Int) : Bool := decide (i.natAbs.log2 + j.natAbs.log2 < 1000000)
def fMulI : PyData → PyData → Option PyData := fIC okMul fun i j => .int (i * j)
theorem dMulI {m n : M PyData} (ha : PE X a (rD k W m)) (hb : PE X b (rD k W n)) : PE X (.BinOp a .Mult b pos) (rD k W (mOp fMulI m n)) :=
  de_op op_mulW (opd_intC (fun i j h => by
    unfold okMul at h
    have h2 := of_decide_eq_true h
    exact h2) fun _ _ _ => Dp.int _) ha hb
def okPow (i j : Int) : Bool := decide (0 ≤ j) && decide ((Builtin.Int.intBits i : Int) * j ≤ 2 ^ 27)
theorem op_powW : OpR X (binaryOp .Pow) (rI (fun i j => okPow i j = true) fun i j => .int (i ^ j.toNat)) := opI fun _ _ _ _ _ _ _ hc q => by
  unfold okPow at hc
  rw [Bool.and_eq_true] at hc
  exact pow_int (of_decide_eq_true hc.1) (of_decide_eq_true hc.2) q
def fPow : PyData → PyData → Option PyData := fIC okPow fun i j => .int (i ^ j.toNat)
theorem dPow {m n : M PyData} (ha : PE X a (rD k W m)) (hb : PE X b (rD k W n)) : PE X (.BinOp a .Pow b pos) (rD k W (mOp fPow m n)) :=
  de_op op_powW (opd_intC (fun i j h => h) fun _ _ _ => Dp.int _) ha hb
def CFloor (i j : Int) : Prop := 0 < j ∧ j.natAbs.log2 < 9000
def okDiv (i j : Int) : Bool := decide (0 < j) && decide (j.natAbs.log2 < 9000)
def fDiv : PyData → PyData → Option PyData := fIC okDiv fun i j => .int (i / j)
theorem dDiv {m n : M PyData} (ha : PE X a (rD k W m)) (hb : PE X b (rD k W n)) : PE X (.BinOp a .FloorDiv b pos) (rD k W (mOp fDiv m n)) :=
  de_op op_fdivW (opd_intC (fun i j h => by
    unfold okDiv at h
    rw [Bool.and_eq_true] at h
    exact ⟨of_decide_eq_true h.1, of_decide_eq_true h.2⟩) fun _ _ _ => Dp.int _) ha hb
def fMod : PyData → PyData → Option PyData := fIC (fun _ j => decide (0 < j)) fun i j => .int (i % j)
theorem dMod {m n : M PyData} (ha : PE X a (rD k W m)) (hb : PE X b (rD k W n)) : PE X (.BinOp a .Mod b pos) (rD k W (mOp fMod m n)) :=
  de_op op_mod (opd_intC (fun i j h => of_decide_eq_true h) fun _ _ _ => Dp.int _) ha hb
theorem dNeg {m : M PyData} (ha : PE X a (rD k W m)) : PE X (.UnaryOp .USub a pos) (rD k W (mUn (fU fun i => .int (-i)) m)) :=
  de_un un_neg (und_int fun _ _ => Dp.int _) ha

/-! ### displays -/
variable {es : List Expr}
def mCons (m : M PyData) (ms : M (List PyData)) : M (List PyData) := mbind m fun d => mbind ms fun ds => mpure (d :: ds)
theorem lNil : PA X [] (rL k W (mpure [])) := pa_imp pa_nil fun σ H Q q => by
  obtain ⟨c, F, r, s, q⟩ := q
  exact q F H (Same.refl F) s [] DpAll.nil
theorem lCons {m : M PyData} {ms : M (List PyData)} (ha : PE X a (rD k W m)) (hr : PA X es (rL k W ms)) (hs : starEach (a :: es) X.env = (false, eval a X.env) :: starEach es X.env := by rfl) : PA X (a :: es) (rL k W (mCons m ms)) :=
  pa_imp (pa_cons ha hr hs) fun σ H Q q => by
    obtain ⟨c, F, r, s, q⟩ := q
    refine ⟨c, F, r, s, (Run.bind q).imp fun d r1 F1 H1 e1 _ ⟨s1, _, q1⟩ x dx => ?_⟩
    refine ⟨c, F1, r1, s1, (Run.bind q1).imp fun ds r2 F2 H2 e2 _ ⟨s2, _, q2⟩ ys dy => ?_⟩
    exact q2 F2 H2 (Same.refl F2) s2 _ (DpAll.cons (Dp.up e2 _ _ dx) dy)
def mFit (m : M (List PyData)) : M (List PyData) := mbind m fun ds => if ds.length ≤ sizeLine then mpure ds else mno
theorem dLst {m : M (List PyData)} (h : PA X es (rL k W m)) : PE X (.List es pos) (rO k W (mFit m)) := pe_imp (pe_lst h) fun σ H Q q => by
  obtain ⟨c, F, r, s, q⟩ := q
  refine ⟨c, F, r, s, (Run.bind q).imp fun ds r1 F1 H1 e1 _ ⟨s1, _, q1⟩ xs dx => ?_⟩
  split at q1
  · rename_i hz
    refine ⟨by rw [DpAll.len dx]; exact hz, fun p np => ?_⟩
    exact q1 F1 (upd H1 p (.lst xs)) (Same.refl F1) (s1.fresh np) p xs (s1.freshL np dx)
  · exact q1.elim
def mTup (m : M (List PyData)) : M PyData := mbind m fun ds => if ds.length ≤ sizeLine then mpure (.tuple ds) else mno
theorem dTup {x1} {m : M (List PyData)} (h : PA X es (rL k W m)) : PE X (.Tuple es x1 pos) (rD k W (mTup m)) := pe_imp (pe_tup h) fun σ H Q q => by
  obtain ⟨c, F, r, s, q⟩ := q
  refine ⟨c, F, r, s, (Run.bind q).imp fun ds r1 F1 H1 e1 _ ⟨s1, _, q1⟩ xs dx => ?_⟩
  split at q1
  · rename_i hz
    refine ⟨by rw [DpAll.len dx]; exact hz, fun p np => ?_⟩
    exact q1 (upd F1 p (.tup xs)) (upd H1 p (.tup xs)) (same_new (s1.nF np)) (s1.alloc np) _ (Dp.tup (SqT.of upd_same) (DpAll.up (same_new (s1.nF np)) _ _ dx))
  · exact q1.elim
/-- a written list, so many times -/
def mRep (m : M (List PyData)) (n : M PyData) : M (List PyData) := mbind m fun ds => mbind n fun d => match d with
  | .int i => if -(2 ^ 63) ≤ i ∧ i < 2 ^ 63 ∧ ds.length * i.toNat ≤ sizeLine then mpure (List.replicate i.toNat ds).flatten else mno
  | _ => mno
theorem dRep {m : M (List PyData)} {n : M PyData} (ha : PE X a (rO k W m)) (hb : PE X b (rD k W n)) : PE X (.BinOp a .Mult b pos) (rO k W (mRep m n)) := pe_imp (pe_op op_rep ha hb) fun σ H Q q => by
  obtain ⟨c, F, r, s, q⟩ := q
  refine ⟨c, F, r, s, (Run.bind q).imp fun ds r1 F1 H1 e1 _ ⟨s1, _, q1⟩ l vs f => ?_⟩
  refine ⟨c, _, r1, s1.adopt f, ((Run.bind q1).up (same_new f.1)).imp fun d r2 F2 H2 e2 _ ⟨s2, _, q2⟩ y dy => ?_⟩
  cases d with
  | int i =>
    have q3 : Run k c W σ F2 ((if -(2 ^ 63) ≤ i ∧ i < 2 ^ 63 ∧ ds.length * i.toNat ≤ sizeLine then mpure (List.replicate i.toNat ds).flatten else mno : M (List PyData)) r2) _ := q2
    by_cases hc : -(2 ^ 63) ≤ i ∧ i < 2 ^ 63 ∧ ds.length * i.toNat ≤ sizeLine
    · rw [if_pos hc] at q3
      have hl : H2 l = some (.lst vs) := s2.fh _ _ (e2 _ _ upd_same)
      refine ⟨l, i, vs, rfl, dp_int dy, hl, hc.1, hc.2.1, by rw [DpAll.len f.2.2.2.1]; exact hc.2.2, fun p np => ?_⟩
      refine q3 F2 (upd H2 p (.lst (List.replicate i.toNat vs).flatten)) (Same.refl F2) (s2.fresh np) p _ (s2.freshL np ?_)
      exact DpAll.rep (DpAll.up e2 _ _ (DpAll.up (same_new f.1) _ _ f.2.2.2.1)) _
    · rw [if_neg hc] at q3
      exact q3.elim
  | none => exact q2.elim
  | bool _ => exact q2.elim
  | str _ => exact q2.elim
  | list _ => exact q2.elim
  | tuple _ => exact q2.elim
  | dict _ => exact q2.elim
end
end Dx

namespace Dx
open PySem PySem.Spec PyProof.Rows L2
section
variable {X : Cx} {k : Kn} {W : WX} {e a b d : Expr} {A B : Type} {pos : Pos} {rest es : List Expr}
/-! ### comparisons -/
def fEqS : PyData → PyData → Option PyData
  | .int i, .int j => some (.bool (i == j))
  | .str i, .str j => some (.bool (i == j))
  | .bool i, .bool j => some (.bool (i == j))
  | .none, .none => some (.bool true)
  | _, _ => none
def fNeS : PyData → PyData → Option PyData
  | .int i, .int j => some (.bool (!(i == j)))
  | .str i, .str j => some (.bool (!(i == j)))
  | .bool i, .bool j => some (.bool (!(i == j)))
  | .none, .none => some (.bool false)
  | _, _ => none
theorem opd_eqS : OpD k rEq fEqS := by
  intro c F H r σ x y d e z Q s dx dy hz kk
  unfold fEqS at hz
  split at hz
  · cases hz
    rename_i i j
    have e1 := dp_int dx
    have e2 := dp_int dy
    subst e1 e2
    refine ⟨rfl, ?_⟩
    rw [dec_int]
    exact kk F H _ (Same.refl F) s (Dp.bl _)
  · cases hz
    rename_i i j
    have e1 := dp_str dx
    have e2 := dp_str dy
    subst e1 e2
    refine ⟨rfl, ?_⟩
    rw [dec_str]
    exact kk F H _ (Same.refl F) s (Dp.bl _)
  · cases hz
    rename_i i j
    have e1 := dp_bl dx
    have e2 := dp_bl dy
    subst e1 e2
    refine ⟨rfl, ?_⟩
    rw [dec_bl]
    exact kk F H _ (Same.refl F) s (Dp.bl _)
  · cases hz
    have e1 := dp_non dx
    have e2 := dp_non dy
    subst e1 e2
    exact ⟨rfl, kk F H _ (Same.refl F) s (Dp.bl _)⟩
  · cases hz
theorem opd_neS : OpD k rNe fNeS := by
  intro c F H r σ x y d e z Q s dx dy hz kk
  unfold fNeS at hz
  split at hz
  · cases hz
    rename_i i j
    have e1 := dp_int dx
    have e2 := dp_int dy
    subst e1 e2
    refine ⟨rfl, ?_⟩
    rw [dec_int]
    exact kk F H _ (Same.refl F) s (Dp.bl _)
  · cases hz
    rename_i i j
    have e1 := dp_str dx
    have e2 := dp_str dy
    subst e1 e2
    refine ⟨rfl, ?_⟩
    rw [dec_str]
    exact kk F H _ (Same.refl F) s (Dp.bl _)
  · cases hz
    rename_i i j
    have e1 := dp_bl dx
    have e2 := dp_bl dy
    subst e1 e2
    refine ⟨rfl, ?_⟩
    rw [dec_bl]
    exact kk F H _ (Same.refl F) s (Dp.bl _)
  · cases hz
    have e1 := dp_non dx
    have e2 := dp_non dy
    subst e1 e2
    exact ⟨rfl, kk F H _ (Same.refl F) s (Dp.bl _)⟩
  · cases hz
def fEqD (d e : PyData) : Option PyData := if SeqAt.shaped d = true ∧ SeqAt.shaped e = true then some (.bool (PyData.eqv d e)) else none
def fNeD (d e : PyData) : Option PyData := if SeqAt.shaped d = true ∧ SeqAt.shaped e = true then some (.bool (!PyData.eqv d e)) else none
theorem opd_eqD : OpD k (rEqD k.K) fEqD := by
  intro c F H r σ x y d e z Q s dx dy hz kk
  unfold fEqD at hz
  split at hz
  · rename_i hc
    cases hz
    exact ⟨d, e, Dp.up s.fh _ _ dx, Dp.up s.fh _ _ dy, hc.1, hc.2, kk F H _ (Same.refl F) s (Dp.bl _)⟩
  · cases hz
theorem opd_neD : OpD k (rNeD k.K) fNeD := by
  intro c F H r σ x y d e z Q s dx dy hz kk
  unfold fNeD at hz
  split at hz
  · rename_i hc
    cases hz
    exact ⟨d, e, Dp.up s.fh _ _ dx, Dp.up s.fh _ _ dy, hc.1, hc.2, kk F H _ (Same.refl F) s (Dp.bl _)⟩
  · cases hz
def fEq : PyData → PyData → Option PyData := orD fEqS fEqD
def fNe : PyData → PyData → Option PyData := orD fNeS fNeD
def fLt : PyData → PyData → Option PyData := fI fun i j => .bool (decide (i < j))
def fLe : PyData → PyData → Option PyData := fI fun i j => .bool (decide (i ≤ j))
def fGt : PyData → PyData → Option PyData := fI fun i j => .bool (decide (j < i))
def fGe : PyData → PyData → Option PyData := fI fun i j => .bool (decide (j ≤ i))
/-- a comparison: its rule and what it is of data -/
structure CmpD (X : Cx) (k : Kn) (op : CmpOp) (f : PyData → PyData → Option PyData) : Prop where
  ex : ∃ t : R2, OpR X (compareOp op) t ∧ OpD k t f
theorem cEq (hu : X.A.units + 64 < cLine) (hK : X.K = k.K := by rfl) : CmpD X k .Eq fEq := ⟨_, OpR.or op_eq (hK ▸ op_eqD hu), OpD.or opd_eqS opd_eqD⟩
theorem cNe (hu : X.A.units + 64 < cLine) (hK : X.K = k.K := by rfl) : CmpD X k .NotEq fNe := ⟨_, OpR.or op_ne (hK ▸ op_neD hu), OpD.or opd_neS opd_neD⟩
theorem cLt : CmpD X k .Lt fLt := ⟨_, op_lt, opd_int fun _ _ _ => Dp.bl _⟩
theorem cLe : CmpD X k .LtE fLe := ⟨_, op_le, opd_int fun _ _ _ => Dp.bl _⟩
theorem cGt : CmpD X k .Gt fGt := ⟨_, op_gt, opd_int fun _ _ _ => Dp.bl _⟩
theorem cGe : CmpD X k .GtE fGe := ⟨_, op_ge, opd_int fun _ _ _ => Dp.bl _⟩
/-! flat values -/
def vOf : PyData → V
  | .none => .non
  | .bool b => .bl b
  | .int i => .int i
  | .str x => .str x
  | _ => .non
def flatD : PyData → Bool
  | .none => true
  | .bool _ => true
  | .int _ => true
  | .str _ => true
  | _ => false
theorem flat_of {K : PySem.W.Frag} {F : Hp} {x : V} : ∀ {d : PyData}, Dp K F x d → flatD d = true → x = vOf d
  | .none, h, _ => dp_non h
  | .bool _, h, _ => dp_bl h
  | .int _, h, _ => dp_int h
  | .str _, h, _ => dp_str h
  | .list _, _, f => by cases f
  | .tuple _, _, f => by cases f
  | .dict _, _, f => by cases f
theorem flatV_of : ∀ {d : PyData}, flatD d = true → flatV (vOf d) = true
  | .none, _ => rfl
  | .bool _, _ => rfl
  | .int _, _ => rfl
  | .str _, _ => rfl
  | .list _, f => by cases f
  | .tuple _, f => by cases f
  | .dict _, f => by cases f
theorem flats_of {K : PySem.W.Frag} {F : Hp} : ∀ {ds : List PyData} {xs : List V}, DpAll K F xs ds → ds.all flatD = true → xs = ds.map vOf
  | _, _, .nil, _ => rfl
  | _, _, .cons h t, f => by
    rw [List.all_cons, Bool.and_eq_true] at f
    rw [List.map_cons, flat_of h f.1, flats_of t f.2]
theorem flatsV_of : ∀ {ds : List PyData}, ds.all flatD = true → (ds.map vOf).all flatV = true
  | [], _ => rfl
  | d :: ds, f => by
    rw [List.all_cons, Bool.and_eq_true] at f
    rw [List.map_cons, List.all_cons, flatV_of f.1, flatsV_of f.2]
    rfl
theorem eqV_flat {d e : PyData} (f : flatD d = true) (g : flatD e = true) : eqV (vOf d) (vOf e) = PyData.eqv d e := by
  cases d <;> cases e <;> first | (cases f; done) | (cases g; done) | (simp [vOf, eqV, PyData.eqv]; done) | rfl
theorem inV_flat {d : PyData} (f : flatD d = true) : ∀ {ds : List PyData}, ds.all flatD = true → inV (vOf d) (ds.map vOf) = ds.any fun z => PyData.eqv z d
  | [], _ => rfl
  | e :: ds, g => by
    rw [List.all_cons, Bool.and_eq_true] at g
    have ih := inV_flat f g.2
    unfold inV at ih ⊢
    rw [List.map_cons, List.any_cons, List.any_cons, eqV_flat g.1 f, ih]
def inD (neg : Bool) (d : PyData) (ds : List PyData) : PyData := .bool (if neg then !(ds.any fun z => PyData.eqv z d) else ds.any fun z => PyData.eqv z d)
/-- x in a list or a tuple of flat things -/
def fInF (neg : Bool) : PyData → PyData → Option PyData
  | d, .list ds => if flatD d = true ∧ ds.all flatD = true then some (inD neg d ds) else none
  | d, .tuple ds => if flatD d = true ∧ ds.all flatD = true then some (inD neg d ds) else none
  | _, _ => none
theorem opd_inF (neg : Bool) : OpD k (rIn k.K neg) (fInF neg) := by
  intro c F H r σ x y d e z Q s dx dy hz kk
  unfold fInF at hz
  split at hz
  · rename_i ds
    split at hz
    · rename_i hc
      cases hz
      obtain ⟨p, xs, rfl, p1, q1⟩ := dp_lst dy
      have e1 := flat_of dx hc.1
      have e2 := flats_of q1 hc.2
      subst e1 e2
      refine ⟨p, _, rfl, .inl (s.fh.seq p1), flatV_of hc.1, flatsV_of hc.2, ?_⟩
      rw [inV_flat hc.1 hc.2]
      exact kk F H _ (Same.refl F) s (Dp.bl _)
    · cases hz
  · rename_i ds
    split at hz
    · rename_i hc
      cases hz
      obtain ⟨p, xs, rfl, p1, q1⟩ := dp_tup dy
      have e1 := flat_of dx hc.1
      have e2 := flats_of q1 hc.2
      subst e1 e2
      refine ⟨p, _, rfl, .inr (sameT s.fh p1), flatV_of hc.1, flatsV_of hc.2, ?_⟩
      rw [inV_flat hc.1 hc.2]
      exact kk F H _ (Same.refl F) s (Dp.bl _)
    · cases hz
  · cases hz
def fInD (neg : Bool) : PyData → PyData → Option PyData
  | d, .list ds => if SeqAt.shaped d = true ∧ SeqAt.shaped (.list ds) = true then some (inD neg d ds) else none
  | _, _ => none
theorem opd_inD : OpD k (rInD k.K) (fInD false) := by
  intro c F H r σ x y d e z Q s dx dy hz kk
  unfold fInD at hz
  split at hz
  · rename_i ds
    split at hz
    · rename_i hc
      cases hz
      exact ⟨d, ds, Dp.up s.fh _ _ dx, Dp.up s.fh _ _ dy, hc.1, hc.2, kk F H _ (Same.refl F) s (Dp.bl _)⟩
    · cases hz
  · cases hz
theorem opd_notInD : OpD k (rNotInD k.K) (fInD true) := by
  intro c F H r σ x y d e z Q s dx dy hz kk
  unfold fInD at hz
  split at hz
  · rename_i ds
    split at hz
    · rename_i hc
      cases hz
      exact ⟨d, ds, Dp.up s.fh _ _ dx, Dp.up s.fh _ _ dy, hc.1, hc.2, kk F H _ (Same.refl F) s (Dp.bl _)⟩
    · cases hz
  · cases hz
def fIn (neg : Bool) : PyData → PyData → Option PyData := orD (fInF neg) (fInD neg)
theorem cIn (hu : X.A.units + 65 < cLine) (hK : X.K = k.K := by rfl) : CmpD X k .In (fIn false) := ⟨_, OpR.or (hK ▸ op_in_seq) (hK ▸ op_inD hu), OpD.or (opd_inF false) opd_inD⟩
theorem cNotIn (hu : X.A.units + 65 < cLine) (hK : X.K = k.K := by rfl) : CmpD X k .NotIn (fIn true) := ⟨_, OpR.or (hK ▸ op_notIn_seq) (hK ▸ op_notInD hu), OpD.or (opd_inF true) opd_notInD⟩
/-- is None -/
def isNonD : PyData → Bool
  | .none => true
  | _ => false
theorem non_iff {K : PySem.W.Frag} {F : Hp} {x : V} {d : PyData} (h : Dp K F x d) : decide (x = .non) = isNonD d := by
  cases h <;> first | rfl | simp [isNonD]
def fIs : PyData → PyData → Option PyData
  | d, .none => some (.bool (isNonD d))
  | _, _ => none
def fIsNot : PyData → PyData → Option PyData
  | d, .none => some (.bool (!isNonD d))
  | _, _ => none
theorem cIs : CmpD X k .Is fIs := ⟨_, op_isN, by
  intro c F H r σ x y d e z Q s dx dy hz kk
  unfold fIs at hz
  split at hz
  · cases hz
    refine ⟨dp_non dy, ?_⟩
    rw [non_iff dx]
    exact kk F H _ (Same.refl F) s (Dp.bl _)
  · cases hz⟩
theorem cIsNot : CmpD X k .IsNot fIsNot := ⟨_, op_notN, by
  intro c F H r σ x y d e z Q s dx dy hz kk
  unfold fIsNot at hz
  split at hz
  · cases hz
    refine ⟨dp_non dy, ?_⟩
    rw [non_iff dx]
    exact kk F H _ (Same.refl F) s (Dp.bl _)
  · cases hz⟩
theorem dCmp {op : CmpOp} {f : PyData → PyData → Option PyData} {m n : M PyData} (o : CmpD X k op f) (ha : PE X a (rD k W m)) (hb : PE X b (rD k W n)) (hm : behindInMarks op b = false) :
    PE X (.Compare a [op] [b] pos) (rD k W (mOp f m n)) := by
  obtain ⟨t, ho, od⟩ := o.ex
  exact pe_imp (pe_cmpR ho ha hb hm) (dt_op od)
/-! ### tests -/
def mBool (m : M PyData) : M Bool := mbind m fun d => match d with
  | .bool b => mpure b
  | _ => mno
theorem dt_bool {m : M PyData} : ∀ σ H Q, rT k W (mBool m) σ H Q → rD k W m σ H fun x H' => ∃ b, x = .bl b ∧ Q b H' := fun σ H Q q => by
  obtain ⟨c, F, r, s, q⟩ := q
  refine ⟨c, F, r, s, (Run.bind q).imp fun d r1 F1 H1 e1 _ ⟨s1, _, q1⟩ x dx => ?_⟩
  cases d with
  | bool b => exact ⟨b, dp_bl dx, q1 F1 H1 (Same.refl F1) s1⟩
  | int i => exact q1.elim
  | none => exact q1.elim
  | str _ => exact q1.elim
  | list _ => exact q1.elim
  | tuple _ => exact q1.elim
  | dict _ => exact q1.elim
theorem tCmpD {op : CmpOp} {f : PyData → PyData → Option PyData} {m n : M PyData} (o : CmpD X k op f) (ha : PE X a (rD k W m)) (hb : PE X b (rD k W n)) (hm : behindInMarks op b = false) :
    PT X (.Compare a [op] [b] pos) (rT k W (mBool (mOp f m n))) := by
  obtain ⟨t, ho, od⟩ := o.ex
  exact pt_imp (pt_cmpR ho ha hb hm) fun σ H Q q => dt_op od σ H _ (dt_bool σ H Q q)
/-- a op b op c -/
def mChain (f g : PyData → PyData → Option PyData) (m n o : M PyData) : M PyData := mbind m fun x => mbind n fun y => mbind (mopt (f x y)) fun z => match z with
  | .bool true => mbind o fun w => mopt (g y w)
  | .bool false => mpure (.bool false)
  | _ => mno
theorem dt_chain {t u : R2} {f g : PyData → PyData → Option PyData} {m n o : M PyData} (hf : OpD k t f) (hg : OpD k u g) : ∀ σ H Q, rD k W (mChain f g m n o) σ H Q → tChain t u (rD k W m) (rD k W n) (rD k W o) σ H Q := fun σ H Q q => by
  obtain ⟨c, F, r, s, q⟩ := q
  refine ⟨c, F, r, s, (Run.bind q).imp fun d r1 F1 H1 e1 _ ⟨s1, _, q1⟩ x dx => ?_⟩
  refine ⟨c, F1, r1, s1, (Run.bind q1).imp fun e r2 F2 H2 e2 _ ⟨s2, _, q2⟩ y dy => ?_⟩
  have q3 := Run.bind q2
  obtain ⟨z, hz, kk⟩ := Run.opt q3
  refine hf c F2 H2 r2 σ x y d e z _ s2 (Dp.up e2 _ _ dx) dy hz fun F3 H3 v e3 s3 dv => ?_
  obtain ⟨_, _, q4⟩ := kk F3 H3 e3 s3
  cases z with
  | bool b =>
    refine ⟨b, dp_bl dv, ?_⟩
    cases b with
    | true =>
      rw [if_pos rfl]
      refine ⟨c, F3, r2, s3, (Run.bind q4).imp fun w r4 F4 H4 e4 _ ⟨s4, _, q5⟩ w' dw => ?_⟩
      obtain ⟨z5, hz5, k5⟩ := Run.opt q5
      exact hg c F4 H4 r4 σ y w' e w z5 Q s4 (Dp.up (e3.trans e4) _ _ dy) dw hz5 fun F' H' v' e6 s6 dv' => k5 F' H' e6 s6 v' dv'
    | false =>
      rw [if_neg (by simp)]
      exact q4 F3 H3 (Same.refl F3) s3 _ (Dp.bl _)
  | int i => exact q4.elim
  | none => exact q4.elim
  | str _ => exact q4.elim
  | list _ => exact q4.elim
  | tuple _ => exact q4.elim
  | dict _ => exact q4.elim
theorem dChain {op op' : CmpOp} {f g : PyData → PyData → Option PyData} {m n o : M PyData} (of : CmpD X k op f) (og : CmpD X k op' g) (ha : PE X a (rD k W m)) (hb : PE X b (rD k W n)) (hd : PE X d (rD k W o))
    (hm : lastMarks [op, op'] [b, d] = false := by with_unfolding_all rfl) : PE X (.Compare a [op, op'] [b, d] pos) (rD k W (mChain f g m n o)) := by
  obtain ⟨t, ho, od⟩ := of.ex
  obtain ⟨u, ho', od'⟩ := og.ex
  exact pe_imp (pe_chain ho ho' ha hb hd hm) (dt_chain od od')
theorem tChainD {op op' : CmpOp} {f g : PyData → PyData → Option PyData} {m n o : M PyData} (of : CmpD X k op f) (og : CmpD X k op' g) (ha : PE X a (rD k W m)) (hb : PE X b (rD k W n)) (hd : PE X d (rD k W o))
    (hm : lastMarks [op, op'] [b, d] = false := by with_unfolding_all rfl) : PT X (.Compare a [op, op'] [b, d] pos) (rT k W (mBool (mChain f g m n o))) := by
  obtain ⟨t, ho, od⟩ := of.ex
  obtain ⟨u, ho', od'⟩ := og.ex
  exact pt_imp (pt_chain ho ho' ha hb hd hm) fun σ H Q q => dt_chain od od' σ H _ (dt_bool σ H Q q)
/-- a value's truth -/
def truD : PyData → Option Bool
  | .none => some false
  | .bool b => some b
  | .int i => some (i != 0)
  | .str x => if x.length ≤ sizeLine then some ((x.length : Int) != 0) else none
  | .list ds => some (!ds.isEmpty)
  | .tuple ds => some (!ds.isEmpty)
  | _ => none
theorem empty_dp {K : PySem.W.Frag} {F : Hp} {xs : List V} {ds : List PyData} (h : DpAll K F xs ds) : xs.isEmpty = ds.isEmpty := by
  cases h <;> rfl
theorem tru_dp {F H : Hp} (e : Same F H) {x : V} {d : PyData} {b : Bool} (h : Dp k.K F x d) (t : truD d = some b) : TruV k.K x H b := by
  cases d with
  | none =>
    have e1 := dp_non h
    subst e1
    cases t
    exact rfl
  | bool c =>
    have e1 := dp_bl h
    subst e1
    cases t
    exact rfl
  | int i =>
    have e1 := dp_int h
    subst e1
    cases t
    exact rfl
  | str y =>
    have e1 := dp_str h
    subst e1
    have t' : (if y.length ≤ sizeLine then some ((y.length : Int) != 0) else none) = some b := t
    split at t'
    · rename_i hc
      cases t'
      exact ⟨hc, rfl⟩
    · cases t'
  | list ds =>
    obtain ⟨a, xs, rfl, p, q⟩ := dp_lst h
    cases t
    exact .inl ⟨xs, e.seq p, by rw [empty_dp q]⟩
  | tuple ds =>
    obtain ⟨a, xs, rfl, p, q⟩ := dp_tup h
    cases t
    exact .inr (.inl ⟨xs, sameT e p, by rw [empty_dp q]⟩)
  | dict _ => cases t
def mTru (m : M PyData) : M Bool := mbind m fun d => mopt (truD d)
theorem tTru {m : M PyData} (ha : PE X a (rD k W m)) (hK : X.K = k.K := by rfl) (he : ∀ whole, isTrue a X.env whole = (do let v ← whole; standAt a.pos; holding [v] (truthy v)) := by intro _; rfl) : PT X a (rT k W (mTru m)) :=
  pt_imp (pt_truth ha he) fun σ H Q q => by
    obtain ⟨c, F, r, s, q⟩ := q
    refine ⟨c, F, r, s, (Run.bind q).imp fun d r1 F1 H1 e1 _ ⟨s1, _, q1⟩ x dx => ?_⟩
    obtain ⟨b, hb, kk⟩ := Run.opt q1
    exact ⟨b, hK ▸ tru_dp s1.fh dx hb, kk F1 H1 (Same.refl F1) s1⟩
def mAnd (m n : M Bool) : M Bool := mbind m fun b => if b = true then n else mpure false
def mOr (m n : M Bool) : M Bool := mbind m fun b => if b = true then mpure true else n
def mNot (m : M Bool) : M Bool := mbind m fun b => mpure (!b)
theorem tNotD {m : M Bool} (h : PT X a (rT k W m)) : PT X (.UnaryOp .Not a pos) (rT k W (mNot m)) := pt_imp (pt_not h) fun σ H Q q => by
  obtain ⟨c, F, r, s, q⟩ := q
  exact ⟨c, F, r, s, (Run.bind q).imp fun d r1 F1 H1 e1 _ ⟨s1, _, q1⟩ => q1 F1 H1 (Same.refl F1) s1⟩
theorem wOne {op : BoolOp} {m : M Bool} (h : PT X a (rT k W m)) : PW X (.BoolOp op [a] pos) (rT k W m) := by
  cases op with
  | And => exact pw_and1 h
  | Or => exact pw_or1 h
theorem wAnd {m n : M Bool} (h : PT X a (rT k W m)) (g : PW X (.BoolOp .And (b :: rest) pos) (rT k W n)) : PW X (.BoolOp .And (a :: b :: rest) pos) (rT k W (mAnd m n)) := pw_imp (pw_and h g) fun σ H Q q => by
  obtain ⟨c, F, r, s, q⟩ := q
  refine ⟨c, F, r, s, (Run.bind q).imp fun d r1 F1 H1 e1 _ ⟨s1, _, q1⟩ => ?_⟩
  cases d with
  | true =>
    rw [if_pos rfl] at q1 ⊢
    exact ⟨c, F1, r1, s1, q1⟩
  | false =>
    rw [if_neg (by simp)] at q1 ⊢
    exact q1 F1 H1 (Same.refl F1) s1
theorem wOr {m n : M Bool} (h : PT X a (rT k W m)) (g : PW X (.BoolOp .Or (b :: rest) pos) (rT k W n)) : PW X (.BoolOp .Or (a :: b :: rest) pos) (rT k W (mOr m n)) := pw_imp (pw_or h g) fun σ H Q q => by
  obtain ⟨c, F, r, s, q⟩ := q
  refine ⟨c, F, r, s, (Run.bind q).imp fun d r1 F1 H1 e1 _ ⟨s1, _, q1⟩ => ?_⟩
  cases d with
  | true =>
    rw [if_pos rfl] at q1 ⊢
    exact q1 F1 H1 (Same.refl F1) s1
  | false =>
    rw [if_neg (by simp)] at q1 ⊢
    exact ⟨c, F1, r1, s1, q1⟩
/-! .. as values (bools) -/
def mAndV (m n : M PyData) : M PyData := mbind m fun d => match d with
  | .bool true => n
  | .bool false => mpure (.bool false)
  | _ => mno
def mOrV (m n : M PyData) : M PyData := mbind m fun d => match d with
  | .bool false => n
  | .bool true => mpure (.bool true)
  | _ => mno
def mNotV (m : M PyData) : M PyData := mbind m fun d => match d with
  | .bool b => mpure (.bool (!b))
  | _ => mno
theorem dOne {op : BoolOp} {m : M PyData} (h : PE X a (rD k W m)) : PE X (.BoolOp op [a] pos) (rD k W m) := pe_one h
theorem dAnd {m n : M PyData} (h : PE X a (rD k W m)) (g : PE X (.BoolOp .And (b :: rest) pos) (rD k W n)) : PE X (.BoolOp .And (a :: b :: rest) pos) (rD k W (mAndV m n)) := pe_imp (pe_and h g) fun σ H Q q => by
  obtain ⟨c, F, r, s, q⟩ := q
  refine ⟨c, F, r, s, (Run.bind q).imp fun d r1 F1 H1 e1 _ ⟨s1, _, q1⟩ x dx => ?_⟩
  cases d with
  | bool b =>
    refine ⟨b, dp_bl dx, ?_⟩
    cases b with
    | true =>
      rw [if_pos rfl]
      exact ⟨c, F1, r1, s1, q1⟩
    | false =>
      rw [if_neg (by simp)]
      exact q1 F1 H1 (Same.refl F1) s1 _ (Dp.bl _)
  | int i => exact q1.elim
  | none => exact q1.elim
  | str _ => exact q1.elim
  | list _ => exact q1.elim
  | tuple _ => exact q1.elim
  | dict _ => exact q1.elim
theorem dOr {m n : M PyData} (h : PE X a (rD k W m)) (g : PE X (.BoolOp .Or (b :: rest) pos) (rD k W n)) : PE X (.BoolOp .Or (a :: b :: rest) pos) (rD k W (mOrV m n)) := pe_imp (pe_or h g) fun σ H Q q => by
  obtain ⟨c, F, r, s, q⟩ := q
  refine ⟨c, F, r, s, (Run.bind q).imp fun d r1 F1 H1 e1 _ ⟨s1, _, q1⟩ x dx => ?_⟩
  cases d with
  | bool b =>
    refine ⟨b, dp_bl dx, ?_⟩
    cases b with
    | true =>
      rw [if_pos rfl]
      exact q1 F1 H1 (Same.refl F1) s1 _ (Dp.bl _)
    | false =>
      rw [if_neg (by simp)]
      exact ⟨c, F1, r1, s1, q1⟩
  | int i => exact q1.elim
  | none => exact q1.elim
  | str _ => exact q1.elim
  | list _ => exact q1.elim
  | tuple _ => exact q1.elim
  | dict _ => exact q1.elim
theorem dNot {m : M PyData} (h : PE X a (rD k W m)) : PE X (.UnaryOp .Not a pos) (rD k W (mNotV m)) := pe_imp (pe_not h) fun σ H Q q => by
  obtain ⟨c, F, r, s, q⟩ := q
  refine ⟨c, F, r, s, (Run.bind q).imp fun d r1 F1 H1 e1 _ ⟨s1, _, q1⟩ x dx => ?_⟩
  cases d with
  | bool b => exact ⟨b, dp_bl dx, q1 F1 H1 (Same.refl F1) s1 _ (Dp.bl _)⟩
  | int i => exact q1.elim
  | none => exact q1.elim
  | str _ => exact q1.elim
  | list _ => exact q1.elim
  | tuple _ => exact q1.elim
  | dict _ => exact q1.elim
def mIf {A : Type} (t : M Bool) (m n : M A) : M A := mbind t fun b => if b = true then m else n
theorem dIf {t : M Bool} {m n : M PyData} (ht : PT X d (rT k W t)) (ha : PE X a (rD k W m)) (hb : PE X b (rD k W n)) : PE X (.IfExp d a b pos) (rD k W (mIf t m n)) := pe_imp (pe_ifExp ht ha hb) fun σ H Q q => by
  obtain ⟨c, F, r, s, q⟩ := q
  refine ⟨c, F, r, s, (Run.bind q).imp fun d r1 F1 H1 e1 _ ⟨s1, _, q1⟩ => ?_⟩
  cases d with
  | true =>
    rw [if_pos rfl] at q1 ⊢
    exact ⟨c, F1, r1, s1, q1⟩
  | false =>
    rw [if_neg (by simp)] at q1 ⊢
    exact ⟨c, F1, r1, s1, q1⟩
theorem oIf {t : M Bool} {m n : M (List PyData)} (ht : PT X d (rT k W t)) (ha : PE X a (rO k W m)) (hb : PE X b (rO k W n)) : PE X (.IfExp d a b pos) (rO k W (mIf t m n)) := pe_imp (pe_ifExp ht ha hb) fun σ H Q q => by
  obtain ⟨c, F, r, s, q⟩ := q
  refine ⟨c, F, r, s, (Run.bind q).imp fun d r1 F1 H1 e1 _ ⟨s1, _, q1⟩ => ?_⟩
  cases d with
  | true =>
    rw [if_pos rfl] at q1 ⊢
    exact ⟨c, F1, r1, s1, q1⟩
  | false =>
    rw [if_neg (by simp)] at q1 ⊢
    exact ⟨c, F1, r1, s1, q1⟩
end
end Dx

namespace Dx
open PySem PySem.Spec PyProof.Rows L2
section
variable {k : Kn} {c : Cn} {F H : Hp} {r : Ev} {σ : List (Option V)}
/-! ### storing into a slot -/
theorem Sta.put (s : Sta k c F H r σ) {i : Nat} {v : V} {d : PyData} (hi : i < r.length) (dv : Dp k.K F v d) : Sta k c F H (r.set i (.v d)) (σ.set i (some v)) where
  len := by
    rw [List.length_set, List.length_set]
    exact s.len
  fh := s.fh
  gh := s.gh
  f0 := s.f0
  fg := s.fg
  cell := fun j x y e1 e2 => by
    by_cases q : i = j
    · subst q
      rw [List.getElem?_set_self hi] at e1
      rw [List.getElem?_set_self (s.len ▸ hi)] at e2
      cases e1
      cases e2
      exact ⟨v, rfl, dv⟩
    · rw [List.getElem?_set_ne q] at e1 e2
      exact s.cell j x y e1 e2
  dis := fun j l x y x' y' b e1 e2 e3 e4 w w' => by
    by_cases q : i = j
    · subst q
      rw [List.getElem?_set_self hi] at e1
      cases e1
      exact w.elim
    · by_cases q' : i = l
      · subst q'
        rw [List.getElem?_set_self hi] at e3
        cases e3
        exact w'.elim
      · rw [List.getElem?_set_ne q] at e1 e2
        rw [List.getElem?_set_ne q'] at e3 e4
        exact s.dis j l x y x' y' b e1 e2 e3 e4 w w'
theorem Sta.putO (s : Sta k c F H r σ) {i : Nat} {a : Addr} {vs : List V} {ds : List PyData} (hi : i < r.length) (f : Fresh k c F H r σ a vs ds) : Sta k c F H (r.set i (.o ds)) (σ.set i (some (.ref a))) where
  len := by
    rw [List.length_set, List.length_set]
    exact s.len
  fh := s.fh
  gh := s.gh
  f0 := s.f0
  fg := s.fg
  cell := fun j x y e1 e2 => by
    by_cases q : i = j
    · subst q
      rw [List.getElem?_set_self hi] at e1
      rw [List.getElem?_set_self (s.len ▸ hi)] at e2
      cases e1
      cases e2
      exact ⟨a, vs, rfl, f.1, f.2.1, f.2.2.1, f.2.2.2.1⟩
    · rw [List.getElem?_set_ne q] at e1 e2
      exact s.cell j x y e1 e2
  dis := fun j l x y x' y' b e1 e2 e3 e4 w w' => by
    by_cases q : i = j
    · by_cases q' : i = l
      · exact q.symm.trans q'
      · subst q
        rw [List.getElem?_set_self hi] at e1
        rw [List.getElem?_set_self (s.len ▸ hi)] at e2
        cases e1
        cases e2
        rw [List.getElem?_set_ne q'] at e3 e4
        have w2 : some (V.ref a) = some (V.ref b) := w
        cases w2
        exact absurd w' (f.2.2.2.2 l x' y' e3 e4)
    · by_cases q' : i = l
      · subst q'
        rw [List.getElem?_set_self hi] at e3
        rw [List.getElem?_set_self (s.len ▸ hi)] at e4
        cases e3
        cases e4
        rw [List.getElem?_set_ne q] at e1 e2
        have w2 : some (V.ref a) = some (V.ref b) := w'
        cases w2
        exact absurd w (f.2.2.2.2 j x y e1 e2)
      · rw [List.getElem?_set_ne q] at e1 e2
        rw [List.getElem?_set_ne q'] at e3 e4
        exact s.dis j l x y x' y' b e1 e2 e3 e4 w w'
theorem Sta.forget (s : Sta k c F H r σ) {i : Nat} {y : Option V} : Sta k c F H (r.set i .u) (σ.set i y) where
  len := by
    rw [List.length_set, List.length_set]
    exact s.len
  fh := s.fh
  gh := s.gh
  f0 := s.f0
  fg := s.fg
  cell := fun j x y e1 e2 => by
    by_cases q : i = j
    · subst q
      by_cases hi : i < r.length
      · rw [List.getElem?_set_self hi] at e1
        cases e1
        trivial
      · rw [List.getElem?_eq_none (by rw [List.length_set]; omega)] at e1
        cases e1
    · rw [List.getElem?_set_ne q] at e1 e2
      exact s.cell j x y e1 e2
  dis := fun j l x y x' y' b e1 e2 e3 e4 w w' => by
    by_cases q : i = j
    · subst q
      by_cases hi : i < r.length
      · rw [List.getElem?_set_self hi] at e1
        cases e1
        exact w.elim
      · rw [List.getElem?_eq_none (by rw [List.length_set]; omega)] at e1
        cases e1
    · by_cases q' : i = l
      · subst q'
        by_cases hi : i < r.length
        · rw [List.getElem?_set_self hi] at e3
          cases e3
          exact w'.elim
        · rw [List.getElem?_eq_none (by rw [List.length_set]; omega)] at e3
          cases e3
      · rw [List.getElem?_set_ne q] at e1 e2
        rw [List.getElem?_set_ne q'] at e3 e4
        exact s.dis j l x y x' y' b e1 e2 e3 e4 w w'
/-- the owned list at slot i is written -/
theorem Sta.write (s : Sta k c F H r σ) {i : Nat} {x x' : Cell} {a : Addr} {vs : List V} (h : r[i]? = some x) (ha : σ[i]? = some (some (.ref a))) (w : Own x (some (.ref a)) a) (w' : Own x' (some (.ref a)) a)
    (ok : CellOk k c F (upd H a (.lst vs)) x' (some (.ref a))) : Sta k c F (upd H a (.lst vs)) (r.set i x') σ where
  len := by
    rw [List.length_set]
    exact s.len
  fh := fun b z e => by
    have q : b ≠ a := fun q => by
      subst q
      rw [((s.cell i x _ h ha).own w).1] at e
      cases e
    rw [upd_ne q]
    exact s.fh b z e
  gh := fun b z e => by
    have q : b ≠ a := fun q => by
      subst q
      rw [((s.cell i x _ h ha).own w).2.1] at e
      cases e
    rw [upd_ne q]
    exact s.gh b z e
  f0 := s.f0
  fg := s.fg
  cell := fun j z y e1 e2 => by
    by_cases q : i = j
    · subst q
      rw [List.getElem?_set_self (List.getElem?_eq_some_iff.mp h).1] at e1
      rw [ha] at e2
      cases e1
      cases e2
      exact ok
    · rw [List.getElem?_set_ne q] at e1
      refine (s.cell j z y e1 e2).stay (Same.refl F) (fun b us w2 e => ?_) fun b w2 => ((s.cell j z y e1 e2).own w2).1
      have n : b ≠ a := fun q2 => q (s.dis i j _ _ _ _ a h ha e1 e2 w (q2 ▸ w2))
      rw [upd_ne n]
      exact e
  dis := fun j l z y z' y' b e1 e2 e3 e4 w1 w2 => by
    have key : ∀ (j : Nat) (z : Cell) (y : Option V), (r.set i x')[j]? = some z → σ[j]? = some y → Own z y b → ∃ z0, r[j]? = some z0 ∧ Own z0 y b := fun j z y e1 e2 w1 => by
      by_cases q : i = j
      · subst q
        rw [List.getElem?_set_self (List.getElem?_eq_some_iff.mp h).1] at e1
        rw [ha] at e2
        cases e1
        cases e2
        refine ⟨x, h, ?_⟩
        have e : b = a := by
          cases x' with
          | u => exact w1.elim
          | p _ => exact w1.elim
          | v _ => exact w1.elim
          | o _ =>
            have w3 : some (V.ref a) = some (V.ref b) := w1
            cases w3
            rfl
          | io _ _ =>
            have w3 : some (V.ref a) = some (V.ref b) := w1
            cases w3
            rfl
        rw [e]
        exact w
      · rw [List.getElem?_set_ne q] at e1
        exact ⟨z, e1, w1⟩
    obtain ⟨z0, f1, f2⟩ := key j z y e1 e2 w1
    obtain ⟨z1, f3, f4⟩ := key l z' y' e3 e4 w2
    exact s.dis j l z0 y z1 y' b f1 e2 f3 e4 f2 f4
/-! ### a list that is held by nobody is kept, as a part of what may not change -/
theorem Sta.hold (s : Sta k c F H r σ) {a : Addr} {vs : List V} {ds : List PyData} (f : Fresh k c F H r σ a vs ds) : Sta k ⟨upd c.G a (.lst vs), F, c.A⟩ F H r σ where
  len := s.len
  fh := s.fh
  gh := fun b z e => by
    have e' : upd c.G a (.lst vs) b = some z := e
    by_cases q : b = a
    · subst q
      rw [upd_same] at e'
      rw [f.2.2.1]
      exact e'
    · rw [upd_ne q] at e'
      exact s.gh b z e'
  f0 := Same.refl F
  fg := fun b z e _ => by
    show F b ≠ none
    rw [e]
    simp
  cell := fun j x y e1 e2 => by
    have o := s.cell j x y e1 e2
    have key : ∀ b, Own x y b → upd c.G a (.lst vs) b = none := fun b w => by
      have n : b ≠ a := fun q => f.2.2.2.2 j x y e1 e2 (by
        rw [← q]
        exact w)
      rw [upd_ne n]
      exact (o.own w).2.1
    cases x with
    | u => trivial
    | p _ => exact o
    | v d => exact o
    | o ds =>
      obtain ⟨b, us, q, f1, g1, z, t⟩ := o
      exact ⟨b, us, q, f1, key b q, z, t⟩
    | io l ds =>
      obtain ⟨b, us, q, p, f1, g1, z, t⟩ := o
      exact ⟨b, us, q, p, f1, key b q, z, t⟩
  dis := s.dis
theorem Sta.unhold {F' H' : Hp} {r' : Ev} {σ' : List (Option V)} (s : Sta k c F H r σ) {a : Addr} {vs : List V} {ds : List PyData} (f : Fresh k c F H r σ a vs ds) (s' : Sta k ⟨upd c.G a (.lst vs), F, c.A⟩ F' H' r' σ') :
    Sta k c F' H' r' σ' ∧ Fresh k c F' H' r' σ' a vs ds := by
  have hG : ∀ b z, c.G b = some z → upd c.G a (.lst vs) b = some z := fun b z e => by
    rw [upd_ne (ne_of_none e f.2.1)]
    exact e
  have nF : F' a = none := by
    cases q : F' a with
    | none => rfl
    | some z =>
      have z1 := s'.fg a z q (show upd c.G a (.lst vs) a ≠ none by rw [upd_same]; simp)
      exact absurd f.1 z1
  refine ⟨⟨s'.len, s'.fh, fun b z e => s'.gh b z (hG b z e), s.f0.trans s'.f0, fun b z e g => ?_, fun j x y e1 e2 => ?_, s'.dis⟩, nF, f.2.1, s'.gh a _ upd_same, DpAll.up s'.f0 _ _ f.2.2.2.1, fun j x y e1 e2 w => ?_⟩
  · have z1 : F b ≠ none := s'.fg b z e (by
      cases q : c.G b with
      | none => exact absurd q g
      | some o =>
        show upd c.G a (.lst vs) b ≠ none
        rw [hG b o q]
        simp)
    cases q : F b with
    | none => exact absurd q z1
    | some o => exact s.fg b o q g
  · have o := s'.cell j x y e1 e2
    have key : ∀ b, upd c.G a (.lst vs) b = none → c.G b = none := fun b e => by
      cases q : c.G b with
      | none => rfl
      | some z =>
        rw [hG b z q] at e
        cases e
    cases x with
    | u => trivial
    | p _ => exact o
    | v d => exact o
    | o ds =>
      obtain ⟨b, us, q, f1, g1, z, t⟩ := o
      exact ⟨b, us, q, f1, key b g1, z, t⟩
    | io l ds =>
      obtain ⟨b, us, q, p, f1, g1, z, t⟩ := o
      exact ⟨b, us, q, p, f1, key b g1, z, t⟩
  · have z1 : upd c.G a (.lst vs) a = none := ((s'.cell j x y e1 e2).own w).2.1
    rw [upd_same] at z1
    cases z1
end
end Dx

namespace Dx
open PySem PySem.Spec PyProof.Rows L2
def sBind {A : Type} (m : M A) (f : A → S) : S := fun r => match m r with
  | .ok a r1 => f a r1
  | .ex x r1 => .ex x r1
  | .no => .no
section
variable {k : Kn} {c : Cn} {F H : Hp} {r : Ev} {σ : List (Option V)} {W : WX} {A : Type}
theorem SRun.bind {m : M A} {f : A → S} {D : Ends} (h : SRun k c W F (sBind m f r) D) : Run k c W σ F (m r) fun a r1 F1 H1 => Sta k c F1 H1 r1 σ ∧ Same F F1 ∧ SRun k c W F1 (f a r1) D := by
  have h2 : SRun k c W F (match m r with
    | .ok a r1 => f a r1
    | .ex x r1 => .ex x r1
    | .no => .no) D := h
  revert h2
  cases m r with
  | ok a r' => exact fun h2 F' H' e s => ⟨s, e, SRun.up h2 e⟩
  | ex x r' => exact fun h2 F' H' cls dd e s z => h2 F' H' σ cls dd e s z
  | no => exact fun h2 => h2
end
/-! ### targets -/
abbrev G1 := PyData → M Unit
abbrev Gn := List PyData → M Unit
/-- but for the slots at js all is as it was -/
def Keep (js : List Nat) (σ σ' : List (Option V)) : Prop := σ'.length = σ.length ∧ ∀ j, j ∉ js → σ'[j]? = σ[j]?
theorem Keep.refl (js : List Nat) (σ : List (Option V)) : Keep js σ σ := ⟨rfl, fun _ _ => rfl⟩
theorem Keep.trans {js ls : List Nat} {σ σ1 σ2 : List (Option V)} (a : Keep js σ σ1) (b : Keep ls σ1 σ2) : Keep (js ++ ls) σ σ2 :=
  ⟨b.1.trans a.1, fun j h => (b.2 j fun q => h (List.mem_append_right _ q)).trans (a.2 j fun q => h (List.mem_append_left _ q))⟩
def GRun (k : Kn) (c : Cn) (F : Hp) (σ : List (Option V)) (js : List Nat) (q : R Unit) (Q : List (Option V) → Hp → Prop) : Prop := match q with
  | .ok _ r' => ∀ F' H' σ', Keep js σ σ' → Same F F' → Sta k c F' H' r' σ' → Q σ' H'
  | _ => False
def rG (k : Kn) (js : List Nat) (g : G1) : TG := fun v σ H Q => ∃ c F r d, Sta k c F H r σ ∧ Dp k.K F v d ∧ GRun k c F σ js (g d r) Q
def rGs (k : Kn) (js : List Nat) (g : Gn) : TGs := fun vs σ H Q => ∃ c F r ds, Sta k c F H r σ ∧ DpAll k.K F vs ds ∧ GRun k c F σ js (g ds r) Q
def gN (i : Nat) : G1 := fun d r => if i < r.length then .ok () (r.set i (.v d)) else .no
def gsNil : Gn
  | [] => mpure ()
  | _ => mno
def gsCons (g : G1) (gs : Gn) : Gn
  | d :: ds => fun r => match g d r with
    | .ok _ r1 => gs ds r1
    | .ex x r1 => .ex x r1
    | .no => .no
  | [] => mno
def gUn (n : Nat) (gs : Gn) : G1
  | .tuple ds => if ds.length = n then gs ds else mno
  | _ => mno
section
variable {X : Cx} {k : Kn} {W : WX} {e a b d tg : Expr} {A B : Type} {pos : Pos} {rest es : List Expr}
theorem pg_imp {t t' : TG} (h : PG X tg t) (kk : ∀ v σ H Q, t' v σ H Q → t v σ H Q) : PG X tg t' := ⟨fun pins s σ H v u Q I rv q => h.run pins s σ H v u Q I rv (kk v σ H Q q)⟩
theorem pgs_imp {t t' : TGs} (h : PGs X es t) (kk : ∀ v σ H Q, t' v σ H Q → t v σ H Q) : PGs X es t' := ⟨fun pins s σ H v u Q I rv q => h.run pins s σ H v u Q I rv (kk v σ H Q q)⟩
theorem GRun.up {c : Cn} {F F' : Hp} {σ : List (Option V)} {js : List Nat} {q : R Unit} {Q : List (Option V) → Hp → Prop} (h : GRun k c F σ js q Q) (e : Same F F') : GRun k c F' σ js q Q := by
  cases q with
  | ok _ r' => exact fun F2 H2 σ2 kp e2 s => h F2 H2 σ2 kp (e.trans e2) s
  | ex x r' => exact h
  | no => exact h
theorem gName_d {i : Nat} (h : PG X tg (gName i)) : PG X tg (rG k [i] (gN i)) := pg_imp h fun v σ H Q q => by
  obtain ⟨c, F, r, d, s, dv, q⟩ := q
  unfold gN at q
  split at q
  · rename_i hi
    refine q F H _ ⟨List.length_set, fun j h => ?_⟩ (Same.refl F) (s.put hi dv)
    exact List.getElem?_set_ne fun (e : i = j) => h (by
      rw [← e]
      exact List.mem_singleton_self _)
  · exact q.elim
theorem gNil_d : PGs X [] (rGs k [] gsNil) := pgs_imp pgs_nil fun vs σ H Q q => by
  obtain ⟨c, F, r, ds, s, dv, q⟩ := q
  cases dv with
  | nil => exact ⟨rfl, q F H σ (Keep.refl _ _) (Same.refl F) s⟩
  | cons _ _ => exact q.elim
theorem gCons_d {g : G1} {gs : Gn} {js ls : List Nat} (h1 : PG X tg (rG k js g)) (h2 : PGs X es (rGs k ls gs)) (hs : (assignEach (tg :: es) X.env).map (·.2) = assign tg X.env :: (assignEach es X.env).map (·.2) := by rfl) :
    PGs X (tg :: es) (rGs k (js ++ ls) (gsCons g gs)) := pgs_imp (pgs_cons h1 h2 hs) fun vs σ H Q q => by
  obtain ⟨c, F, r, ds, s, dv, q⟩ := q
  cases dv with
  | nil => exact q.elim
  | @cons v vs d ds d1 d2 =>
    refine ⟨v, vs, rfl, c, F, r, d, s, d1, ?_⟩
    have q2 : GRun k c F σ (js ++ ls) (match g d r with
      | .ok _ r1 => gs ds r1
      | .ex x r1 => .ex x r1
      | .no => .no) Q := q
    revert q2
    cases g d r with
    | ok _ r1 =>
      intro q2 F1 H1 σ1 kp e1 s1
      refine ⟨c, F1, r1, ds, s1, DpAll.up e1 _ _ d2, ?_⟩
      have q3 : GRun k c F σ (js ++ ls) (gs ds r1) Q := q2
      revert q3
      cases gs ds r1 with
      | ok _ r2 => exact fun q2 F2 H2 σ2 kp2 e2 s2 => q2 F2 H2 σ2 (kp.trans kp2) (e1.trans e2) s2
      | ex x r2 => exact fun q2 => q2
      | no => exact fun q2 => q2
    | ex x r1 => exact fun q2 => q2
    | no => exact fun q2 => q2
theorem gTup_d {gs : Gn} {kk n : Nat} {js : List Nat} (hc : X.calm = true) (h : PGs X es (rGs k js gs)) (hK : X.K = k.K := by rfl) (hn : (assignEach es X.env).length = n := by rfl) (hst : (assignEach es X.env).findIdx? (·.1) = none := by rfl) :
    PG X (.Tuple es kk pos) (rG k js (gUn n gs)) := pg_imp (pg_tup hc h hn hst) fun v σ H Q q => by
  obtain ⟨c, F, r, d, s, dv, q⟩ := q
  cases d with
  | tuple ds =>
    have q2 : GRun k c F σ js ((if ds.length = n then gs ds else mno : M Unit) r) Q := q
    split at q2
    · rename_i hn
      obtain ⟨a, xs, rfl, p1, q1⟩ := dp_tup dv
      exact ⟨a, xs, rfl, hK ▸ sameT s.fh p1, by rw [DpAll.len q1]; exact hn, c, F, r, ds, s, q1, q2⟩
    · exact q2.elim
  | int i => exact q.elim
  | none => exact q.elim
  | str _ => exact q.elim
  | list _ => exact q.elim
  | bool _ => exact q.elim
  | dict _ => exact q.elim
/-! ### simple statements -/
theorem sNil : PSs X [] (rS k W .nx) := pss_imp pss_nil fun D σ H q => by
  obtain ⟨c, F, r, s, q⟩ := q
  exact q F H σ (Same.refl F) s
def sSeq (m n : S) : S := fun r => match m r with
  | .nx r1 => n r1
  | q => q
theorem sCons {st : Stmt} {sts : List Stmt} {m n : S} (h1 : PS X st (rS k W m)) (h2 : PSs X sts (rS k W n)) : PSs X (st :: sts) (rS k W (sSeq m n)) := pss_imp (pss_cons h1 h2) fun D σ H q => by
  obtain ⟨c, F, r, s, q⟩ := q
  refine ⟨c, F, r, s, ?_⟩
  have q2 : SRun k c W F (match m r with
    | .nx r1 => n r1
    | q => q) D := q
  revert q2
  cases m r with
  | nx r1 => exact fun q2 F1 H1 σ1 e1 s1 => ⟨c, F1, r1, s1, SRun.up q2 e1⟩
  | rt d r1 => exact fun q2 => q2
  | ro d r1 => exact fun q2 => q2
  | bk r1 => exact fun q2 => q2
  | ct r1 => exact fun q2 => q2
  | ex x r1 => exact fun q2 => q2
  | no => exact fun q2 => q2
theorem sOne {st : Stmt} {m : S} (h1 : PS X st (rS k W m)) : PSs X [st] (rS k W m) := pss_one h1
def sAsg (m : M PyData) (g : G1) : S := sBind m fun d r => match g d r with
  | .ok _ r1 => .nx r1
  | _ => .no
theorem dt_asg {m : M PyData} {g : G1} (js : List Nat) : ∀ D σ H, rS k W (sAsg m g) D σ H → tAsg (rD k W m) (rG k js g) D σ H := fun D σ H q => by
  obtain ⟨c, F, r, s, q⟩ := q
  refine ⟨c, F, r, s, (SRun.bind q).imp fun d r1 F1 H1 e1 _ ⟨s1, _, q1⟩ y dy => ?_⟩
  refine ⟨c, F1, r1, d, s1, dy, ?_⟩
  have q2 : SRun k c W F1 (match g d r1 with
    | .ok _ r1 => .nx r1
    | _ => .no) D := q1
  revert q2
  cases g d r1 with
  | ok _ r2 => exact fun q2 F2 H2 σ2 _ e2 s2 => q2 F2 H2 σ2 e2 s2
  | ex x r2 => exact fun q2 => q2.elim
  | no => exact fun q2 => q2.elim
theorem sSet {i : Nat} {x : Str} {m : M PyData} {pos' : Pos} (hN : X.N.Nodup) (hi : X.N[i]? = some x) (hx : Loc X.env.scope x) (he : PE X e (rD k W m)) (hs : swapsWith e (some (.Name x pos')) pos.line X.env = pure false := by rfl)
    (hf : X.fn x = true ∨ X.env.scope.names.lookup x = some .local := by first | exact .inl rfl | exact .inr rfl | assumption) : PS X (.Assign [.Name x pos'] e pos) (rS k W (sAsg m (gN i))) :=
  ps_imp (ps_set hN hi hx he hs hf) fun D σ H q => by
    obtain ⟨v, q⟩ : ∃ v, v = q := ⟨_, rfl⟩
    have q2 := dt_asg [i] D σ H v
    obtain ⟨c, F, r, s, q3⟩ := q2
    refine ⟨c, F, r, s, q3.imp fun d r1 F1 H1 e1 s1 q4 y dy => ?_⟩
    obtain ⟨c', F', r', d', s', dv', q5⟩ := q4 y dy
    unfold gN at q5
    split at q5
    · rename_i hi
      refine q5 F' H1 _ ⟨List.length_set, fun j h => ?_⟩ (Same.refl F') (s'.put hi dv')
      exact List.getElem?_set_ne fun (e : i = j) => h (by
      rw [← e]
      exact List.mem_singleton_self _)
    · exact q5.elim
/-- (a, b, ..) = e -/
theorem sAsgG {m : M PyData} {g : G1} {js : List Nat} (he : PE X e (rD k W m)) (hg : PG X tg (rG k js g)) (hs : swapsWithSole [tg] e pos.line X.env = pure false := by rfl) (hw : swappedStores [tg] e X.env = pure none := by rfl)
    (h1 : (assignEach [tg] X.env).map (·.2) = [assign tg X.env] := by rfl) : PS X (.Assign [tg] e pos) (rS k W (sAsg m g)) := ps_imp (ps_asg he hg hs hw h1) (dt_asg js)
/-- a list of one's own -/
def sOwn (m : M (List PyData)) (i : Nat) : S := sBind m fun ds r => if i < r.length then .nx (r.set i (.o ds)) else .no
theorem sSetO {i : Nat} {x : Str} {m : M (List PyData)} {pos' : Pos} (hN : X.N.Nodup) (hi : X.N[i]? = some x) (hx : Loc X.env.scope x) (he : PE X e (rO k W m)) (hs : swapsWith e (some (.Name x pos')) pos.line X.env = pure false := by rfl)
    (hf : X.fn x = true ∨ X.env.scope.names.lookup x = some .local := by first | exact .inl rfl | exact .inr rfl | assumption) : PS X (.Assign [.Name x pos'] e pos) (rS k W (sOwn m i)) :=
  ps_imp (ps_set hN hi hx he hs hf) fun D σ H q => by
    obtain ⟨c, F, r, s, q⟩ := q
    refine ⟨c, F, r, s, (SRun.bind q).imp fun ds r1 F1 H1 e1 _ ⟨s1, _, q1⟩ a vs f => ?_⟩
    split at q1
    · rename_i hi
      exact q1 F1 H1 _ (Same.refl F1) (s1.putO hi f)
    · exact q1.elim
def sRet (m : M PyData) : S := sBind m fun d r => .rt d r
theorem sRetD {m : M PyData} (he : PE X e (rD k W m)) : PS X (.Return (some e) pos) (rS k W (sRet m)) := ps_imp (ps_ret he) fun D σ H q => by
  obtain ⟨c, F, r, s, q⟩ := q
  exact ⟨c, F, r, s, (SRun.bind q).imp fun d r1 F1 H1 e1 _ ⟨s1, _, q1⟩ y dy => q1 F1 H1 σ y (Same.refl F1) s1 dy⟩
def sRetL (m : M (List PyData)) : S := sBind m fun ds r => .ro ds r
theorem sRetO {m : M (List PyData)} (he : PE X e (rO k W m)) : PS X (.Return (some e) pos) (rS k W (sRetL m)) := ps_imp (ps_ret he) fun D σ H q => by
  obtain ⟨c, F, r, s, q⟩ := q
  exact ⟨c, F, r, s, (SRun.bind q).imp fun ds r1 F1 H1 e1 _ ⟨s1, _, q1⟩ a vs f => q1 F1 H1 σ a vs (Same.refl F1) s1 f⟩
theorem sRetN : PS X (.Return none pos) (rS k W fun r => .rt .none r) := ps_imp ps_retN fun D σ H q => by
  obtain ⟨c, F, r, s, q⟩ := q
  exact q F H σ _ (Same.refl F) s Dp.non
def sDrop (m : M PyData) : S := sBind m fun _ r => .nx r
theorem sExpr {m : M PyData} (he : PE X e (rD k W m)) (hs : swapsWith e none pos.line X.env = pure false := by rfl) : PS X (.Expr e pos) (rS k W (sDrop m)) := ps_imp (ps_expr he hs) fun D σ H q => by
  obtain ⟨c, F, r, s, q⟩ := q
  exact ⟨c, F, r, s, (SRun.bind q).imp fun d r1 F1 H1 e1 _ ⟨s1, _, q1⟩ y dy => q1 F1 H1 σ (Same.refl F1) s1⟩
theorem sPass : PS X (.Pass pos) (rS k W .nx) := ps_imp ps_pass fun D σ H q => by
  obtain ⟨c, F, r, s, q⟩ := q
  exact q F H σ (Same.refl F) s
theorem sBrk : PS X (.Break pos) (rS k W .bk) := ps_imp ps_break fun D σ H q => by
  obtain ⟨c, F, r, s, q⟩ := q
  exact q F H σ (Same.refl F) s
theorem sCnt : PS X (.Continue pos) (rS k W .ct) := ps_imp ps_continue fun D σ H q => by
  obtain ⟨c, F, r, s, q⟩ := q
  exact q F H σ (Same.refl F) s
def sCond (t : M Bool) (m n : S) : S := sBind t fun b => if b = true then m else n
theorem sIf {t : M Bool} {m n : S} {cnd : Expr} {as bs : List Stmt} (ht : PT X cnd (rT k W t)) (ha : PSs X as (rS k W m)) (hb : PSs X bs (rS k W n)) : PS X (.If cnd as bs pos) (rS k W (sCond t m n)) := ps_imp (ps_if ht ha hb) fun D σ H q => by
  obtain ⟨c, F, r, s, q⟩ := q
  refine ⟨c, F, r, s, (SRun.bind q).imp fun b r1 F1 H1 e1 _ ⟨s1, _, q1⟩ => ?_⟩
  cases b with
  | true =>
    rw [if_pos rfl] at q1 ⊢
    exact ⟨c, F1, r1, s1, q1⟩
  | false =>
    rw [if_neg (by simp)] at q1 ⊢
    exact ⟨c, F1, r1, s1, q1⟩
/-! ### loops -/
/-- what an iterator walks over -/
def Items (k : Kn) (F : Hp) (J : It) (ds : List PyData) : Prop :=
  ∀ (c : Cn) (F1 H1 : Hp) (r : Ev) (σ : List (Option V)), Same F F1 → Sta k c F1 H1 r σ → ∀ i : Nat,
    (∀ d, ds[i]? = some d → J.go i H1 ∧ ∀ x H', J.yld i H1 x H' → ∃ F', Same F1 F' ∧ Sta k c F' H' r σ ∧ Dp k.K F' x d) ∧ (ds.length ≤ i → J.stop i H1)
def rI (k : Kn) (W : WX) (m : M (List PyData)) : TI := fun σ H R => ∃ c F r, Sta k c F H r σ ∧ Run k c W σ F (m r) fun ds _ F' H' => ∀ J, Items k F' J ds → R J H'
theorem pi_imp {it : Expr} {t t' : TI} (h : PI X tg it t) (kk : ∀ σ H R, t' σ H R → t σ H R) : PI X tg it t' := ⟨fun pins s σ H R I q => h.run pins s σ H R I (kk σ H R q)⟩
def sForL (g : G1) (body : S) : List PyData → S
  | [] => .nx
  | d :: ds => fun r => match g d r with
    | .ok _ r1 => match body r1 with
      | .nx r2 => sForL g body ds r2
      | .ct r2 => sForL g body ds r2
      | .bk r2 => .nx r2
      | q => q
    | _ => .no
def sFor (m : M (List PyData)) (g : G1) (body : S) : S := sBind m fun ds => sForL g body ds
theorem sForD {it : Expr} {bs : List Stmt} {m : M (List PyData)} {g : G1} {js : List Nat} {body : S} (hp : PassesOwn (model X.prog X.w) X.A X.env X.xe) (hc : X.calm = true) (hi : PI X tg it (rI k W m)) (hg : PG X tg (rG k js g)) (hb : PSs X bs (rS k W body))
    (hs : ∀ x, foldedSetIterable it X.env x = pure x := by intro _; rfl) : PS X (.For tg it bs [] pos) (rS k W (sFor m g body)) := ps_imp (ps_for hp hc hi hg hb hs) fun D σ H q => by
  obtain ⟨c, F, r, s, q⟩ := q
  refine ⟨c, F, r, s, (SRun.bind q).imp fun ds r1 F1 H1 e1 _ ⟨s1, _, q1⟩ J hJ => ?_⟩
  refine ⟨fun i m σ H => ∃ F r, Same F1 F ∧ Sta k c F H r σ ∧ m = ds.length - i ∧ SRun k c W F (sForL g body (ds.drop i) r) D, ⟨_, F1, r1, Same.refl F1, s1, rfl, q1⟩, fun i m σ H hW => ?_⟩
  obtain ⟨F2, r2, e2, s2, rfl, q2⟩ := hW
  obtain ⟨go, stop⟩ := hJ c F2 H r2 σ e2 s2 i
  by_cases hi : i < ds.length
  · have hd : ds.drop i = ds[i] :: ds.drop (i + 1) := List.drop_eq_getElem_cons hi
    obtain ⟨g1, g2⟩ := go ds[i] (List.getElem?_eq_getElem hi)
    rw [hd] at q2
    refine .inr ⟨g1, fun σ' H' => ∃ F r, Same F1 F ∧ Sta k c F H' r σ' ∧ SRun k c W F (sForL g body (ds.drop (i + 1)) r) D, fun σ' H' ⟨F3, r3, e3, s3, q3⟩ => ⟨ds.length - (i + 1), by omega, F3, r3, e3, s3, rfl, q3⟩, fun x H' hy => ?_⟩
    obtain ⟨F3, e3, s3, d3⟩ := g2 x H' hy
    refine ⟨c, F3, r2, ds[i], s3, d3, ?_⟩
    have q3 : SRun k c W F2 (match g ds[i] r2 with
      | .ok _ r1 => match body r1 with
        | .nx r2 => sForL g body (ds.drop (i + 1)) r2
        | .ct r2 => sForL g body (ds.drop (i + 1)) r2
        | .bk r2 => .nx r2
        | q => q
      | _ => .no) D := q2
    revert q3
    cases g ds[i] r2 with
    | ex x r3 => exact fun q3 => q3.elim
    | no => exact fun q3 => q3.elim
    | ok u r3 =>
      intro q3 F4 H4 σ4 _ e4 s4
      refine ⟨c, F4, r3, s4, ?_⟩
      have q4 : SRun k c W F2 (match body r3 with
        | .nx r2 => sForL g body (ds.drop (i + 1)) r2
        | .ct r2 => sForL g body (ds.drop (i + 1)) r2
        | .bk r2 => .nx r2
        | q => q) D := q3
      have q5 := SRun.up q4 (e3.trans e4)
      have e5 : Same F1 F4 := e2.trans (e3.trans e4)
      revert q5
      cases body r3 with
      | nx r5 => exact fun q5 F5 H5 σ5 e6 s5 => ⟨F5, r5, e5.trans e6, s5, SRun.up q5 e6⟩
      | ct r5 => exact fun q5 F5 H5 σ5 e6 s5 => ⟨F5, r5, e5.trans e6, s5, SRun.up q5 e6⟩
      | bk r5 => exact fun q5 => q5
      | rt d r5 => exact fun q5 => q5
      | ro d r5 => exact fun q5 => q5
      | ex x r5 => exact fun q5 => q5
      | no => exact fun q5 => q5
  · have hd : ds.drop i = [] := List.drop_of_length_le (by omega)
    rw [hd] at q2
    exact .inl ⟨stop (by omega), q2 F2 H σ (Same.refl F2) s2⟩
def sWhileN (t : M Bool) (body : S) : Nat → S
  | 0 => fun _ => .no
  | n + 1 => sBind t fun b => if b = true then fun r => match body r with
      | .nx r2 => sWhileN t body n r2
      | .ct r2 => sWhileN t body n r2
      | .bk r2 => .nx r2
      | q => q
    else .nx
def sWhile (fuel : Ev → Nat) (t : M Bool) (body : S) : S := fun r => sWhileN t body (fuel r) r
theorem sWhileD {bs : List Stmt} {t : M Bool} {body : S} {cnd : Expr} (fuel : Ev → Nat) (hp : PassesOwn (model X.prog X.w) X.A X.env X.xe) (ht : PT X cnd (rT k W t)) (hb : PSs X bs (rS k W body)) : PS X (.While cnd bs [] pos) (rS k W (sWhile fuel t body)) :=
  ps_imp (ps_while hp ht hb) fun D σ H q => by
    obtain ⟨c, F, r, s, q⟩ := q
    refine ⟨fun m σ H => ∃ F r, Sta k c F H r σ ∧ SRun k c W F (sWhileN t body m r) D, ⟨_, F, r, s, q⟩, fun m σ H ⟨F1, r1, s1, q1⟩ => ?_⟩
    cases m with
    | zero => exact q1.elim
    | succ m =>
      refine ⟨c, F1, r1, s1, (SRun.bind q1).imp fun b r2 F2 H2 e2 _ ⟨s2, _, q2⟩ => ?_⟩
      cases b with
      | false =>
        rw [if_neg (by simp)] at q2 ⊢
        exact q2 F2 H2 σ (Same.refl F2) s2
      | true =>
        rw [if_pos rfl] at q2 ⊢
        refine ⟨fun σ' H' => ∃ F r, Sta k c F H' r σ' ∧ SRun k c W F (sWhileN t body m r) D, fun σ' H' h => ⟨m, Nat.lt_succ_self m, h⟩, c, F2, r2, s2, ?_⟩
        have q3 : SRun k c W F2 (match body r2 with
          | .nx r2 => sWhileN t body m r2
          | .ct r2 => sWhileN t body m r2
          | .bk r2 => .nx r2
          | q => q) D := q2
        revert q3
        cases body r2 with
        | nx r5 => exact fun q5 F5 H5 σ5 e6 s5 => ⟨F5, r5, s5, SRun.up q5 e6⟩
        | ct r5 => exact fun q5 F5 H5 σ5 e6 s5 => ⟨F5, r5, s5, SRun.up q5 e6⟩
        | bk r5 => exact fun q5 => q5
        | rt d r5 => exact fun q5 => q5
        | ro d r5 => exact fun q5 => q5
        | ex x r5 => exact fun q5 => q5
        | no => exact fun q5 => q5
end
end Dx

namespace Dx
open PySem PySem.Spec PyProof.Rows L2
section
variable {X : Cx} {k : Kn} {W : WX} {e a b d tg : Expr} {A B : Type} {pos : Pos} {rest es : List Expr}
/-! ### what is walked over -/
def asList : PyData → Option (List PyData)
  | .list ds => some ds
  | _ => none
def asTup : PyData → Option (List PyData)
  | .tuple ds => some ds
  | _ => none
def mItL (m : M PyData) : M (List PyData) := mbind m fun d => mopt (asList d)
def mItT (m : M PyData) : M (List PyData) := mbind m fun d => mopt (asTup d)
theorem items_list {F : Hp} {p : Addr} {xs : List V} {ds : List PyData} (h : SqL k.K F p xs) (hd : DpAll k.K F xs ds) (uniq : True) : Items k F (Itl k.K p) ds := fun c F1 H1 r σ e s i => by
  have hq : SqL k.K H1 p xs := s.fh.seq (e.seq h)
  refine ⟨fun d hd1 => ?_, fun hi => ⟨xs, hq, by rw [DpAll.len hd]; exact hi⟩⟩
  obtain ⟨v, hv, dv⟩ := DpAll.get hd hd1
  refine ⟨⟨xs, v, hq, hv⟩, fun x H' ⟨e1, hx⟩ => ?_⟩
  subst e1
  have e2 := (hx xs hq).symm.trans hv
  cases e2
  exact ⟨F1, Same.refl F1, s, Dp.up e _ _ dv⟩
theorem items_tup {F : Hp} {p : Addr} {xs : List V} {ds : List PyData} (h : SqT k.K F p xs) (hd : DpAll k.K F xs ds) : Items k F (Itt k.K p) ds := fun c F1 H1 r σ e s i => by
  have hq : SqT k.K H1 p xs := sameT s.fh (sameT e h)
  refine ⟨fun d hd1 => ?_, fun hi => ⟨xs, hq, by rw [DpAll.len hd]; exact hi⟩⟩
  obtain ⟨v, hv, dv⟩ := DpAll.get hd hd1
  refine ⟨⟨xs, v, hq, hv⟩, fun x H' ⟨e1, hx⟩ => ?_⟩
  subst e1
  have e2 := (hx xs hq).symm.trans hv
  cases e2
  exact ⟨F1, Same.refl F1, s, Dp.up e _ _ dv⟩
theorem iList {m : M PyData} (h : PE X e (rD k W m)) (hK : X.K = k.K := by rfl) : PI X tg e (rI k W (mItL m)) := pi_imp (pi_list h) fun σ H R q => by
  obtain ⟨c, F, r, s, q⟩ := q
  refine ⟨c, F, r, s, (Run.bind q).imp fun d r1 F1 H1 e1 _ ⟨s1, _, q1⟩ y dy => ?_⟩
  cases d with
  | list ds =>
    obtain ⟨p, xs, rfl, p1, p2⟩ := dp_lst dy
    rw [hK]
    exact ⟨p, rfl, ⟨xs, s1.fh.seq p1⟩, q1 F1 H1 (Same.refl F1) s1 _ (items_list p1 p2 trivial)⟩
  | int i => exact q1.elim
  | none => exact q1.elim
  | str _ => exact q1.elim
  | tuple _ => exact q1.elim
  | bool _ => exact q1.elim
  | dict _ => exact q1.elim
theorem iTup {m : M PyData} (h : PE X e (rD k W m)) (hK : X.K = k.K := by rfl) : PI X tg e (rI k W (mItT m)) := pi_imp (pi_tup h) fun σ H R q => by
  obtain ⟨c, F, r, s, q⟩ := q
  refine ⟨c, F, r, s, (Run.bind q).imp fun d r1 F1 H1 e1 _ ⟨s1, _, q1⟩ y dy => ?_⟩
  cases d with
  | tuple ds =>
    obtain ⟨p, xs, rfl, p1, p2⟩ := dp_tup dy
    rw [hK]
    exact ⟨p, rfl, ⟨xs, sameT s1.fh p1⟩, q1 F1 H1 (Same.refl F1) s1 _ (items_tup p1 p2)⟩
  | int i => exact q1.elim
  | none => exact q1.elim
  | str _ => exact q1.elim
  | list _ => exact q1.elim
  | bool _ => exact q1.elim
  | dict _ => exact q1.elim
/-- lo, lo + 1, .. -/
def upL (lo : Int) : Nat → List PyData
  | 0 => []
  | n + 1 => .int lo :: upL (lo + 1) n
theorem upL_len : ∀ (n : Nat) (lo : Int), (upL lo n).length = n
  | 0, _ => rfl
  | n + 1, lo => by
    show (upL (lo + 1) n).length + 1 = n + 1
    rw [upL_len n]
theorem upL_get : ∀ (n : Nat) (lo : Int) (i : Nat), i < n → (upL lo n)[i]? = some (.int (lo + i))
  | 0, _, _, h => absurd h (by omega)
  | n + 1, lo, 0, _ => by
    show some (PyData.int lo) = _
    simp
  | n + 1, lo, i + 1, h => by
    show (upL (lo + 1) n)[i]? = _
    rw [upL_get n (lo + 1) i (by omega)]
    have e : lo + 1 + (i : Int) = lo + ((i + 1 : Nat) : Int) := by omega
    rw [e]
theorem items_range {F : Hp} {lo : Int} {n : Nat} : Items k F (Itr lo n) (upL lo n) := fun c F1 H1 r σ e s i => by
  refine ⟨fun d hd => ?_, fun hi => ?_⟩
  · have hi : i < n := by
      have := (List.getElem?_eq_some_iff.mp hd).1
      rw [upL_len] at this
      exact this
    rw [upL_get n lo i hi] at hd
    cases hd
    refine ⟨hi, fun x H' ⟨e1, hx⟩ => ?_⟩
    subst e1 hx
    exact ⟨F1, Same.refl F1, s, Dp.int _⟩
  · rw [upL_len] at hi
    exact hi
def rngOk (i : Int) : Prop := -(2 ^ 62) ≤ i ∧ i < 2 ^ 62
instance (i : Int) : Decidable (rngOk i) := by
  unfold rngOk
  infer_instance
def rng1 : List PyData → Option (List PyData)
  | [.int j] => if rngOk j then some (upL 0 j.toNat) else none
  | _ => none
def rng2 : List PyData → Option (List PyData)
  | [.int i, .int j] => if rngOk i ∧ rngOk j then some (upL i (j - i).toNat) else none
  | _ => none
theorem rng1_inv {ds zs : List PyData} (h : rng1 ds = some zs) : ∃ j, ds = [.int j] ∧ rngOk j ∧ zs = upL 0 j.toNat := by
  unfold rng1 at h
  split at h
  · split at h
    · rename_i j hj
      cases h
      exact ⟨j, rfl, hj, rfl⟩
    · cases h
  · cases h
theorem rng2_inv {ds zs : List PyData} (h : rng2 ds = some zs) : ∃ i j, ds = [.int i, .int j] ∧ rngOk i ∧ rngOk j ∧ zs = upL i (j - i).toNat := by
  unfold rng2 at h
  split at h
  · split at h
    · rename_i i j hj
      cases h
      exact ⟨i, j, rfl, hj.1, hj.2, rfl⟩
    · cases h
  · cases h
def mRng1 (m : M (List PyData)) : M (List PyData) := mbind m fun ds => mopt (rng1 ds)
def mRng2 (m : M (List PyData)) : M (List PyData) := mbind m fun ds => mopt (rng2 ds)
theorem dpAll1 {K : PySem.W.Frag} {F : Hp} {ys : List V} {d : PyData} (h : DpAll K F ys [d]) : ∃ y, ys = [y] ∧ Dp K F y d := by
  cases h with
  | cons h1 h2 =>
    cases h2
    exact ⟨_, rfl, h1⟩
theorem dpAll2 {K : PySem.W.Frag} {F : Hp} {ys : List V} {d e : PyData} (h : DpAll K F ys [d, e]) : ∃ y z, ys = [y, z] ∧ Dp K F y d ∧ Dp K F z e := by
  cases h with
  | cons h1 h2 =>
    obtain ⟨z, e2, h3⟩ := dpAll1 h2
    subst e2
    exact ⟨_, _, rfl, h1, h3⟩
theorem iRng1 {m : M (List PyData)} {p : Pos} (hg : Gl X "range") (hm : X.mg "range" = none) (ha : PA X [a] (rL k W m)) (hs : starEach [a] X.env = [(false, eval a X.env)] := by rfl) : PI X tg (.Call (.Name "range" p) [a] [] pos) (rI k W (mRng1 m)) :=
  pi_imp (pi_range1 hg hm ha hs) fun σ H R q => by
    obtain ⟨c, F, r, s, q⟩ := q
    refine ⟨c, F, r, s, (Run.bind q).imp fun ds r1 F1 H1 e1 _ ⟨s1, _, q1⟩ ys dy => ?_⟩
    obtain ⟨zs, hz, kk⟩ := Run.opt q1
    obtain ⟨j, rfl, hj, rfl⟩ := rng1_inv hz
    obtain ⟨y, rfl, d1⟩ := dpAll1 dy
    exact ⟨j, by rw [dp_int d1], hj.1, hj.2, kk F1 H1 (Same.refl F1) s1 _ items_range⟩
theorem iRng2 {m : M (List PyData)} {p : Pos} (hg : Gl X "range") (hm : X.mg "range" = none) (ha : PA X [a, b] (rL k W m)) (hs : starEach [a, b] X.env = [(false, eval a X.env), (false, eval b X.env)] := by rfl) (hs2 : starEach [b] X.env = [(false, eval b X.env)] := by rfl) :
    PI X tg (.Call (.Name "range" p) [a, b] [] pos) (rI k W (mRng2 m)) :=
  pi_imp (pi_range2 hg hm ha hs hs2) fun σ H R q => by
    obtain ⟨c, F, r, s, q⟩ := q
    refine ⟨c, F, r, s, (Run.bind q).imp fun ds r1 F1 H1 e1 _ ⟨s1, _, q1⟩ ys dy => ?_⟩
    obtain ⟨zs, hz, kk⟩ := Run.opt q1
    obtain ⟨i, j, rfl, hi, hj, rfl⟩ := rng2_inv hz
    obtain ⟨y, z, rfl, d1, d2⟩ := dpAll2 dy
    exact ⟨i, j, by rw [dp_int d1, dp_int d2], ⟨hi.1, hi.2, hj.1, hj.2⟩, kk F1 H1 (Same.refl F1) s1 _ items_range⟩
/-- (i, x) -/
def enumL (i : Nat) : List PyData → List PyData
  | [] => []
  | d :: ds => .tuple [.int (i : Int), d] :: enumL (i + 1) ds
theorem enum_len : ∀ (ds : List PyData) (i : Nat), (enumL i ds).length = ds.length
  | [], _ => rfl
  | d :: ds, i => by
    show (enumL (i + 1) ds).length + 1 = ds.length + 1
    rw [enum_len ds]
theorem enum_get : ∀ (ds : List PyData) (i j : Nat) (d : PyData), ds[j]? = some d → (enumL i ds)[j]? = some (.tuple [.int ((i + j : Nat) : Int), d])
  | [], _, _, _, h => by simp at h
  | x :: ds, i, 0, d, h => by
    have e : x = d := by simpa using h
    subst e
    rfl
  | x :: ds, i, j + 1, d, h => by
    have e : ds[j]? = some d := by simpa using h
    show (enumL (i + 1) ds)[j]? = _
    rw [enum_get ds (i + 1) j d e]
    have e2 : i + 1 + j = i + (j + 1) := by omega
    rw [e2]
theorem items_enum {F : Hp} {p : Addr} {xs : List V} {ds : List PyData} (h : SqL k.K F p xs) (hd : DpAll k.K F xs ds) : Items k F (Ite k.K p) (enumL 0 ds) := fun c F1 H1 r σ e s i => by
  have hq : SqL k.K H1 p xs := s.fh.seq (e.seq h)
  refine ⟨fun d hd1 => ?_, fun hi => ⟨xs, hq, by rw [enum_len] at hi; rw [DpAll.len hd]; exact hi⟩⟩
  have hi : i < ds.length := by
    have := (List.getElem?_eq_some_iff.mp hd1).1
    rw [enum_len] at this
    exact this
  have hx := List.getElem?_eq_getElem hi
  obtain ⟨v, hv, dv⟩ := DpAll.get hd hx
  rw [enum_get ds 0 i _ hx] at hd1
  cases hd1
  refine ⟨⟨xs, v, hq, hv⟩, fun x H' ⟨T, z, e1, nT, e2, hz⟩ => ?_⟩
  have e3 := Option.some.inj ((hz xs hq).symm.trans hv)
  rw [← e3] at dv
  subst e1 e2
  have e4 : (((0 + i : Nat)) : Int) = (i : Int) := by omega
  rw [e4]
  exact ⟨upd F1 T (.tup [.int (i : Nat), z]), same_new (s.nF nT), s.alloc nT, Dp.tup (SqT.of upd_same) (DpAll.cons (Dp.int _) (DpAll.one (Dp.up (same_new (s.nF nT)) _ _ (Dp.up e _ _ dv))))⟩
def enum1 : List PyData → Option (List PyData)
  | [.list xs] => some (enumL 0 xs)
  | _ => none
theorem enum1_inv {ds zs : List PyData} (h : enum1 ds = some zs) : ∃ xs, ds = [.list xs] ∧ zs = enumL 0 xs := by
  unfold enum1 at h
  split at h
  · cases h
    exact ⟨_, rfl, rfl⟩
  · cases h
def mEnum (m : M (List PyData)) : M (List PyData) := mbind m fun ds => mopt (enum1 ds)
theorem iEnum {m : M (List PyData)} {p tpos : Pos} {elts : List Expr} {kk : Nat} (hg : Gl X "enumerate") (hm : X.mg "enumerate" = none) (ha : PA X [e] (rL k W m)) (hK : X.K = k.K := by rfl) (hs : starEach [e] X.env = [(false, eval e X.env)] := by rfl) :
    PI X (.Tuple elts kk tpos) (.Call (.Name "enumerate" p) [e] [] pos) (rI k W (mEnum m)) :=
  pi_imp (pi_enum hg hm ha hs) fun σ H R q => by
    obtain ⟨c, F, r, s, q⟩ := q
    refine ⟨c, F, r, s, (Run.bind q).imp fun ds r1 F1 H1 e1 _ ⟨s1, _, q1⟩ ys dy => ?_⟩
    obtain ⟨zs, hz, kk⟩ := Run.opt q1
    obtain ⟨xs, rfl, rfl⟩ := enum1_inv hz
    obtain ⟨y, rfl, d1⟩ := dpAll1 dy
    obtain ⟨p, vs, rfl, p1, p2⟩ := dp_lst d1
    rw [hK]
    exact ⟨p, vs, rfl, s1.fh.seq p1, kk F1 H1 (Same.refl F1) s1 _ (items_enum p1 p2)⟩
def zipL : List PyData → List PyData → List PyData
  | x :: xs, y :: ys => .tuple [x, y] :: zipL xs ys
  | _, _ => []
theorem zip_get : ∀ (ds es : List PyData) (i : Nat) (d : PyData), (zipL ds es)[i]? = some d → ∃ x y, ds[i]? = some x ∧ es[i]? = some y ∧ d = .tuple [x, y]
  | [], _, _, _, h => by simp [zipL] at h
  | _ :: _, [], _, _, h => by simp [zipL] at h
  | x :: ds, y :: es, 0, d, h => by
    have e : PyData.tuple [x, y] = d := by simpa [zipL] using h
    exact ⟨x, y, rfl, rfl, e.symm⟩
  | x :: ds, y :: es, i + 1, d, h => by
    have e : (zipL ds es)[i]? = some d := by simpa [zipL] using h
    obtain ⟨x', y', h1, h2, h3⟩ := zip_get ds es i d e
    exact ⟨x', y', by simpa using h1, by simpa using h2, h3⟩
theorem zip_len : ∀ (ds es : List PyData), (zipL ds es).length = min ds.length es.length
  | [], _ => by simp [zipL]
  | _ :: _, [] => by simp [zipL]
  | x :: ds, y :: es => by
    show (zipL ds es).length + 1 = min (ds.length + 1) (es.length + 1)
    rw [zip_len ds es]
    omega
theorem items_zip {F : Hp} {p q : Addr} {xs ys : List V} {ds es : List PyData} (h : SqL k.K F p xs) (hd : DpAll k.K F xs ds) (h' : SqL k.K F q ys) (hd' : DpAll k.K F ys es) : Items k F (Itz k.K p q) (zipL ds es) := fun c F1 H1 r σ e s i => by
  have hq : SqL k.K H1 p xs := s.fh.seq (e.seq h)
  have hq' : SqL k.K H1 q ys := s.fh.seq (e.seq h')
  refine ⟨fun d hd1 => ?_, fun hi => ⟨xs, ys, hq, hq', ?_⟩⟩
  · obtain ⟨x, y, hx, hy, rfl⟩ := zip_get ds es i d hd1
    obtain ⟨v, hv, dv⟩ := DpAll.get hd hx
    obtain ⟨u, hu, du⟩ := DpAll.get hd' hy
    refine ⟨⟨xs, ys, v, u, hq, hq', hv, hu⟩, fun z H' ⟨T, z1, z2, e1, nT, e2, hz1, hz2⟩ => ?_⟩
    have e3 := Option.some.inj ((hz1 xs hq).symm.trans hv)
    have e4 := Option.some.inj ((hz2 ys hq').symm.trans hu)
    rw [← e3] at dv
    rw [← e4] at du
    subst e1 e2
    exact ⟨upd F1 T (.tup [z1, z2]), same_new (s.nF nT), s.alloc nT, Dp.tup (SqT.of upd_same) (DpAll.cons (Dp.up (same_new (s.nF nT)) _ _ (Dp.up e _ _ dv)) (DpAll.one (Dp.up (same_new (s.nF nT)) _ _ (Dp.up e _ _ du))))⟩
  · rw [zip_len] at hi
    rw [DpAll.len hd, DpAll.len hd']
    omega
def zip1 : List PyData → Option (List PyData)
  | [.list xs, .list ys] => some (zipL xs ys)
  | _ => none
theorem zip1_inv {ds zs : List PyData} (h : zip1 ds = some zs) : ∃ xs ys, ds = [.list xs, .list ys] ∧ zs = zipL xs ys := by
  unfold zip1 at h
  split at h
  · cases h
    exact ⟨_, _, rfl, rfl⟩
  · cases h
def mZip (m : M (List PyData)) : M (List PyData) := mbind m fun ds => mopt (zip1 ds)
theorem iZip {m : M (List PyData)} {p tpos : Pos} {elts : List Expr} {kk : Nat} (hg : Gl X "zip") (hm : X.mg "zip" = none) (ha : PA X [a, b] (rL k W m)) (hK : X.K = k.K := by rfl)
    (hs : starEach [a, b] X.env = (false, eval a X.env) :: starEach [b] X.env := by rfl) (hpl : (backTo pos (starEach [b] X.env)).any (·.1) = false := by rfl) :
    PI X (.Tuple elts kk tpos) (.Call (.Name "zip" p) [a, b] [] pos) (rI k W (mZip m)) :=
  pi_imp (pi_zip hg hm ha hs hpl) fun σ H R q => by
    obtain ⟨c, F, r, s, q⟩ := q
    refine ⟨c, F, r, s, (Run.bind q).imp fun ds r1 F1 H1 e1 _ ⟨s1, _, q1⟩ ys dy => ?_⟩
    obtain ⟨zs, hz, kk⟩ := Run.opt q1
    obtain ⟨xs, ys, rfl, rfl⟩ := zip1_inv hz
    obtain ⟨y, z, rfl, d1, d2⟩ := dpAll2 dy
    obtain ⟨p, vs, rfl, p1, p2⟩ := dp_lst d1
    obtain ⟨p', us, rfl, p3, p4⟩ := dp_lst d2
    rw [hK]
    exact ⟨p, p', vs, us, rfl, s1.fh.seq p1, s1.fh.seq p3, kk F1 H1 (Same.refl F1) s1 _ (items_zip p1 p2 p3 p4)⟩
/-! ### items, slices -/
def fIx : PyData → PyData → Option PyData
  | .list ds, .int i => atI ds i
  | .tuple ds, .int i => atI ds i
  | _, _ => none
theorem dpAll_at {K : PySem.W.Frag} {F : Hp} {ds : List PyData} {vs : List V} {i : Int} {d : PyData} (h : DpAll K F vs ds) (hi : atI ds i = some d) : ∃ v, atI vs i = some v ∧ Dp K F v d := by
  unfold atI at hi ⊢
  rw [DpAll.len h]
  cases q : ixN ds.length i with
  | none =>
    rw [q] at hi
    cases hi
  | some j =>
    rw [q] at hi
    have hi2 : ds[j]? = some d := hi
    obtain ⟨v, h1, h2⟩ := DpAll.get h hi2
    exact ⟨v, h1, h2⟩
theorem opd_ix : OpD k (rIx k.K) fIx := by
  intro c F H r σ x y d e z Q s dx dy hz kk
  unfold fIx at hz
  split at hz
  · rename_i ds i
    obtain ⟨p, xs, rfl, p1, q1⟩ := dp_lst dx
    obtain ⟨v, hv, dv⟩ := dpAll_at q1 hz
    exact .inl ⟨p, xs, i, v, rfl, dp_int dy, s.fh.seq p1, hv, kk F H v (Same.refl F) s dv⟩
  · rename_i ds i
    obtain ⟨p, xs, rfl, p1, q1⟩ := dp_tup dx
    obtain ⟨v, hv, dv⟩ := dpAll_at q1 hz
    exact .inr (.inl ⟨p, xs, i, v, rfl, dp_int dy, sameT s.fh p1, hv, kk F H v (Same.refl F) s dv⟩)
  · cases hz
theorem dIx {m n : M PyData} (ha : PE X a (rD k W m)) (hb : PE X b (rD k W n)) (hs : PlainIx b := by exact fun _ _ => rfl) (hK : X.K = k.K := by rfl) : PE X (.Subscript a b pos) (rD k W (mOp fIx m n)) :=
  pe_imp (pe_ix (hK ▸ ix_seq) ha hb hs) (dt_op opd_ix)
def ownL : Cell → Option (List PyData)
  | .o ds => some ds
  | .io _ ds => some ds
  | _ => none
def setL (x : Cell) (ds : List PyData) : Cell := match x with
  | .o _ => .o ds
  | .io j _ => .io j ds
  | x => x
theorem own_of {c : Cn} {F H : Hp} {x : Cell} {y : Option V} {ds : List PyData} (h : CellOk k c F H x y) (e : ownL x = some ds) : ∃ a vs, y = some (.ref a) ∧ Own x y a ∧ H a = some (.lst vs) ∧ DpAll k.K F vs ds := by
  cases x with
  | u => cases e
  | p _ => cases e
  | v d => cases e
  | o es =>
    cases e
    obtain ⟨b, vs, q, f, g, z, t⟩ := h
    exact ⟨b, vs, q, q, z, t⟩
  | io j es =>
    cases e
    obtain ⟨b, vs, q, p, f, g, z, t⟩ := h
    exact ⟨b, vs, q, q, z, t⟩
/-- an item of the owned list at slot i -/
def ixOwn (e : PyData) (o : Option Cell) : Option PyData := match e, o.bind ownL with
  | .int j, some ds => atI ds j
  | _, _ => none
theorem ixOwn_inv {e d : PyData} {o : Option Cell} (h : ixOwn e o = some d) : ∃ j x ds, e = .int j ∧ o = some x ∧ ownL x = some ds ∧ atI ds j = some d := by
  unfold ixOwn at h
  split at h
  · rename_i j ds hb
    cases o with
    | none => cases hb
    | some x => exact ⟨j, x, ds, rfl, rfl, hb, h⟩
  · cases h
/-- slot i holds a list of one's own -/
def mHas {A : Type} (i : Nat) (m : M A) : M A := fun r => match r[i]?.bind ownL with
  | none => .no
  | some _ => m r
theorem has_inv {A : Type} {c : Cn} {F H : Hp} {r : Ev} {σ : List (Option V)} {i : Nat} {m : M A} {P : A → Ev → Hp → Hp → Prop} (s : Sta k c F H r σ) (q : Run k c W σ F (mHas i m r) P) :
    ∃ p, σ[i]? = some (some (.ref p)) ∧ Run k c W σ F (m r) P := by
  unfold mHas at q
  cases hx : r[i]? with
  | none =>
    rw [hx] at q
    exact q.elim
  | some x =>
    rw [hx] at q
    cases ho : ownL x with
    | none =>
      rw [show (some x).bind ownL = none from ho] at q
      exact q.elim
    | some ds0 =>
      rw [show (some x).bind ownL = some ds0 from ho] at q
      obtain ⟨y, hy, ok⟩ := s.slot hx
      obtain ⟨p, vs, rfl, _, _, _⟩ := own_of ok ho
      exact ⟨p, hy, q⟩
theorem own_at {c : Cn} {F H : Hp} {r : Ev} {σ : List (Option V)} {i : Nat} {x : Cell} {ds : List PyData} {p : Addr} (s : Sta k c F H r σ) (h : r[i]? = some x) (ho : ownL x = some ds) (hy : σ[i]? = some (some (.ref p))) :
    ∃ vs, Own x (some (.ref p)) p ∧ H p = some (.lst vs) ∧ DpAll k.K F vs ds := by
  obtain ⟨y, hy1, ok⟩ := s.slot h
  rw [hy] at hy1
  cases hy1
  obtain ⟨p1, vs, e2, w, hH, dd⟩ := own_of ok ho
  cases e2
  exact ⟨vs, w, hH, dd⟩
def mIxO (i : Nat) (n : M PyData) : M PyData := mHas i (mbind n fun e => fun r2 => mopt (ixOwn e r2[i]?) r2)
theorem dIxO {i : Nat} {n : M PyData} (ha : PE X a (tVar i)) (hb : PE X b (rD k W n)) (hs : PlainIx b := by exact fun _ _ => rfl) (hK : X.K = k.K := by rfl) : PE X (.Subscript a b pos) (rD k W (mIxO i n)) :=
  pe_imp (pe_ix (hK ▸ ix_list) ha hb hs) fun σ H Q q => by
    obtain ⟨c, F, r, s, q⟩ := q
    obtain ⟨p, hy, q0⟩ := has_inv s q
    refine ⟨.ref p, hy, c, F, r, s, (Run.bind q0).imp fun e r1 F1 H1 e1 _ ⟨s1, _, q1⟩ z dz => ?_⟩
    obtain ⟨w, hw, kk⟩ := Run.opt q1
    obtain ⟨j, x, ds, rfl, hx, ho, hj⟩ := ixOwn_inv hw
    obtain ⟨vs, _, hH, dd⟩ := own_at s1 hx ho hy
    obtain ⟨v, hv, dv⟩ := dpAll_at dd hj
    exact ⟨p, vs, j, v, rfl, dp_int dz, SqL.of hH, hv, kk F1 H1 (Same.refl F1) s1 v dv⟩
/-- o[j] = e at the owned list at slot i -/
def setOwn (e d : PyData) (o : Option Cell) : Option Cell := match e, o with
  | .int j, some x => (ownL x).bind fun ds => (ixN ds.length j).map fun n => setL x (ds.set n d)
  | _, _ => none
theorem setOwn_inv {e d : PyData} {o : Option Cell} {x' : Cell} (h : setOwn e d o = some x') : ∃ j x ds n, e = .int j ∧ o = some x ∧ ownL x = some ds ∧ ixN ds.length j = some n ∧ x' = setL x (ds.set n d) := by
  unfold setOwn at h
  split at h
  · rename_i j x
    cases ho : ownL x with
    | none =>
      rw [ho] at h
      cases h
    | some ds =>
      rw [ho] at h
      have h2 : (ixN ds.length j).map (fun n => setL x (ds.set n d)) = some x' := h
      cases hn : ixN ds.length j with
      | none =>
        rw [hn] at h2
        cases h2
      | some n =>
        rw [hn] at h2
        cases h2
        exact ⟨j, x, ds, n, rfl, rfl, ho, hn, rfl⟩
  · cases h
theorem setL_ok {c : Cn} {F H : Hp} {x : Cell} {p : Addr} {ds es : List PyData} {us : List V} (h : CellOk k c F H x (some (.ref p))) (ho : ownL x = some ds) (de : DpAll k.K F us es) :
    CellOk k c F (upd H p (.lst us)) (setL x es) (some (.ref p)) ∧ Own (setL x es) (some (.ref p)) p ∧ Own x (some (.ref p)) p := by
  cases x with
  | u => cases ho
  | p _ => cases ho
  | v _ => cases ho
  | o _ =>
    obtain ⟨b, vs, q, f, g, z, t⟩ := h
    cases q
    exact ⟨⟨p, us, rfl, f, g, upd_same, de⟩, rfl, rfl⟩
  | io j _ =>
    obtain ⟨b, vs, q, e, f, g, z, t⟩ := h
    cases q
    exact ⟨⟨p, us, rfl, e, f, g, upd_same, de⟩, rfl, rfl⟩
def sSetIx (i : Nat) (n m : M PyData) : S := sBind m fun d => sBind (mHas i n) fun e => fun r => match setOwn e d r[i]? with
  | some x => .nx (r.set i x)
  | none => .no
theorem sSetIxD {i : Nat} {n m : M PyData} (hg : PG X tg (gSub (tVar i) (rD k W n) rSetL)) (he : PE X e (rD k W m)) (hs : swapsWithSole [tg] e pos.line X.env = pure false := by rfl)
    (hw : swappedStores [tg] e X.env = pure none := by rfl) (h1 : (assignEach [tg] X.env).map (·.2) = [assign tg X.env] := by rfl) : PS X (.Assign [tg] e pos) (rS k W (sSetIx i n m)) :=
  ps_imp (ps_asg he hg hs hw h1) fun D σ H q => by
    obtain ⟨c, F, r, s, q⟩ := q
    refine ⟨c, F, r, s, (SRun.bind q).imp fun d r1 F1 H1 e1 _ ⟨s1, _, q1⟩ x dx => ?_⟩
    obtain ⟨p, hy, q2⟩ := has_inv s1 (SRun.bind q1)
    refine ⟨.ref p, hy, c, F1, r1, s1, q2.imp fun e r2 F2 H2 e2 _ ⟨s2, _, q3⟩ z dz => ?_⟩
    have q4 : SRun k c W F2 (match setOwn e d r2[i]? with
      | some x => .nx (r2.set i x)
      | none => .no) D := q3
    cases ho : setOwn e d r2[i]? with
    | none =>
      rw [ho] at q4
      exact q4.elim
    | some x' =>
      rw [ho] at q4
      obtain ⟨j, x0, ds, n, rfl, hx, hl, hn, rfl⟩ := setOwn_inv ho
      obtain ⟨vs, _, hH, dd⟩ := own_at s2 hx hl hy
      obtain ⟨ok, w', w⟩ := setL_ok (s2.cell i x0 _ hx hy) hl (DpAll.set (Dp.up e2 _ _ dx) n dd)
      refine ⟨p, vs, j, n, rfl, dp_int dz, hH, by rw [DpAll.len dd]; exact hn, ?_⟩
      exact q4 F2 _ σ (Same.refl F2) (s2.write hx hy w w' ok)
/-- o.append(e) at the owned list at slot i -/
def appOwn (d : PyData) (o : Option Cell) : Option Cell := o.bind fun x => (ownL x).bind fun ds => if ds.length < sizeLine then some (setL x (ds ++ [d])) else none
theorem appOwn_inv {d : PyData} {o : Option Cell} {x' : Cell} (h : appOwn d o = some x') : ∃ x ds, o = some x ∧ ownL x = some ds ∧ ds.length < sizeLine ∧ x' = setL x (ds ++ [d]) := by
  unfold appOwn at h
  cases o with
  | none => cases h
  | some x =>
    have h2 : (ownL x).bind (fun ds => if ds.length < sizeLine then some (setL x (ds ++ [d])) else none) = some x' := h
    cases ho : ownL x with
    | none =>
      rw [ho] at h2
      cases h2
    | some ds =>
      rw [ho] at h2
      have h3 : (if ds.length < sizeLine then some (setL x (ds ++ [d])) else none) = some x' := h2
      split at h3
      · rename_i hz
        cases h3
        exact ⟨x, ds, rfl, ho, hz, rfl⟩
      · cases h3
def sApp (i : Nat) (m : M PyData) : S := sBind (mHas i m) fun d => fun r => match appOwn d r[i]? with
  | some x => .nx (r.set i x)
  | none => .no
theorem sAppD {i : Nat} {m : M PyData} {o : Expr} {apos cpos : Pos} (ho : PE X o (tVar i)) (he : PE X e (rD k W m)) (hbase : attributeBase o "append" X.env (eval o X.env) = eval o X.env := by rfl)
    (hfew : ((backTo cpos (starEach [e] X.env)).all (fun x => !x.1) && (backToKw cpos (keywordEach [] X.env)).all (fun x => x.1.isSome) && decide ([e].length + ([] : List Keyword).length + (if ([] : List Keyword).isEmpty then 0 else 1) < 30)) = true := by rfl)
    (hline : (apos.endLine == cpos.line) = true := by rfl) (hs : starEach [e] X.env = (false, eval e X.env) :: starEach [] X.env := by rfl) (hplain : (backTo cpos (starEach [] X.env)).any (·.1) = false := by rfl)
    (hsw : swapsWith (.Call (.Attribute o "append" apos) [e] [] cpos) none pos.line X.env = pure false := by rfl) : PS X (.Expr (.Call (.Attribute o "append" apos) [e] [] cpos) pos) (rS k W (sApp i m)) :=
  ps_imp (ps_expr (pe_bm PySem.F.plainAttrs_list PySem.F.slot_list_append PySem.F.type_list_append mt_append ho (pa_cons he pa_nil hs) hbase hfew hline hs hplain) hsw) fun D σ H q => by
    obtain ⟨c, F, r, s, q⟩ := q
    have q0 := SRun.bind (σ := σ) q
    obtain ⟨p, hy, q1⟩ := has_inv s q0
    have ty : tyV X.K "list" (V.ref p) H := by
      unfold mHas at q0
      cases hx : r[i]? with
      | none =>
        rw [hx] at q0
        exact q0.elim
      | some x =>
        rw [hx] at q0
        cases hl : ownL x with
        | none =>
          rw [show (some x).bind ownL = none from hl] at q0
          exact q0.elim
        | some ds0 =>
          obtain ⟨vs, _, hH, dd⟩ := own_at s hx hl hy
          exact .inl ⟨rfl, vs, SqL.of hH⟩
    refine ⟨.ref p, hy, ty, c, F, r, s, q1.imp fun d r1 F1 H1 e1 _ ⟨s1, _, q2⟩ x dx => ?_⟩
    have q4 : SRun k c W F1 (match appOwn d r1[i]? with
      | some x => .nx (r1.set i x)
      | none => .no) D := q2
    cases ho : appOwn d r1[i]? with
    | none =>
      rw [ho] at q4
      exact q4.elim
    | some x' =>
      rw [ho] at q4
      obtain ⟨x0, ds, hx, hl, hz, rfl⟩ := appOwn_inv ho
      obtain ⟨vs, _, hH, dd⟩ := own_at s1 hx hl hy
      obtain ⟨ok, w', w⟩ := setL_ok (s1.cell i x0 _ hx hy) hl (DpAll.append dd (DpAll.one dx))
      refine ⟨p, vs, x, rfl, rfl, hH, by rw [DpAll.len dd]; exact hz, ?_⟩
      exact q4 F1 _ σ (Same.refl F1) (s1.write hx hy w w' ok)
/-- xs[lo:hi] of a list -/
def mPart : Option (M PyData) → M (Option Int)
  | none => mpure none
  | some m => mbind m fun d => match d with
    | .int i => mpure (some i)
    | _ => mno
def rP (k : Kn) (W : WX) (m : M (Option Int)) : TO := fun σ H Q => ∃ c F r, Sta k c F H r σ ∧ Run k c W σ F (m r) fun o _ F' H' => Q o H'
theorem po_imp {o : Option Expr} {t t' : TO} (h : PO X o t) (kk : ∀ σ H Q, t' σ H Q → t σ H Q) : PO X o t' := ⟨fun pins s σ H Q I q => h.run pins s σ H Q I (kk σ H Q q)⟩
theorem pNone : PO X none (rP k W (mPart none)) := po_imp po_none fun σ H Q q => by
  obtain ⟨c, F, r, s, q⟩ := q
  exact q F H (Same.refl F) s
theorem pSome {m : M PyData} (h : PE X e (rD k W m)) : PO X (some e) (rP k W (mPart (some m))) := po_imp (po_some h) fun σ H Q q => by
  obtain ⟨c, F, r, s, q⟩ := q
  refine ⟨c, F, r, s, (Run.bind q).imp fun d r1 F1 H1 e1 _ ⟨s1, _, q1⟩ y dy => ?_⟩
  cases d with
  | int i => exact ⟨i, dp_int dy, q1 F1 H1 (Same.refl F1) s1⟩
  | none => exact q1.elim
  | str _ => exact q1.elim
  | list _ => exact q1.elim
  | tuple _ => exact q1.elim
  | bool _ => exact q1.elim
  | dict _ => exact q1.elim
def cutD (ds : List PyData) (lo hi : Option Int) : List PyData := (ds.drop (HT.sIx ds.length 0 lo)).take (HT.sIx ds.length ds.length hi - HT.sIx ds.length 0 lo)
theorem cut_dp {K : PySem.W.Frag} {F : Hp} {ds : List PyData} {vs : List V} (h : DpAll K F vs ds) (lo hi : Option Int) : DpAll K F (cutV vs lo hi) (cutD ds lo hi) := by
  unfold cutV cutD
  rw [DpAll.len h]
  exact DpAll.take _ (DpAll.drop _ h)
def mSl (m : M PyData) (lo hi : Option (M PyData)) : M (List PyData) := mbind m fun d => mbind (mPart lo) fun l => mbind (mPart hi) fun u => match d with
  | .list ds => mpure (cutD ds l u)
  | _ => mno
theorem dSl {m : M PyData} {lo hi : Option Expr} {ml mh : Option (M PyData)} {p2 : Pos} (ha : PE X a (rD k W m)) (hl : PO X lo (rP k W (mPart ml))) (hh : PO X hi (rP k W (mPart mh))) (hK : X.K = k.K := by rfl) :
    PE X (.Subscript a (.Slice lo hi none p2) pos) (rO k W (mSl m ml mh)) := pe_imp (pe_slice (hK ▸ sl_list) ha hl hh) fun σ H Q q => by
  obtain ⟨c, F, r, s, q⟩ := q
  refine ⟨c, F, r, s, (Run.bind q).imp fun d r1 F1 H1 e1 _ ⟨s1, _, q1⟩ y dy => ?_⟩
  refine ⟨c, F1, r1, s1, (Run.bind q1).imp fun l r2 F2 H2 e2 _ ⟨s2, _, q2⟩ => ?_⟩
  refine ⟨c, F2, r2, s2, (Run.bind q2).imp fun u r3 F3 H3 e3 _ ⟨s3, _, q3⟩ => ?_⟩
  cases d with
  | list ds =>
    obtain ⟨p, xs, rfl, p1, p2⟩ := dp_lst (Dp.up (e2.trans e3) _ _ dy)
    refine ⟨p, xs, rfl, s3.fh.seq p1, fun D nD => ?_⟩
    exact q3 F3 _ (Same.refl F3) (s3.fresh nD) D _ (s3.freshL nD (cut_dp p2 l u))
  | int i => exact q3.elim
  | none => exact q3.elim
  | str _ => exact q3.elim
  | tuple _ => exact q3.elim
  | bool _ => exact q3.elim
  | dict _ => exact q3.elim
end
end Dx

namespace Dx
open PySem PySem.Spec PyProof.Rows L2
section
variable {X : Cx} {k : Kn} {W : WX} {e a b d tg : Expr} {A B : Type} {pos p : Pos} {rest es : List Expr} {x : Str}
/-! ### calls of what is built in -/
abbrev TC := List V → Hp → VK → Prop
def ClD (k : Kn) (t : TC) (f : List PyData → Option PyData) : Prop :=
  ∀ (c : Cn) (F H : Hp) (r : Ev) (σ : List (Option V)) (xs : List V) (ds : List PyData) (z : PyData) (Q : VK), Sta k c F H r σ → DpAll k.K F xs ds → f ds = some z →
    (∀ F' H' v, Same F F' → Sta k c F' H' r σ → Dp k.K F' v z → Q v H') → t xs H Q
theorem ClD.or {t t' : TC} {f f' : List PyData → Option PyData} (h : ClD k t f) (h' : ClD k t' f') : ClD k (fun x H Q => t x H Q ∨ t' x H Q) (fun ds => (f ds).or (f' ds)) := by
  intro c F H r σ xs ds z Q s dx hz kk
  have hz' : (f ds).or (f' ds) = some z := hz
  cases q : f ds with
  | some z' =>
    rw [q] at hz'
    exact .inl (h c F H r σ xs ds z Q s dx (q.trans hz') kk)
  | none =>
    rw [q] at hz'
    exact .inr (h' c F H r σ xs ds z Q s dx hz' kk)
/-- a built-in function (or type): its rule, what it is of data -/
structure BtD (X : Cx) (k : Kn) (v : Value) (f : List PyData → Option PyData) : Prop where
  ex : ∃ t : TC, CallR X v t ∧ ClD k t f
def mCl (f : List PyData → Option PyData) (m : M (List PyData)) : M PyData := mbind m fun ds => mopt (f ds)
theorem dt_cl {t : TC} {f : List PyData → Option PyData} {m : M (List PyData)} (o : ClD k t f) : ∀ σ H Q, rD k W (mCl f m) σ H Q → tCB t (rL k W m) σ H Q := fun σ H Q q => by
  obtain ⟨c, F, r, s, q⟩ := q
  refine ⟨c, F, r, s, (Run.bind q).imp fun ds r1 F1 H1 e1 _ ⟨s1, _, q1⟩ ys dy => ?_⟩
  obtain ⟨z, hz, kk⟩ := Run.opt q1
  exact o c F1 H1 r1 σ ys ds z Q s1 dy hz fun F' H' v e3 s3 dv => kk F' H' e3 s3 v dv
theorem dB {id : String} {f : List PyData → Option PyData} {m : M (List PyData)} (o : BtD X k (.builtin id) f) (hg : Gl X x) (hm : X.mg x = none) (hv : bootBuiltins x = some (.builtin id)) (ha : PA X (e :: es) (rL k W m)) (hn : x ≠ "__name__" := by decide) (hdb : (x == ("__debug__" : Str)) = false := by decide)
    (he : starEach (e :: es) X.env = (false, eval e X.env) :: starEach es X.env := by rfl) (hpl : (backTo pos (starEach es X.env)).any (·.1) = false := by rfl) : PE X (.Call (.Name x p) (e :: es) [] pos) (rD k W (mCl f m)) := by
  obtain ⟨t, hc, od⟩ := o.ex
  exact pe_imp (pe_callB hc hg hm hv ha hn hdb he hpl) (dt_cl od)
theorem dTy {T : String} {f : List PyData → Option PyData} {m : M (List PyData)} (o : BtD X k (.type T) f) (hg : Gl X x) (hm : X.mg x = none) (hv : bootBuiltins x = some (.type T)) (ha : PA X (e :: es) (rL k W m)) (hn : x ≠ "__name__" := by decide) (hdb : (x == ("__debug__" : Str)) = false := by decide)
    (he : starEach (e :: es) X.env = (false, eval e X.env) :: starEach es X.env := by rfl) (hpl : (backTo pos (starEach es X.env)).any (·.1) = false := by rfl) : PE X (.Call (.Name x p) (e :: es) [] pos) (rD k W (mCl f m)) := by
  obtain ⟨t, hc, od⟩ := o.ex
  exact pe_imp (pe_callTy hc hg hm hv ha hn hdb he hpl) (dt_cl od)
theorem dpAll3 {K : PySem.W.Frag} {F : Hp} {ys : List V} {d e g : PyData} (h : DpAll K F ys [d, e, g]) : ∃ y z w, ys = [y, z, w] ∧ Dp K F y d ∧ Dp K F z e ∧ Dp K F w g := by
  cases h with
  | cons h1 h2 =>
    obtain ⟨z, w, e2, h3, h4⟩ := dpAll2 h2
    subst e2
    exact ⟨_, _, _, rfl, h1, h3, h4⟩
/-! ints -/
def f1I (g : Int → PyData) : List PyData → Option PyData
  | [.int i] => some (g i)
  | _ => none
def f2I (g : Int → Int → PyData) : List PyData → Option PyData
  | [.int i, .int j] => some (g i j)
  | _ => none
def f3I (g : Int → Int → Int → PyData) : List PyData → Option PyData
  | [.int i, .int j, .int l] => some (g i j l)
  | _ => none
theorem f1I_inv {g : Int → PyData} {ds : List PyData} {z : PyData} (h : f1I g ds = some z) : ∃ i, ds = [.int i] ∧ z = g i := by
  unfold f1I at h
  split at h
  · cases h
    exact ⟨_, rfl, rfl⟩
  · cases h
theorem f2I_inv {g : Int → Int → PyData} {ds : List PyData} {z : PyData} (h : f2I g ds = some z) : ∃ i j, ds = [.int i, .int j] ∧ z = g i j := by
  unfold f2I at h
  split at h
  · cases h
    exact ⟨_, _, rfl, rfl⟩
  · cases h
theorem f3I_inv {g : Int → Int → Int → PyData} {ds : List PyData} {z : PyData} (h : f3I g ds = some z) : ∃ i j l, ds = [.int i, .int j, .int l] ∧ z = g i j l := by
  unfold f3I at h
  split at h
  · cases h
    exact ⟨_, _, _, rfl, rfl⟩
  · cases h
def absI (i : Int) : Int := if i < 0 then -i else i
def maxI (i j : Int) : Int := if j > i then j else i
def minI (i j : Int) : Int := if j < i then j else i
theorem bAbs : BtD X k (.builtin "abs") (f1I fun i => .int (absI i)) := ⟨_, call_abs, fun c F H r σ xs ds z Q s dx hz kk => by
  obtain ⟨i, rfl, rfl⟩ := f1I_inv hz
  obtain ⟨y, rfl, d1⟩ := dpAll1 dx
  exact ⟨i, by rw [dp_int d1], kk F H _ (Same.refl F) s (Dp.int _)⟩⟩
theorem bMax2 (hc : X.calm = true) : BtD X k (.builtin "max") (f2I fun i j => .int (maxI i j)) := ⟨_, call_max2 hc, fun c F H r σ xs ds z Q s dx hz kk => by
  obtain ⟨i, j, rfl, rfl⟩ := f2I_inv hz
  obtain ⟨y, w, rfl, d1, d2⟩ := dpAll2 dx
  exact ⟨i, j, by rw [dp_int d1, dp_int d2], kk F H _ (Same.refl F) s (Dp.int _)⟩⟩
theorem bMin2 (hc : X.calm = true) : BtD X k (.builtin "min") (f2I fun i j => .int (minI i j)) := ⟨_, call_min2 hc, fun c F H r σ xs ds z Q s dx hz kk => by
  obtain ⟨i, j, rfl, rfl⟩ := f2I_inv hz
  obtain ⟨y, w, rfl, d1, d2⟩ := dpAll2 dx
  exact ⟨i, j, by rw [dp_int d1, dp_int d2], kk F H _ (Same.refl F) s (Dp.int _)⟩⟩
theorem vals3 {y z w : V} {us : List Value} (r : Vals [y, z, w] us) : ∃ u1 u2 u3, us = [u1, u2, u3] ∧ RelV y u1 ∧ RelV z u2 ∧ RelV w u3 := by
  cases r with
  | cons r1 r =>
    obtain ⟨u2, u3, e, r2, r3⟩ := vals2 r
    subst e
    exact ⟨_, _, _, rfl, r1, r2, r3⟩
theorem call_min3 (hc : X.calm = true) : CallR X (.builtin "min") (fun xs H Q => ∃ i j l, xs = [.int i, .int j, .int l] ∧ Q (.int (minI (minI i j) l)) H) := by
  intro pins s σ H xs us Q I r h
  obtain ⟨i, j, l, rfl, q⟩ := h
  obtain ⟨u1, u2, u3, rfl, ⟨t1, rfl⟩, ⟨t2, rfl⟩, ⟨t3, rfl⟩⟩ := vals3 r
  refine min_three_ints (I.ok.hd hc) fun h' tk kp => ⟨_, H, I.kept kp, ?_, q⟩
  unfold minI
  by_cases h1 : j < i
  · rw [if_pos h1, if_pos h1]
    by_cases h2 : l < j
    · rw [if_pos h2, if_pos h2]
      exact ⟨_, rfl⟩
    · rw [if_neg h2, if_neg h2]
      exact ⟨_, rfl⟩
  · rw [if_neg h1, if_neg h1]
    by_cases h2 : l < i
    · rw [if_pos h2, if_pos h2]
      exact ⟨_, rfl⟩
    · rw [if_neg h2, if_neg h2]
      exact ⟨_, rfl⟩
theorem bMin3 (hc : X.calm = true) : BtD X k (.builtin "min") (f3I fun i j l => .int (minI (minI i j) l)) := ⟨_, call_min3 hc, fun c F H r σ xs ds z Q s dx hz kk => by
  obtain ⟨i, j, l, rfl, rfl⟩ := f3I_inv hz
  obtain ⟨y, w, u, rfl, d1, d2, d3⟩ := dpAll3 dx
  exact ⟨i, j, l, by rw [dp_int d1, dp_int d2, dp_int d3], kk F H _ (Same.refl F) s (Dp.int _)⟩⟩
def fInt : List PyData → Option PyData
  | [.int i] => some (.int i)
  | [.bool b] => some (.int (if b then 1 else 0))
  | _ => none
theorem bInt : BtD X k (.type "int") fInt := ⟨_, call_int1, fun c F H r σ xs ds z Q s dx hz kk => by
  unfold fInt at hz
  split at hz
  · cases hz
    obtain ⟨y, rfl, d1⟩ := dpAll1 dx
    exact .inl ⟨_, by rw [dp_int d1], kk F H _ (Same.refl F) s (Dp.int _)⟩
  · cases hz
    obtain ⟨y, rfl, d1⟩ := dpAll1 dx
    exact .inr ⟨_, by rw [dp_bl d1], kk F H _ (Same.refl F) s (Dp.int _)⟩
  · cases hz⟩
def fLen : List PyData → Option PyData
  | [.list ds] => some (.int ds.length)
  | [.tuple ds] => some (.int ds.length)
  | _ => none
theorem bLen (hK : X.K = k.K := by rfl) : BtD X k (.builtin "len") fLen := ⟨_, hK ▸ call_len_seq, fun c F H r σ xs ds z Q s dx hz kk => by
  unfold fLen at hz
  split at hz
  · cases hz
    obtain ⟨y, rfl, d1⟩ := dpAll1 dx
    obtain ⟨q, vs, rfl, p1, p2⟩ := dp_lst d1
    refine ⟨q, vs, rfl, .inl (s.fh.seq p1), ?_⟩
    rw [DpAll.len p2]
    exact kk F H _ (Same.refl F) s (Dp.int _)
  · cases hz
    obtain ⟨y, rfl, d1⟩ := dpAll1 dx
    obtain ⟨q, vs, rfl, p1, p2⟩ := dp_tup d1
    refine ⟨q, vs, rfl, .inr (sameT s.fh p1), ?_⟩
    rw [DpAll.len p2]
    exact kk F H _ (Same.refl F) s (Dp.int _)
  · cases hz⟩
/-- repr of data -/
def reprOk (d : PyData) : Bool := d.showable && decide (d.depth ≤ 64) && decide (d.shown.length ≤ sizeLine)
def fRepr : List PyData → Option PyData
  | [d] => if reprOk d = true then some (.str d.shown) else none
  | _ => none
theorem dp_nodict {K : PySem.W.Frag} {F : Hp} {v : V} : ∀ {d : PyData}, Dp K F v d → d.hasDict = false
  | _, .non => rfl
  | _, .bl _ => rfl
  | _, .int _ => rfl
  | _, .str _ => rfl
  | _, .lst _ h => by
    rw [PyData.hasDict]
    exact dps_nodict h
  | _, .tup _ h => by
    rw [PyData.hasDict]
    exact dps_nodict h
where
  dps_nodict {K : PySem.W.Frag} {F : Hp} : ∀ {ds : List PyData} {vs : List V}, DpAll K F vs ds → PyData.hasDictAll ds = false
  | _, _, .nil => rfl
  | _, _, .cons h t => by
    rw [PyData.hasDictAll, dp_nodict h, dps_nodict t]
    rfl

theorem call_reprD (hg : X.A.guards = some []) (hu : X.A.units + 66 < cLine) : CallR X (.builtin "repr") (fun xs H Q => ∃ x d, xs = [x] ∧ Dp X.K H x d ∧ reprOk d = true ∧ Q (.str d.shown) H) := by
  intro pins s σ H xs us Q I r h
  obtain ⟨x, d, rfl, dx, hd, q⟩ := h
  obtain ⟨u, rfl, rx⟩ := vals1 r
  unfold reprOk at hd
  rw [Bool.and_eq_true, Bool.and_eq_true] at hd
  have hs := hd.1.1
  have hdep := of_decide_eq_true hd.1.2
  have hsz := of_decide_eq_true hd.2
  obtain ⟨as, rd⟩ := Dp.reads I d x u dx rx
  have fin : ∀ h' u tk, (∀ b o, s.heap.get? b = some o → h'.get? b = some o) → EP X pins σ Q (.str d.shown u) { s with heap := h', toks := tk } := fun h' u tk kp => ⟨.str d.shown, H, I.kept kp, ⟨u, rfl⟩, q⟩
  cases rd with
  | none => exact PySem.P.repr_of_none (fin s.heap _ _ fun _ _ e => e)
  | bool b => exact PySem.P.repr_of_bool (fin s.heap _ _ fun _ _ e => e)
  | int i t => exact PySem.P.repr_of_int (of_decide_eq_true (by
      have h2 : decide (i.natAbs.log2 < 1920) = true := by
        rw [PyData.showable] at hs
        exact hs
      exact h2)) (fin s.heap _ _ fun _ _ e => e)
  | str y t => exact PySem.P.repr_of_str (fin s.heap _ _ fun _ _ e => e) hsz
  | list a1 a2 a3 a4 => exact repr_of_reads' (.list a1 a2 a3 a4) hs (PyData.noDict_hsm (dp_nodict dx)) hg (by omega) (fun _ _ e => e) (fun h' u tk kp => fin h' u tk kp) hsz
  | tuple a1 a2 a3 a4 => exact repr_of_reads' (.tuple a1 a2 a3 a4) hs (PyData.noDict_hsm (dp_nodict dx)) hg (by omega) (fun _ _ e => e) (fun h' u tk kp => fin h' u tk kp) hsz
  | dict a1 a2 a3 a4 a5 => cases dx
theorem bRepr (hg : X.A.guards = some []) (hu : X.A.units + 66 < cLine) (hK : X.K = k.K := by rfl) : BtD X k (.builtin "repr") fRepr := ⟨_, call_reprD hg hu, fun c F H r σ xs ds z Q s dx hz kk => by
  unfold fRepr at hz
  split at hz
  · rename_i d
    split at hz
    · rename_i hd
      cases hz
      obtain ⟨y, rfl, d1⟩ := dpAll1 dx
      exact ⟨y, d, rfl, hK ▸ Dp.up s.fh _ _ d1, hd, kk F H _ (Same.refl F) s (Dp.str _)⟩
    · cases hz
  · cases hz⟩
/-! ### comprehensions -/
def wipeR (r : Ev) : List Nat → Ev
  | [] => r
  | v :: vs => (wipeR r vs).set v .u
/-- the comprehension's own names take their old values -/
def backR (r0 : Ev) : List Nat → Ev → Ev
  | [], r => r
  | v :: vs, r => (backR r0 vs r).set v (match r0[v]? with
    | some (.v d) => .v d
    | _ => .u)
def mCompL (own : List Nat) (g : G1) (t : M Bool) (m : M PyData) : List PyData → List PyData → M (List PyData)
  | [], acc => mpure acc
  | d :: ds, acc => fun r => match g d (wipeR r own) with
    | .ok _ r1 => match t r1 with
      | .ok true r2 => match m r2 with
        | .ok z r3 => if acc.length < sizeLine then mCompL own g t m ds (acc ++ [z]) r3 else .no
        | _ => .no
      | .ok false r2 => mCompL own g t m ds acc r2
      | _ => .no
    | _ => .no
def mComp (own : List Nat) (it : M (List PyData)) (g : G1) (t : M Bool) (m : M PyData) : M (List PyData) := mbind it fun ds => fun r => match mCompL own g t m ds [] r with
  | .ok zs r1 => .ok zs (backR r own (wipeR r1 own))
  | .ex _ _ => .no
  | .no => .no
theorem Sta.wipe {c : Cn} {F H : Hp} {r : Ev} {σ : List (Option V)} (s : Sta k c F H r σ) : ∀ vs : List Nat, Sta k c F H (wipeR r vs) (wipe σ vs)
  | [] => s
  | v :: vs => (Sta.wipe s vs).forget
theorem wipe_set (σ : List (Option V)) : ∀ (vs : List Nat) (i : Nat), (wipe σ vs)[i]? = if i ∈ vs then (if i < σ.length then some none else none) else σ[i]?
  | [], i => by simp [wipe]
  | v :: vs, i => by
    show ((wipe σ vs).set v none)[i]? = _
    rw [List.getElem?_set, wipe_length]
    by_cases h : v = i
    · subst h
      rw [if_pos rfl, if_pos List.mem_cons_self]
    · rw [if_neg h, wipe_set σ vs i]
      by_cases h2 : i ∈ vs
      · rw [if_pos h2, if_pos (List.mem_cons_of_mem _ h2)]
      · rw [if_neg h2, if_neg (by
          intro q
          rcases List.mem_cons.mp q with q | q
          · exact h q.symm
          · exact h2 q)]
theorem backR_get (r0 : Ev) : ∀ (vs : List Nat) (r : Ev) (i : Nat), (backR r0 vs r)[i]? = if i ∈ vs then (if i < r.length then some (match r0[i]? with
    | some (.v d) => .v d
    | _ => .u) else none) else r[i]?
  | [], r, i => by simp [backR]
  | v :: vs, r, i => by
    have hl : ∀ vs : List Nat, (backR r0 vs r).length = r.length := fun vs => by
      induction vs with
      | nil => rfl
      | cons w ws ih =>
        show ((backR r0 ws r).set w _).length = _
        rw [List.length_set, ih]
    show ((backR r0 vs r).set v _)[i]? = _
    rw [List.getElem?_set, hl]
    by_cases h : v = i
    · subst h
      rw [if_pos rfl, if_pos List.mem_cons_self]
    · rw [if_neg h, backR_get r0 vs r i]
      by_cases h2 : i ∈ vs
      · rw [if_pos h2, if_pos (List.mem_cons_of_mem _ h2)]
      · rw [if_neg h2, if_neg (by
          intro q
          rcases List.mem_cons.mp q with q | q
          · exact h q.symm
          · exact h2 q)]
/-- behind the comprehension -/
theorem Sta.back {c : Cn} {F F1 H H1 : Hp} {r r1 : Ev} {σ : List (Option V)} {vs : List Nat} (s : Sta k c F H r σ) (e : Same F F1) (s1 : Sta k c F1 H1 r1 (L2.wipe σ vs)) : Sta k c F1 H1 (backR r vs r1) σ where
  len := by
    have hl : ∀ vs : List Nat, (backR r vs r1).length = r1.length := fun vs => by
      induction vs with
      | nil => rfl
      | cons w ws ih =>
        show ((backR r ws r1).set w _).length = _
        rw [List.length_set, ih]
    rw [hl, s1.len, wipe_length]
  fh := s1.fh
  gh := s1.gh
  f0 := s1.f0
  fg := s1.fg
  cell := fun i x y e1 e2 => by
    rw [backR_get] at e1
    by_cases h : i ∈ vs
    · rw [if_pos h] at e1
      split at e1
      · have e3 := Option.some.inj e1
        subst e3
        cases hr : r[i]? with
        | none => trivial
        | some z =>
          cases z with
          | u => trivial
          | p _ => trivial
          | o _ => trivial
          | io _ _ => trivial
          | v d =>
            obtain ⟨v, q1, q2⟩ := s.cell i _ y hr e2
            exact ⟨v, q1, Dp.up e _ _ q2⟩
      · cases e1
    · rw [if_neg h] at e1
      refine s1.cell i x y e1 ?_
      rw [wipe_set, if_neg h]
      exact e2
  dis := fun i j x y x' y' b e1 e2 e3 e4 w w' => by
    have key : ∀ (i : Nat) (x : Cell) (y : Option V), (backR r vs r1)[i]? = some x → σ[i]? = some y → Own x y b → r1[i]? = some x ∧ (L2.wipe σ vs)[i]? = some y := fun i x y e1 e2 w => by
      rw [backR_get] at e1
      by_cases h : i ∈ vs
      · rw [if_pos h] at e1
        split at e1
        · have e3 := Option.some.inj e1
          subst e3
          cases hr : r[i]? with
          | none =>
            rw [hr] at w
            exact w.elim
          | some z =>
            rw [hr] at w
            cases z <;> exact w.elim
        · cases e1
      · rw [if_neg h] at e1
        exact ⟨e1, by rw [wipe_set, if_neg h]; exact e2⟩
    obtain ⟨f1, f2⟩ := key i x y e1 e2 w
    obtain ⟨f3, f4⟩ := key j x' y' e3 e4 w'
    exact s1.dis i j x y x' y' b f1 f2 f3 f4 w w'

/-- inside, nothing is raised -/
abbrev W0 : WX := fun _ _ _ _ => False
theorem wipeR_len (r : Ev) : ∀ vs : List Nat, (wipeR r vs).length = r.length
  | [] => rfl
  | v :: vs => by
    show ((wipeR r vs).set v .u).length = _
    rw [List.length_set, wipeR_len r vs]
theorem wipeR_get (r : Ev) : ∀ (vs : List Nat) (i : Nat), (wipeR r vs)[i]? = if i ∈ vs then (if i < r.length then some .u else none) else r[i]?
  | [], i => by simp [wipeR]
  | v :: vs, i => by
    show ((wipeR r vs).set v .u)[i]? = _
    rw [List.getElem?_set, wipeR_len]
    by_cases h : v = i
    · subst h
      rw [if_pos rfl, if_pos List.mem_cons_self]
    · rw [if_neg h, wipeR_get r vs i]
      by_cases h2 : i ∈ vs
      · rw [if_pos h2, if_pos (List.mem_cons_of_mem _ h2)]
      · rw [if_neg h2, if_neg (by
          intro q
          rcases List.mem_cons.mp q with q | q
          · exact h q.symm
          · exact h2 q)]
theorem Sta.grow {c : Cn} {F H : Hp} {r : Ev} {σ : List (Option V)} {a : Addr} {vs us : List V} {ds : List PyData} (s : Sta k c F H r σ) (f : Fresh k c F H r σ a vs ds) : Sta k c F (upd H a (.lst us)) r σ where
  len := s.len
  fh := fun b z e => by
    have n : b ≠ a := fun q => by
      subst q
      rw [f.1] at e
      cases e
    rw [upd_ne n]
    exact s.fh b z e
  gh := fun b z e => by
    have n : b ≠ a := fun q => by
      subst q
      rw [f.2.1] at e
      cases e
    rw [upd_ne n]
    exact s.gh b z e
  f0 := s.f0
  fg := s.fg
  cell := fun i x y e1 e2 => (s.cell i x y e1 e2).stay (Same.refl F) (fun b ws w e => by
    have n : b ≠ a := fun q => f.2.2.2.2 i x y e1 e2 (by
      rw [← q]
      exact w)
    rw [upd_ne n]
    exact e) fun b w => ((s.cell i x y e1 e2).own w).1
  dis := s.dis
theorem Fresh.grow {c : Cn} {F H : Hp} {r : Ev} {σ : List (Option V)} {a : Addr} {vs : List V} {ds : List PyData} {y : V} {z : PyData} (f : Fresh k c F H r σ a vs ds) (d : Dp k.K F y z) : Fresh k c F (upd H a (.lst (vs ++ [y]))) r σ a (vs ++ [y]) (ds ++ [z]) :=
  ⟨f.1, f.2.1, upd_same, DpAll.append f.2.2.2.1 (DpAll.one d), f.2.2.2.2⟩
theorem Fresh.wipe {c : Cn} {F H : Hp} {r : Ev} {σ : List (Option V)} {a : Addr} {vs : List V} {ds : List PyData} (f : Fresh k c F H r σ a vs ds) (js : List Nat) : Fresh k c F H (wipeR r js) (L2.wipe σ js) a vs ds :=
  ⟨f.1, f.2.1, f.2.2.1, f.2.2.2.1, fun i x y e1 e2 w => by
    rw [wipeR_get] at e1
    rw [wipe_set] at e2
    by_cases h : i ∈ js
    · rw [if_pos h] at e1
      split at e1
      · cases e1
        exact w
      · cases e1
    · rw [if_neg h] at e1 e2
      exact f.2.2.2.2 i x y e1 e2 w⟩
theorem Fresh.back {c : Cn} {F H : Hp} {r r1 : Ev} {σ : List (Option V)} {a : Addr} {vs : List V} {ds : List PyData} {js : List Nat} (f : Fresh k c F H (wipeR r1 js) (L2.wipe σ js) a vs ds) : Fresh k c F H (backR r js (wipeR r1 js)) σ a vs ds :=
  ⟨f.1, f.2.1, f.2.2.1, f.2.2.2.1, fun i x y e1 e2 w => by
    rw [backR_get] at e1
    by_cases h : i ∈ js
    · rw [if_pos h] at e1
      split at e1
      · have e3 := Option.some.inj e1
        subst e3
        cases hr : r[i]? with
        | none =>
          rw [hr] at w
          exact w
        | some z =>
          rw [hr] at w
          cases z <;> exact w
      · cases e1
    · rw [if_neg h] at e1
      exact f.2.2.2.2 i x y e1 (by rw [wipe_set, if_neg h]; exact e2) w⟩
theorem wipe_keep {σ σ' : List (Option V)} {js vs : List Nat} (kp : Keep js (L2.wipe σ vs) σ') (h : ∀ j ∈ js, j ∈ vs) : L2.wipe σ' vs = L2.wipe σ vs := by
  apply List.ext_getElem?
  intro i
  have hl : σ'.length = σ.length := by
    rw [kp.1, wipe_length]
  rw [wipe_set, wipe_set, hl]
  by_cases h2 : i ∈ vs
  · rw [if_pos h2, if_pos h2]
  · rw [if_neg h2, if_neg h2, kp.2 i fun q => h2 (h i q), wipe_set, if_neg h2]
theorem dt_comp {vs : List Nat} {mi : M (List PyData)} {g : G1} {js : List Nat} {t : M Bool} {m : M PyData} (hj : ∀ j ∈ js, j ∈ vs) : ∀ σ H Q, rO k W (mComp vs mi g t m) σ H Q → tLc (rI k W mi) (rG k js g) (rT k W0 t) (rD k W0 m) vs σ H Q := fun σ H Q q => by
  obtain ⟨c, F, r, s, q⟩ := q
  refine ⟨c, F, r, s, (Run.bind q).imp fun ds r1 F1 H1 e1 _ ⟨s1, _, q1⟩ J hJ D nD => ?_⟩
  have q1' : Run k c W σ F1 (match mCompL vs g t m ds [] r1 with
    | .ok zs r2 => .ok zs (backR r1 vs (wipeR r2 vs))
    | .ex _ _ => .no
    | .no => .no) (fun ds r' F' H' => ∀ a us, Fresh k c F' H' r' σ a us ds → Q (.ref a) H') := q1
  -- the wish behind the turns
  let E : R (List PyData) → Prop := fun z => match z with
    | .ok zs r2 => ∀ F' H', Same F1 F' → Sta k c F' H' (wipeR r2 vs) (L2.wipe σ vs) → ∀ us, Fresh k c F' H' (wipeR r2 vs) (L2.wipe σ vs) D us zs → Q (.ref D) H'
    | _ => False
  have hE : E (mCompL vs g t m ds [] r1) := by
    revert q1'
    show _ → E _
    cases mCompL vs g t m ds [] r1 with
    | ok zs r2 => exact fun q2 F' H' e2 s2 us f2 => q2 F' H' e2 (Sta.back s1 e2 s2) D us f2.back
    | ex x r2 => exact fun q2 => q2
    | no => exact fun q2 => q2
  have f1 : Fresh k c F1 (upd H1 D (.lst [])) r1 σ D [] [] := s1.freshL nD DpAll.nil
  refine ⟨fun i n H => ∃ F r acc zs, Same F1 F ∧ Sta k c F H (wipeR r vs) (L2.wipe σ vs) ∧ Fresh k c F H (wipeR r vs) (L2.wipe σ vs) D acc zs ∧ n = ds.length - i ∧ E (mCompL vs g t m (ds.drop i) zs r),
    ⟨_, F1, r1, [], [], Same.refl F1, (s1.fresh nD).wipe vs, f1.wipe vs, rfl, hE⟩, fun i n H2 hW => ?_⟩
  obtain ⟨F2, r2, acc, zs, e2, s2, f2, rfl, q2⟩ := hW
  have s2' := s2.hold f2
  obtain ⟨go, stop⟩ := hJ _ F2 H2 _ _ e2 s2' i
  by_cases hi : i < ds.length
  · have hd : ds.drop i = ds[i] :: ds.drop (i + 1) := List.drop_eq_getElem_cons hi
    obtain ⟨g1, g2⟩ := go ds[i] (List.getElem?_eq_getElem hi)
    rw [hd] at q2
    refine .inr ⟨g1, fun H' => ∃ F r acc zs, Same F1 F ∧ Sta k c F H' (wipeR r vs) (L2.wipe σ vs) ∧ Fresh k c F H' (wipeR r vs) (L2.wipe σ vs) D acc zs ∧ E (mCompL vs g t m (ds.drop (i + 1)) zs r),
      fun H' ⟨F3, r3, acc3, zs3, e3, s3, f3, q3⟩ => ⟨ds.length - (i + 1), by omega, F3, r3, acc3, zs3, e3, s3, f3, rfl, q3⟩, fun x H' hy => ?_⟩
    obtain ⟨F3, e3, s3, d3⟩ := g2 x H' hy
    refine ⟨_, F3, wipeR r2 vs, ds[i], s3, d3, ?_⟩
    have q3 : E (match g ds[i] (wipeR r2 vs) with
      | .ok _ r1 => match t r1 with
        | .ok true r2 => match m r2 with
          | .ok z r3 => if zs.length < sizeLine then mCompL vs g t m (ds.drop (i + 1)) (zs ++ [z]) r3 else .no
          | _ => .no
        | .ok false r2 => mCompL vs g t m (ds.drop (i + 1)) zs r2
        | _ => .no
      | _ => .no) := q2
    revert q3
    cases g ds[i] (wipeR r2 vs) with
    | ex x r3 => exact fun q3 => q3
    | no => exact fun q3 => q3
    | ok u r3 =>
      intro q3 F4 H4 σ4 kp e4 s4
      have hw : L2.wipe σ4 vs = L2.wipe σ vs := wipe_keep kp hj
      refine ⟨hw, _, F4, r3, s4, ?_⟩
      have q4 : E (match t r3 with
        | .ok true r2 => match m r2 with
          | .ok z r3 => if zs.length < sizeLine then mCompL vs g t m (ds.drop (i + 1)) (zs ++ [z]) r3 else .no
          | _ => .no
        | .ok false r2 => mCompL vs g t m (ds.drop (i + 1)) zs r2
        | _ => .no) := q3
      revert q4
      cases t r3 with
      | ex x r5 => exact fun q4 => q4.elim
      | no => exact fun q4 => q4
      | ok b r5 =>
        intro q4 F5 H5 e5 s5
        have eA : Same F2 F5 := e3.trans (e4.trans e5)
        cases b with
        | false =>
          (try dsimp only)
          rw [if_neg (by simp)]
          obtain ⟨s6, f6⟩ := s2.unhold f2 s5
          refine ⟨F5, r5, acc, zs, e2.trans eA, ?_, ?_, q4⟩
          · have z := s6.wipe vs
            rw [hw] at z
            exact z
          · have z := f6.wipe vs
            rw [hw] at z
            exact z
        | true =>
          (try dsimp only)
          rw [if_pos rfl]
          refine ⟨_, F5, r5, s5, ?_⟩
          have q5 : E (match m r5 with
            | .ok z r3 => if zs.length < sizeLine then mCompL vs g t m (ds.drop (i + 1)) (zs ++ [z]) r3 else .no
            | _ => .no) := q4
          revert q5
          cases m r5 with
          | ex x r7 => exact fun q5 => q5.elim
          | no => exact fun q5 => q5
          | ok z r7 =>
            intro q5 F7 H7 e7 s7 y dy
            have q6 : E (if zs.length < sizeLine then mCompL vs g t m (ds.drop (i + 1)) (zs ++ [z]) r7 else .no) := q5
            by_cases hz : zs.length < sizeLine
            · rw [if_pos hz] at q6
              obtain ⟨s8, f8⟩ := s2.unhold f2 s7
              refine ⟨acc, f8.2.2.1, by rw [DpAll.len f8.2.2.2.1]; exact hz, F7, r7, acc ++ [y], zs ++ [z], e2.trans (eA.trans e7), ?_, ?_, q6⟩
              · have z1 := (s8.grow (us := acc ++ [y]) f8).wipe vs
                rw [hw] at z1
                exact z1
              · have z1 := (f8.grow dy).wipe vs
                rw [hw] at z1
                exact z1
            · rw [if_neg hz] at q6
              exact q6.elim
  · have hd : ds.drop i = [] := List.drop_of_length_le (by omega)
    rw [hd] at q2
    exact .inl ⟨stop (by omega), q2 F2 H2 e2 s2 acc f2⟩

variable {own : List (Str × Nat)} {elt it : Expr} {ifs : List Expr} {scope : Scope} {mi : M (List PyData)} {g : G1} {js : List Nat} {t : M Bool} {m : M PyData}
theorem dComp (hc : X.calm = true) (hN : X.N.Nodup) (hi : PI X tg it (rI k W mi)) (ok : BlkOk X.N X.env.scope scope own)
    (hg : ∀ (s : Shared) (H : Hp) (C : Addr) (cl : List (Str × Addr)) (fp : List Addr), PG (X.blk s H scope (compEnvC scope cl C X.env) fp) tg (rG k js g)) (ht : ∀ (s : Shared) (H : Hp) (C : Addr) (cl : List (Str × Addr)) (fp : List Addr), PTs (X.blk s H scope (compEnvC scope cl C X.env) fp) ifs (rT k W0 t))
    (he : ∀ (s : Shared) (H : Hp) (C : Addr) (cl : List (Str × Addr)) (fp : List Addr), PE (X.blk s H scope (compEnvC scope cl C X.env) fp) elt (rD k W0 m)) (hj : ∀ j ∈ js, j ∈ own.map (·.2) := by decide) (hs : ∀ x, foldedSetIterable it X.env x = pure x := by intro _; rfl) :
    PE X (.ListComp elt [⟨tg, it, ifs, 0⟩] scope pos) (rO k W (mComp (own.map (·.2)) mi g t m)) := pe_imp (pe_lc hc hN hi ok hg ht he hs) (dt_comp hj)
theorem tsNil : PTs X [] (rT k W (mpure true)) := ⟨fun pins s σ H Q I q => by
  obtain ⟨c, F, r, s', q⟩ := q
  exact pts_nil.run pins s σ H Q I (q F H (Same.refl F) s')⟩
theorem tsOne {d : Expr} {n : M Bool} (h : PT X d (rT k W n)) : PTs X [d] (rT k W n) := pts_one h
/-- name = [.. for ..], the name a plain local: as data, as a list of one's own -/
theorem sSetLc {i : Nat} {y : Str} {py spos : Pos} (hc : X.calm = true) (hN : X.N.Nodup) (hy : X.N[i]? = some y) (hyl : X.env.scope.names.lookup y = some .local) (hsw : swapsWith (.ListComp elt [⟨tg, it, ifs, 0⟩] scope pos) (some (.Name y py)) spos.line X.env = pure true)
    (hi : PI X tg it (rI k W mi)) (ok : BlkOk X.N X.env.scope scope own)
    (hg : ∀ (s : Shared) (H : Hp) (C : Addr) (cl : List (Str × Addr)) (fp : List Addr), PG (X.blk s H scope (compEnvC scope cl C X.env) fp) tg (rG k js g)) (ht : ∀ (s : Shared) (H : Hp) (C : Addr) (cl : List (Str × Addr)) (fp : List Addr), PTs (X.blk s H scope (compEnvC scope cl C X.env) fp) ifs (rT k W0 t))
    (he : ∀ (s : Shared) (H : Hp) (C : Addr) (cl : List (Str × Addr)) (fp : List Addr), PE (X.blk s H scope (compEnvC scope cl C X.env) fp) elt (rD k W0 m)) (hj : ∀ j ∈ js, j ∈ own.map (·.2) := by decide) (hs : ∀ x, foldedSetIterable it X.env x = pure x := by intro _; rfl) :
    PS X (.Assign [.Name y py] (.ListComp elt [⟨tg, it, ifs, 0⟩] scope pos) spos) (rS k W (sOwn (mComp (own.map (·.2)) mi g t m) i)) := ps_imp (ps_setLc hc hN hy hyl hsw hi ok hg ht he hs) fun D σ H q => by
  obtain ⟨c, F, r, s, q⟩ := q
  refine dt_comp hj σ H _ ⟨c, F, r, s, (SRun.bind q).imp fun ds r1 F1 H1 e1 _ ⟨s1, _, q1⟩ a vs f => ?_⟩
  split at q1
  · rename_i hi
    exact q1 F1 H1 _ (Same.refl F1) (s1.putO hi f)
  · exact q1.elim
theorem sSetLcD {i : Nat} {y : Str} {py spos : Pos} (hc : X.calm = true) (hN : X.N.Nodup) (hy : X.N[i]? = some y) (hyl : X.env.scope.names.lookup y = some .local) (hsw : swapsWith (.ListComp elt [⟨tg, it, ifs, 0⟩] scope pos) (some (.Name y py)) spos.line X.env = pure true)
    (hi : PI X tg it (rI k W mi)) (ok : BlkOk X.N X.env.scope scope own)
    (hg : ∀ (s : Shared) (H : Hp) (C : Addr) (cl : List (Str × Addr)) (fp : List Addr), PG (X.blk s H scope (compEnvC scope cl C X.env) fp) tg (rG k js g)) (ht : ∀ (s : Shared) (H : Hp) (C : Addr) (cl : List (Str × Addr)) (fp : List Addr), PTs (X.blk s H scope (compEnvC scope cl C X.env) fp) ifs (rT k W0 t))
    (he : ∀ (s : Shared) (H : Hp) (C : Addr) (cl : List (Str × Addr)) (fp : List Addr), PE (X.blk s H scope (compEnvC scope cl C X.env) fp) elt (rD k W0 m)) (hj : ∀ j ∈ js, j ∈ own.map (·.2) := by decide) (hs : ∀ x, foldedSetIterable it X.env x = pure x := by intro _; rfl) :
    PS X (.Assign [.Name y py] (.ListComp elt [⟨tg, it, ifs, 0⟩] scope pos) spos) (rS k W (sAsg (mList (mComp (own.map (·.2)) mi g t m)) (gN i))) := ps_imp (ps_setLc hc hN hy hyl hsw hi ok hg ht he hs) fun D σ H q => by
  obtain ⟨c, F, r, s, q⟩ := q
  have q0 := SRun.bind (σ := σ) q
  refine dt_comp hj σ H _ ⟨c, F, r, s, (Run.bind q0).imp fun ds r1 F1 H1 e1 _ ⟨s1, _, q1⟩ a vs f => ?_⟩
  obtain ⟨s2, _, q2⟩ := q1 (upd F1 a (.lst vs)) H1 (same_new f.1) (s1.adopt f)
  unfold gN at q2
  by_cases hl : i < r1.length
  · rw [if_pos hl] at q2
    exact q2 _ H1 _ (Same.refl _) (s2.put hl f.data)
  · rw [if_neg hl] at q2
    exact q2.elim
end
end Dx

namespace Dx
open PySem PySem.Spec PyProof.Rows L2
/-! ### a def's promise, where no object is being shown (repr) around the call; errors may leave it -/
structure FnG (P : Program) (w : World) (K : PySem.W.Frag) (mg : Str → Option Value) (base : Heap) (lv : Nat) (f : Addr) (fd : FuncData) (ps : List Str) (sp : Sp) : Prop where
  len : ∀ vs H Q E, sp vs H Q E → vs.length = ps.length
  go : ∀ (A : Around) (outer : List Env) (s : Shared) (H : Hp) (args : Args) (us : List Value) (vs : List V) (Q : VK) (E : XK), Room lv A → A.guards = some [] → Env0 P w K mg base A outer s H → BindsTo s fd args (ps.zip us) →
    Vals vs us → sp vs H Q E → codeAny (model P w) A (.call (.ref f) args) (CR (L2.CX P w) outer P w H s Q E) s
section
variable {P : Program} {w : World} {K : PySem.W.Frag} {mg : Str → Option Value} {base : Heap} {f : Addr} {fd : FuncData} {ps N : List Str} {sp : Sp} {lv : Nat} {x qual : Str} {st : Stmt}
theorem FnG.mono {j : Nat} (F : FnG P w K mg base j f fd ps sp) (h : j ≤ lv) : FnG P w K mg base lv f fd ps sp := ⟨F.len, fun A outer s H args us vs Q E hr => F.go A outer s H args us vs Q E (hr.mono h)⟩
/-- by its body -/
theorem fnG_of (D : Fun K x qual st f fd) (S : FnScope N ps (defScope st)) (len : ∀ vs H Q E, sp vs H Q E → vs.length = ps.length)
    (body : ∀ (cdv : Value) (A : Around) (outer : List Env) (s : Shared) (H : Hp) (vs : List V) (Q : VK) (E : XK), Room lv (A.deeper (envOfC qual (defScope st) s.heap.objs.size f cdv)) → A.guards = some [] → sp vs H Q E →
      ∃ t, PSs (cxOf (L2.CX P w) P w K mg base N qual (defScope st) f cdv A outer s H E) (defBody st) t ∧ t { nx := fun _ H' => Q .non H', rt := Q } (start N vs) H) : FnG P w K mg base (lv + 1) f fd ps sp := by
  obtain ⟨oc, od, kV, doc, pm, an, cdv, ct, osl, e, lk, hcd⟩ := D.ex
  subst e
  refine ⟨len, fun A outer s H args us vs Q E hr hgd e0 hb r hsp => ?_⟩
  have inK : K.In s.heap := e0.mod.kin.keeps fun b o e => (e0.bs b o e).1
  have nolim : s.heap.NoLimit := e0.mod.nolimit.keeps fun b o e => (e0.bs b o e).1
  have kinds : ∀ y ∈ ps.zip us, (defScope st).names.lookup y.1 = some .local ∨ ((defScope st).names.lookup y.1 = some .cell ∧ ((cellsFrom (s.heap.objs.size + 1) (defScope st).names []).lookup y.1).isSome = true) := fun y hy => by
    have hm : y.1 ∈ ps := by
      obtain ⟨n, v⟩ := y
      exact (List.of_mem_zip hy).1
    rcases S.par y.1 hm with q | q
    · exact .inl q
    · exact .inr ⟨q, PySem.W.cellsFrom_some _ _ _ (.inl q)⟩
  refine codeAny_call_function hr.depth (inK _ _ lk) rfl S.co S.gen rfl (PySem.W.codeRec_of inK hcd) (hb _ _ _ _ ?_)
  refine wpAny_newFunctionEnv_cells S.kind kinds fun env he s1 ic => ?_
  subst he
  obtain ⟨t, ht, hq⟩ := body cdv A outer s H vs Q E (hr.deeper _) hgd hsp
  have I := inv_start (CX := L2.CX P w) (E := E) S hr.hd e0 (len _ _ _ _ hsp) r ic
  refine ⟨nolim.keeps ic.toInCall.keep, codeAny_func (wpAny_mono (ht.run [] s1 (start N vs) H _ I hq) (fun fl s' hs => ?_) fun e s' hs => hs)⟩
  cases fl with
  | ret u =>
    obtain ⟨v, σ', H', J, rv, q⟩ := hs
    exact ⟨v, H', J.os, J.bare, J.base, J.hok, rv, q⟩
  | next =>
    obtain ⟨σ', H', J, q⟩ := hs
    exact ⟨V.non, H', J.os, J.bare, J.base, J.hok, rfl, q⟩
  | brk =>
    obtain ⟨_, _, _, q⟩ := hs
    exact q.elim
  | cont =>
    obtain ⟨_, _, _, q⟩ := hs
    exact q.elim
end
section
variable {X : Cx} {f : Addr} {fd : FuncData} {ps ks : List Str} {sp : Sp} {lv : Nat} {x : Str} {e : Expr} {es : List Expr} {kws : List Keyword} {t tk : TA} {p pos : Pos} {E : L2.St → XK}
theorem goG {pins : List (Addr × Obj)} {σ : L2.St} {H : Hp} {s : Shared} {Q : VK} {args : Args} {us : List Value} {vs : List V} (F : FnG X.prog X.w X.K X.mg X.base lv f fd ps sp) (hr : Room lv X.A) (hgd : X.A.guards = some []) (hb : us.length = ps.length → BindsTo s fd args (ps.zip us))
    (hx : PassesAt (L2.CX X.prog X.w) X σ (E σ)) (I : Inv X pins σ H s) (r : Vals vs us) (h : sp vs H Q (E σ)) : codeAny (model X.prog X.w) X.A (.call (.ref f) args) (fun r s' => match r with
      | .ok (.ret v) => EP X pins σ Q v s'
      | .ok _ => False
      | .error e => X.xe e s') s := by
  have hl : us.length = ps.length := by
    rw [← r.length]
    exact F.len _ _ _ _ h
  refine codeAny_mono (F.go X.A X.stack s H args us vs Q (E σ) hr hgd I.env0 (hb hl) r h) fun r s' hq => ?_
  cases r with
  | error e => exact hx pins H s e s' I hq
  | ok fl =>
    cases fl with
    | ret u => exact I.after hq
    | next => exact hq.elim
    | brk => exact hq.elim
    | cont => exact hq.elim
/-- f(e, ..) -/
theorem pe_g (F : FnG X.prog X.w X.K X.mg X.base lv f fd ps sp) (hr : Room lv X.A) (hgd : X.A.guards = some []) (hg : Gl X x) (hm : X.mg x = some (.ref f)) (hk : PySem.W.keepIn X.K (.ref f) = true) (hb : Binds X.K fd ps []) (hx : ∀ σ, PassesAt (L2.CX X.prog X.w) X σ (E σ))
    (ha : PA X (e :: es) t) (hdb : (x == ("__debug__" : Str)) = false := by decide) (he : starEach (e :: es) X.env = (false, eval e X.env) :: starEach es X.env := by rfl) (hpl : (backTo pos (starEach es X.env)).any (·.1) = false := by rfl) :
    PE X (.Call (.Name x p) (e :: es) [] pos) (tCallS sp E t) := ⟨fun pins s σ H Q I h => by
  refine wpAny_Call_Name_kw (ld_glob I hg hm (PySem.W.callWith_K (h₀ := X.base) I.ok.mod.kin hk (thn (ha.run pos pins s σ H _ I h) fun us s1 hA => ?_) he hpl) hdb)
  obtain ⟨vs, H1, I1, r, q⟩ := hA
  refine ⟨I1.kIn, wpAny_call (codeAny_mono (goG (E := E) F hr hgd (fun hl => ?_) (hx σ) I1 r q) fun r s' z => ?_)⟩
  · have b := hb s1 us I1.kIn (by rw [List.append_nil]; exact hl)
    rw [List.append_nil] at b
    exact b
  · cases r with
    | error e => exact z
    | ok fl => cases fl <;> first | exact z | exact z.elim⟩
theorem pe_g0 (F : FnG X.prog X.w X.K X.mg X.base lv f fd ps sp) (hr : Room lv X.A) (hgd : X.A.guards = some []) (hg : Gl X x) (hm : X.mg x = some (.ref f)) (hk : PySem.W.keepIn X.K (.ref f) = true) (hb : Binds X.K fd ps []) (hx : ∀ σ, PassesAt (L2.CX X.prog X.w) X σ (E σ))
    (hdb : (x == ("__debug__" : Str)) = false := by decide) : PE X (.Call (.Name x p) [] [] pos) (tCallS sp E tNil) := ⟨fun pins s σ H Q I h => by
  refine wpAny_Call_Name_kw (ld_glob I hg hm (PySem.W.callWith_K0 I.kIn hk (wpAny_call (codeAny_mono (goG (E := E) (us := []) F hr hgd (fun hl => ?_) (hx σ) I .nil h) fun r s' z => ?_))) hdb)
  · exact hb s [] I.kIn hl
  · cases r with
    | error e => exact z
    | ok fl => cases fl <;> first | exact z | exact z.elim⟩
/-- f(.., k = v, ..): the values in the order in which they are written, then put in the parameters' order -/
structure KwB (K : PySem.W.Frag) (fd : FuncData) (ps ks : List Str) (n : Nat) (g : {A : Type} → List A → List A → List A) : Prop where
  to : ∀ (s : Shared) (us ws : List Value), us.length = n → ws.length = ks.length → BindsTo s fd ⟨us, ks.zip ws⟩ (ps.zip (g us ws))
  rel : ∀ {vs : List V} {us : List Value} {zs : List V} {ws : List Value}, Vals vs us → Vals zs ws → vs.length = n → zs.length = ks.length → Vals (g vs zs) (g us ws)
def tCallG (sp : Sp) (n m : Nat) (g : List V → List V → List V) (E : L2.St → XK) (t tk : TA) : TE := fun σ H Q => t σ H fun vs H1 => tk σ H1 fun zs H2 => vs.length = n ∧ zs.length = m ∧ sp (g vs zs) H2 Q (E σ)
theorem pe_gk {n : Nat} {g : {A : Type} → List A → List A → List A} (F : FnG X.prog X.w X.K X.mg X.base lv f fd ps sp) (hr : Room lv X.A) (hgd : X.A.guards = some []) (hg : Gl X x) (hm : X.mg x = some (.ref f)) (hk : PySem.W.keepIn X.K (.ref f) = true) (hb : KwB X.K fd ps ks n g)
    (hx : ∀ σ, PassesAt (L2.CX X.prog X.w) X σ (E σ)) (ha : PA X (e :: es) t) (hkw : PK X kws tk) (hall : (backToKw pos (keywordEach kws X.env)).all (·.1.isSome) = true := by rfl) (hks : (backToKw pos (keywordEach kws X.env)).filterMap (·.1) = ks := by rfl)
    (hdb : (x == ("__debug__" : Str)) = false := by decide) (he : starEach (e :: es) X.env = (false, eval e X.env) :: starEach es X.env := by rfl)
    (hpl : ((backTo pos (starEach (e :: es) X.env)).any (·.1) || (backToKw pos (keywordEach kws X.env)).any (·.1.isNone)) = false := by rfl) : PE X (.Call (.Name x p) (e :: es) kws pos) (tCallG sp n ks.length g E t tk) := ⟨fun pins s σ H Q I h => by
  refine wpAny_Call_Name_kw (ld_glob I hg hm (PySem.W.callWith_KW (h₀ := X.base) I.ok.mod.kin hk hall (thn (ha.run pos pins s σ H _ I h) fun us s1 hA => ?_) hpl he) hdb)
  obtain ⟨vs, H1, I1, r, q⟩ := hA
  refine thn (hkw.run pos pins s1 σ H1 _ I1 q) fun ws s2 hB => ?_
  obtain ⟨zs, H2, I2, rz, l1, l2, q2⟩ := hB
  rw [hks]
  refine ⟨I2.kIn, wpAny_call (codeAny_mono (goG (E := E) F hr hgd (fun _ => hb.to s2 us ws (by rw [← r.length]; exact l1) (by rw [← rz.length]; exact l2)) (hx σ) I2 (hb.rel r rz l1 l2) q2) fun r s' z => ?_)⟩
  cases r with
  | error e => exact z
  | ok fl => cases fl <;> first | exact z | exact z.elim⟩
theorem pe_gk0 {g : {A : Type} → List A → List A → List A} (F : FnG X.prog X.w X.K X.mg X.base lv f fd ps sp) (hr : Room lv X.A) (hgd : X.A.guards = some []) (hg : Gl X x) (hm : X.mg x = some (.ref f)) (hk : PySem.W.keepIn X.K (.ref f) = true) (hb : KwB X.K fd ps ks 0 g)
    (hx : ∀ σ, PassesAt (L2.CX X.prog X.w) X σ (E σ)) (hkw : PK X kws tk) (hall : (backToKw pos (keywordEach kws X.env)).all (·.1.isSome) = true := by rfl) (hks : (backToKw pos (keywordEach kws X.env)).filterMap (·.1) = ks := by rfl)
    (hdb : (x == ("__debug__" : Str)) = false := by decide) (hpl : ((backTo pos (starEach [] X.env)).any (·.1) || (backToKw pos (keywordEach kws X.env)).any (·.1.isNone)) = false := by rfl) : PE X (.Call (.Name x p) [] kws pos) (tCallG sp 0 ks.length g E tNil tk) := ⟨fun pins s σ H Q I h => by
  refine wpAny_Call_Name_kw (ld_glob I hg hm (PySem.W.callWith_KW0 (h₀ := X.base) I.ok.mod.kin hk hall (thn (hkw.run pos pins s σ H _ I h) fun ws s2 hB => ?_) hpl) hdb)
  obtain ⟨zs, H2, I2, rz, l1, l2, q2⟩ := hB
  rw [hks]
  refine ⟨I2.kIn, wpAny_call (codeAny_mono (goG (E := E) F hr hgd (fun _ => hb.to s2 [] ws rfl (by rw [← rz.length]; exact l2)) (hx σ) I2 (hb.rel .nil rz rfl l2) q2) fun r s' z => ?_)⟩
  cases r with
  | error e => exact z
  | ok fl => cases fl <;> first | exact z | exact z.elim⟩
end
end Dx

namespace Dx
open PySem PySem.Spec PyProof.Rows L2
/-! ### a def as a function of cells -/
/-- what the caller gets back of the cells: its own lists -/
def outC : List Cell → Ev → Option (List Cell)
  | [], _ => some []
  | .io j0 _ :: cs, .io j ds :: r => if j0 = j then (outC cs r).map fun l => .io j ds :: l else none
  | .io _ _ :: _, _ => none
  | _ :: cs, _ :: r => (outC cs r).map fun l => .u :: l
  | _ :: _, [] => none
def outS (cs : List Cell) (q : SR) : SR := match q with
  | .nx r => match outC cs r with
    | some l => .rt .none l
    | none => .no
  | .rt d r => match outC cs r with
    | some l => .rt d l
    | none => .no
  | .ro ds r => match outC cs r with
    | some l => .ro ds l
    | none => .no
  | .ex x r => match outC cs r with
    | some l => .ex x l
    | none => .no
  | _ => .no
/-- a body with n names beside its parameters -/
def runB (n : Nat) (body : S) (cs : List Cell) : SR := outS cs (body (cs ++ List.replicate n .u))
def adrV : V → Option Addr
  | .ref a => some a
  | _ => none
def OwnAt (cs : List Cell) (vs : List V) (b : Addr) : Prop := ∃ (j : Nat) (x : Cell) (v : V), cs[j]? = some x ∧ vs[j]? = some v ∧ Own x (some v) b
open Classical in
noncomputable def cOf (F H : Hp) (cs : List Cell) (vs : List V) : Cn := ⟨fun b => if OwnAt cs vs b then none else H b, F, vs.map adrV⟩
theorem cOf_own {F H : Hp} {cs : List Cell} {vs : List V} {b : Addr} (h : OwnAt cs vs b) : (cOf F H cs vs).G b = none := if_pos h
theorem cOf_not {F H : Hp} {cs : List Cell} {vs : List V} {b : Addr} (h : ¬ OwnAt cs vs b) : (cOf F H cs vs).G b = H b := if_neg h
abbrev svs (vs : List V) : List (Option V) := vs.map some
def FRun (k : Kn) (c : Cn) (F : Hp) (vs : List V) (q : SR) (Q : VK) (E : XK) : Prop := match q with
  | .rt d cs => ∀ F' H' y, Same F F' → Sta k c F' H' cs (svs vs) → Dp k.K F' y d → Q y H'
  | .ro ds cs => ∀ F' H' a us, Same F F' → Sta k c F' H' cs (svs vs) → Fresh k c F' H' cs (svs vs) a us ds → Q (.ref a) H'
  | .ex x cs => ∀ F' H' cls dd, Same F F' → Sta k c F' H' cs (svs vs) → ExRep k F' H' x cls dd → E cls dd H'
  | _ => False
/-- the promise of a def that is the function f of its cells -/
def spF (k : Kn) (n : Nat) (f : List Cell → SR) : Sp := fun vs H Q E => ∃ F cs, vs.length = n ∧ Sta k (cOf F H cs vs) F H cs (svs vs) ∧ FRun k (cOf F H cs vs) F vs (f cs) Q E
section
variable {k : Kn} {c : Cn} {F H F' H' : Hp} {cs l : List Cell} {r : Ev} {σ : List (Option V)} {vs : List V}
theorem Sta.pad (s : Sta k c F H r σ) (n : Nat) : Sta k c F H (r ++ List.replicate n .u) (σ ++ List.replicate n none) where
  len := by
    rw [List.length_append, List.length_append, List.length_replicate, List.length_replicate, s.len]
  fh := s.fh
  gh := s.gh
  f0 := s.f0
  fg := s.fg
  cell := fun i x y e1 e2 => by
    by_cases h : i < r.length
    · rw [List.getElem?_append_left h] at e1
      rw [List.getElem?_append_left (s.len ▸ h)] at e2
      exact s.cell i x y e1 e2
    · rw [List.getElem?_append_right (by omega)] at e1
      have e3 := List.mem_of_getElem? e1
      rw [List.mem_replicate] at e3
      rw [e3.2]
      trivial
  dis := fun i j x y x' y' b e1 e2 e3 e4 w w' => by
    have key : ∀ (i : Nat) (x : Cell) (y : Option V), (r ++ List.replicate n .u)[i]? = some x → (σ ++ List.replicate n none)[i]? = some y → Own x y b → r[i]? = some x ∧ σ[i]? = some y := fun i x y e1 e2 w => by
      by_cases h : i < r.length
      · rw [List.getElem?_append_left h] at e1
        rw [List.getElem?_append_left (s.len ▸ h)] at e2
        exact ⟨e1, e2⟩
      · rw [List.getElem?_append_right (by omega)] at e1
        have e3 := List.mem_of_getElem? e1
        rw [List.mem_replicate] at e3
        rw [e3.2] at w
        exact w.elim
    obtain ⟨f1, f2⟩ := key i x y e1 e2 w
    obtain ⟨f3, f4⟩ := key j x' y' e3 e4 w'
    exact s.dis i j x y x' y' b f1 f2 f3 f4 w w'
theorem outC_at : ∀ {cs : List Cell} {r l : List Cell}, outC cs r = some l → l.length = cs.length ∧ ∀ (i : Nat) (x : Cell), l[i]? = some x → x = .u ∨ (∃ j ds ds0, x = .io j ds ∧ r[i]? = some x ∧ cs[i]? = some (.io j ds0))
  | [], r, l, h => by
    cases h
    exact ⟨rfl, fun i x e => by simp at e⟩
  | x :: cs, r, l, h => by
    have fin : ∀ (y z : Cell) (r' : List Cell) (l' : List Cell), outC cs r' = some l' → (z = .u ∨ ∃ j ds ds0, z = .io j ds ∧ z = y ∧ x = .io j ds0) → (z :: l').length = (x :: cs).length ∧ ∀ (i : Nat) (w : Cell), (z :: l')[i]? = some w → w = .u ∨ (∃ j ds ds0, w = .io j ds ∧ (y :: r')[i]? = some w ∧ (x :: cs)[i]? = some (.io j ds0)) := fun y z r' l' e hz => by
      obtain ⟨h1, h2⟩ := outC_at e
      refine ⟨by rw [List.length_cons, List.length_cons, h1], fun i w e2 => ?_⟩
      cases i with
      | zero =>
        have e3 : z = w := by simpa using e2
        subst e3
        rcases hz with hz | ⟨j, ds, ds0, hz, hy, hx⟩
        · exact .inl hz
        · exact .inr ⟨j, ds, ds0, hz, by rw [hy] <;> rfl, by rw [hx] <;> rfl⟩
      | succ i => exact h2 i w (by simpa using e2)
    cases x with
    | io j0 ds0 =>
      cases r with
      | nil => cases h
      | cons y r' =>
        cases y with
        | io j ds =>
          have h0 : (if j0 = j then (outC cs r').map (fun l => Cell.io j ds :: l) else none) = some l := h
          by_cases hj : j0 = j
          · rw [if_pos hj] at h0
            cases q : outC cs r' with
            | none =>
              rw [q] at h0
              cases h0
            | some l' =>
              rw [q] at h0
              cases h0
              exact fin _ _ r' l' q (.inr ⟨j, ds, ds0, rfl, rfl, by rw [hj]⟩)
          · rw [if_neg hj] at h0
            cases h0
        | u => cases h
        | p _ => cases h
        | v _ => cases h
        | o _ => cases h
    | u =>
      cases r with
      | nil => cases h
      | cons y r' =>
        have h' : (outC cs r').map (fun l => Cell.u :: l) = some l := h
        cases q : outC cs r' with
        | none =>
          rw [q] at h'
          cases h'
        | some l' =>
          rw [q] at h'
          cases h'
          exact fin _ _ r' l' q (.inl rfl)
    | p _ =>
      cases r with
      | nil => cases h
      | cons y r' =>
        have h' : (outC cs r').map (fun l => Cell.u :: l) = some l := h
        cases q : outC cs r' with
        | none =>
          rw [q] at h'
          cases h'
        | some l' =>
          rw [q] at h'
          cases h'
          exact fin _ _ r' l' q (.inl rfl)
    | v _ =>
      cases r with
      | nil => cases h
      | cons y r' =>
        have h' : (outC cs r').map (fun l => Cell.u :: l) = some l := h
        cases q : outC cs r' with
        | none =>
          rw [q] at h'
          cases h'
        | some l' =>
          rw [q] at h'
          cases h'
          exact fin _ _ r' l' q (.inl rfl)
    | o _ =>
      cases r with
      | nil => cases h
      | cons y r' =>
        have h' : (outC cs r').map (fun l => Cell.u :: l) = some l := h
        cases q : outC cs r' with
        | none =>
          rw [q] at h'
          cases h'
        | some l' =>
          rw [q] at h'
          cases h'
          exact fin _ _ r' l' q (.inl rfl)
/-- at the end of a body: the caller's lists stand where they stood -/
theorem Sta.out (s : Sta k (cOf F H cs vs) F' H' r σ) (hl : vs.length = cs.length) (s0 : Sta k (cOf F H cs vs) F H cs (svs vs)) (ho : outC cs r = some l) :
    Sta k (cOf F H cs vs) F' H' l (svs vs) ∧ ∀ (i : Nat) (x : Cell) (y : Option V), l[i]? = some x → (svs vs)[i]? = some y → ∀ b, Own x y b → ∃ z y', r[i]? = some z ∧ σ[i]? = some y' ∧ Own z y' b := by
  obtain ⟨hl2, ho2⟩ := outC_at ho
  have key : ∀ (i j : Nat) (ds ds0 : List PyData) (y : Option V), r[i]? = some (.io j ds) → cs[i]? = some (.io j ds0) → (svs vs)[i]? = some y → ∃ y', σ[i]? = some y' ∧ y' = y ∧ CellOk k (cOf F H cs vs) F' H' (.io j ds) y := fun i j ds ds0 y h1 h2 h3 => by
    obtain ⟨y', hy, ok⟩ := s.slot h1
    obtain ⟨a, us, e1, e2, e3, e4, e5, e6⟩ := ok
    obtain ⟨a0, us0, g1, g2, _⟩ := s0.cell i _ y h2 h3
    have g3 := g2.symm.trans e2
    cases g3
    refine ⟨y', hy, e1.trans g1.symm, a, us, g1, e2, e3, e4, e5, e6⟩
  refine ⟨⟨by rw [hl2, ← hl] <;> simp, s.fh, s.gh, s.f0, s.fg, fun i x y e1 e2 => ?_, fun i j x y x' y' b e1 e2 e3 e4 w w' => ?_⟩, fun i x y e1 e2 b w => ?_⟩
  · rcases ho2 i x e1 with rfl | ⟨j, ds, ds0, rfl, h1, h2⟩
    · trivial
    · obtain ⟨_, _, _, ok⟩ := key i j ds ds0 y h1 h2 e2
      exact ok
  · rcases ho2 i x e1 with rfl | ⟨j1, ds1, ds01, rfl, h1, h2⟩
    · exact w.elim
    · rcases ho2 j x' e3 with rfl | ⟨j2, ds2, ds02, rfl, h3, h4⟩
      · exact w'.elim
      · obtain ⟨y1, q1, rfl, _⟩ := key i j1 ds1 ds01 y h1 h2 e2
        obtain ⟨y2, q2, rfl, _⟩ := key j j2 ds2 ds02 y' h3 h4 e4
        exact s.dis i j _ _ _ _ b h1 q1 h3 q2 w w'
  · rcases ho2 i x e1 with rfl | ⟨j1, ds1, ds01, rfl, h1, h2⟩
    · exact w.elim
    · obtain ⟨y1, q1, rfl, _⟩ := key i j1 ds1 ds01 y h1 h2 e2
      exact ⟨_, _, h1, q1, w⟩
theorem Fresh.out {a : Addr} {us : List V} {ds : List PyData} (f : Fresh k (cOf F H cs vs) F' H' r σ a us ds)
    (ho : ∀ (i : Nat) (x : Cell) (y : Option V), l[i]? = some x → (svs vs)[i]? = some y → ∀ b, Own x y b → ∃ z y', r[i]? = some z ∧ σ[i]? = some y' ∧ Own z y' b) : Fresh k (cOf F H cs vs) F' H' l (svs vs) a us ds :=
  ⟨f.1, f.2.1, f.2.2.1, f.2.2.2.1, fun i x y e1 e2 w => by
    obtain ⟨z, y', h1, h2, h3⟩ := ho i x y e1 e2 a w
    exact f.2.2.2.2 i z y' h1 h2 h3⟩
end
section
variable {P : Program} {w : World} {mg : Str → Option Value} {base : Heap} {f : Addr} {fd : FuncData} {ps N : List Str} {lv n : Nat} {x qual : Str} {st : Stmt} {k : Kn} {body : S}
/-- a def by its body -/
theorem okF (D : Fun k.K x qual st f fd) (S : FnScope N ps (defScope st)) (hn : N.length = ps.length + n)
    (hb : ∀ (cdv : Value) (A : Around) (outer : List Env) (s : Shared) (H : Hp) (E : XK), Room lv (A.deeper (envOfC qual (defScope st) s.heap.objs.size f cdv)) → A.guards = some [] →
      PSs (cxOf (L2.CX P w) P w k.K mg base N qual (defScope st) f cdv A outer s H E) (defBody st) (rS k (fun cls d _ H => E cls d H) body)) :
    FnG P w k.K mg base (lv + 1) f fd ps (spF k ps.length (runB n body)) := by
  refine fnG_of D S (fun vs H Q E h => ?_) fun cdv A outer s H vs Q E hr hgd h => ⟨_, hb cdv A outer s H E hr hgd, ?_⟩
  · obtain ⟨F, cs, hl, _⟩ := h
    exact hl
  · obtain ⟨F, cs, hl, s0, q⟩ := h
    have hlc : vs.length = cs.length := by
      have := s0.len
      rw [List.length_map] at this
      exact this.symm
    have hst : L2.start N vs = svs vs ++ List.replicate n none := by
      unfold L2.start
      rw [hn, hl, Nat.add_sub_cancel_left]
    rw [hst]
    refine ⟨_, F, _, s0.pad n, ?_⟩
    unfold runB at q
    revert q
    cases body (cs ++ List.replicate n .u) with
    | nx r =>
      intro q F' H' σ e s'
      cases ho : outC cs r with
      | none =>
        have q2 : FRun k (cOf F H cs vs) F vs (match outC cs r with
          | some l => .rt .none l
          | none => .no) Q E := q
        rw [ho] at q2
        exact q2.elim
      | some l =>
        have q2 : FRun k (cOf F H cs vs) F vs (match outC cs r with
          | some l => .rt .none l
          | none => .no) Q E := q
        rw [ho] at q2
        exact q2 F' H' _ e (s'.out hlc s0 ho).1 Dp.non
    | rt d r =>
      intro q F' H' σ y e s' dy
      cases ho : outC cs r with
      | none =>
        have q2 : FRun k (cOf F H cs vs) F vs (match outC cs r with
          | some l => .rt d l
          | none => .no) Q E := q
        rw [ho] at q2
        exact q2.elim
      | some l =>
        have q2 : FRun k (cOf F H cs vs) F vs (match outC cs r with
          | some l => .rt d l
          | none => .no) Q E := q
        rw [ho] at q2
        exact q2 F' H' y e (s'.out hlc s0 ho).1 dy
    | ro d r =>
      intro q F' H' σ a us e s' fr
      cases ho : outC cs r with
      | none =>
        have q2 : FRun k (cOf F H cs vs) F vs (match outC cs r with
          | some l => .ro d l
          | none => .no) Q E := q
        rw [ho] at q2
        exact q2.elim
      | some l =>
        have q2 : FRun k (cOf F H cs vs) F vs (match outC cs r with
          | some l => .ro d l
          | none => .no) Q E := q
        rw [ho] at q2
        exact q2 F' H' a us e (s'.out hlc s0 ho).1 (fr.out (s'.out hlc s0 ho).2)
    | ex z r =>
      intro q F' H' σ cls dd e s' xr
      cases ho : outC cs r with
      | none =>
        have q2 : FRun k (cOf F H cs vs) F vs (match outC cs r with
          | some l => .ex z l
          | none => .no) Q E := q
        rw [ho] at q2
        exact q2.elim
      | some l =>
        have q2 : FRun k (cOf F H cs vs) F vs (match outC cs r with
          | some l => .ex z l
          | none => .no) Q E := q
        rw [ho] at q2
        exact q2 F' H' cls dd e (s'.out hlc s0 ho).1 xr
    | bk r => exact fun q => q.elim
    | ct r => exact fun q => q.elim
    | no => exact fun q => q.elim
end
end Dx

namespace Dx
open PySem PySem.Spec PyProof.Rows L2
/-! ### arguments -/
def argC (r : Ev) : List Arg → Nat → Option (List Cell)
  | [], _ => some []
  | .d d :: as, j => (argC r as (j + 1)).map fun l => .v d :: l
  | .s i :: as, j => match r[i]?.bind ownL with
    | some ds => (argC r as (j + 1)).map fun l => .io j ds :: l
    | none => none
def slotsOf : List Arg → List Nat
  | [] => []
  | .d _ :: as => slotsOf as
  | .s i :: as => i :: slotsOf as
def putC : Ev → List Arg → List Cell → Option Ev
  | r, [], [] => some r
  | r, .d _ :: as, _ :: cs => putC r as cs
  | r, .s i :: as, .io _ ds :: cs => match r[i]? with
    | some x => putC (r.set i (setL x ds)) as cs
    | none => none
  | _, _, _ => none
theorem argC_at : ∀ {as : List Arg} {r : Ev} {j : Nat} {cs : List Cell}, argC r as j = some cs → cs.length = as.length ∧
    (∀ (n : Nat) (d : PyData), as[n]? = some (.d d) → cs[n]? = some (.v d)) ∧ ∀ (n i : Nat), as[n]? = some (.s i) → ∃ x ds, r[i]? = some x ∧ ownL x = some ds ∧ cs[n]? = some (.io (j + n) ds)
  | [], r, j, cs, h => by
    cases h
    exact ⟨rfl, fun n d e => by simp at e, fun n i e => by simp at e⟩
  | .d d :: as, r, j, cs, h => by
    have h' : (argC r as (j + 1)).map (fun l => Cell.v d :: l) = some cs := h
    cases q : argC r as (j + 1) with
    | none =>
      rw [q] at h'
      cases h'
    | some l =>
      rw [q] at h'
      cases h'
      obtain ⟨h1, h2, h3⟩ := argC_at q
      refine ⟨by rw [List.length_cons, List.length_cons, h1], fun n e hn => ?_, fun n i hn => ?_⟩
      · cases n with
        | zero =>
          have e1 : Arg.d d = Arg.d e := by simpa using hn
          cases e1
          rfl
        | succ n => exact h2 n e (by simpa using hn)
      · cases n with
        | zero => simp at hn
        | succ n =>
          obtain ⟨x, ds, f1, f2, f3⟩ := h3 n i (by simpa using hn)
          refine ⟨x, ds, f1, f2, ?_⟩
          rw [List.getElem?_cons_succ, f3]
          have e2 : j + 1 + n = j + (n + 1) := by omega
          rw [e2]
  | .s i0 :: as, r, j, cs, h => by
    have h' : (match r[i0]?.bind ownL with
      | some ds => (argC r as (j + 1)).map (fun l => Cell.io j ds :: l)
      | none => none) = some cs := h
    cases hx : r[i0]? with
    | none =>
      rw [hx] at h'
      cases h'
    | some x0 =>
      rw [hx] at h'
      cases ho : ownL x0 with
      | none =>
        rw [show (some x0).bind ownL = none from ho] at h'
        cases h'
      | some ds0 =>
        rw [show (some x0).bind ownL = some ds0 from ho] at h'
        cases q : argC r as (j + 1) with
        | none =>
          rw [q] at h'
          cases h'
        | some l =>
          rw [q] at h'
          cases h'
          obtain ⟨h1, h2, h3⟩ := argC_at q
          refine ⟨by rw [List.length_cons, List.length_cons, h1], fun n e hn => ?_, fun n i hn => ?_⟩
          · cases n with
            | zero => simp at hn
            | succ n => exact h2 n e (by simpa using hn)
          · cases n with
            | zero =>
              have e1 : i0 = i := by simpa using hn
              subst e1
              exact ⟨x0, ds0, hx, ho, rfl⟩
            | succ n =>
              obtain ⟨x, ds, f1, f2, f3⟩ := h3 n i (by simpa using hn)
              refine ⟨x, ds, f1, f2, ?_⟩
              rw [List.getElem?_cons_succ, f3]
              have e2 : j + 1 + n = j + (n + 1) := by omega
              rw [e2]
theorem mem_slots : ∀ {as : List Arg} {n i : Nat}, as[n]? = some (.s i) → i ∈ slotsOf as
  | [], n, i, h => by simp at h
  | .d d :: as, 0, i, h => by simp at h
  | .d d :: as, n + 1, i, h => mem_slots (as := as) (n := n) (by simpa using h)
  | .s j :: as, 0, i, h => by
    have e : j = i := by simpa using h
    subst e
    exact List.mem_cons_self
  | .s j :: as, n + 1, i, h => List.mem_cons_of_mem _ (mem_slots (as := as) (n := n) (by simpa using h))
theorem slot_mem : ∀ {as : List Arg} {i : Nat}, i ∈ slotsOf as → ∃ n : Nat, as[n]? = some (Arg.s i)
  | [], i, h => by cases h
  | .d d :: as, i, h => by
    obtain ⟨n, hn⟩ := slot_mem (as := as) h
    exact ⟨n + 1, by simpa using hn⟩
  | .s j :: as, i, h => by
    rcases List.mem_cons.mp h with q | q
    · exact ⟨0, by rw [q] <;> rfl⟩
    · obtain ⟨n, hn⟩ := slot_mem (as := as) q
      exact ⟨n + 1, by simpa using hn⟩
theorem slots_uniq : ∀ {as : List Arg}, (slotsOf as).Nodup → ∀ {n m i : Nat}, as[n]? = some (.s i) → as[m]? = some (.s i) → n = m
  | [], _, n, m, i, h, _ => by simp at h
  | .d d :: as, nd, n, m, i, h, h' => by
    cases n with
    | zero => simp at h
    | succ n =>
      cases m with
      | zero => simp at h'
      | succ m => exact congrArg (· + 1) (slots_uniq (as := as) nd (n := n) (m := m) (by simpa using h) (by simpa using h'))
  | .s j :: as, nd, n, m, i, h, h' => by
    have nd' : j ∉ slotsOf as ∧ (slotsOf as).Nodup := List.nodup_cons.mp nd
    cases n with
    | zero =>
      have e : j = i := by simpa using h
      cases m with
      | zero => rfl
      | succ m => exact absurd (mem_slots (as := as) (n := m) (i := j) (by rw [e]; simpa using h')) nd'.1
    | succ n =>
      cases m with
      | zero =>
        have e : j = i := by simpa using h'
        exact absurd (mem_slots (as := as) (n := n) (i := j) (by rw [e]; simpa using h)) nd'.1
      | succ m => exact congrArg (· + 1) (slots_uniq (as := as) nd'.2 (n := n) (m := m) (by simpa using h) (by simpa using h'))
theorem putC_at : ∀ {as : List Arg} {r r' : Ev} {cs : List Cell}, (slotsOf as).Nodup → putC r as cs = some r' → r'.length = r.length ∧ (∀ i, i ∉ slotsOf as → r'[i]? = r[i]?) ∧
    ∀ (n i : Nat), as[n]? = some (.s i) → ∃ x j ds, r[i]? = some x ∧ cs[n]? = some (.io j ds) ∧ r'[i]? = some (setL x ds)
  | [], r, r', cs, _, h => by
    cases cs with
    | nil =>
      cases h
      exact ⟨rfl, fun _ _ => rfl, fun n i e => by simp at e⟩
    | cons _ _ => cases h
  | .d d :: as, r, r', cs, nd, h => by
    cases cs with
    | nil => cases h
    | cons c cs =>
      obtain ⟨h1, h2, h3⟩ := putC_at (as := as) nd (show putC r as cs = some r' from h)
      refine ⟨h1, h2, fun n i e => ?_⟩
      cases n with
      | zero => simp at e
      | succ n => exact h3 n i (by simpa using e)
  | .s i0 :: as, r, r', cs, nd, h => by
    have nd' : i0 ∉ slotsOf as ∧ (slotsOf as).Nodup := List.nodup_cons.mp nd
    cases cs with
    | nil => cases h
    | cons c cs =>
      cases c with
      | u => cases h
      | p _ => cases h
      | v _ => cases h
      | o _ => cases h
      | io j ds =>
        have h' : (match r[i0]? with
          | some x => putC (r.set i0 (setL x ds)) as cs
          | none => none) = some r' := h
        cases hx : r[i0]? with
        | none =>
          rw [hx] at h'
          cases h'
        | some x =>
          rw [hx] at h'
          obtain ⟨h1, h2, h3⟩ := putC_at (as := as) nd'.2 h'
          refine ⟨by rw [h1, List.length_set], fun i hi => ?_, fun n i e => ?_⟩
          · have hi' : i ≠ i0 ∧ i ∉ slotsOf as := by
              constructor
              · intro q
                exact hi (q ▸ List.mem_cons_self)
              · intro q
                exact hi (List.mem_cons_of_mem _ q)
            rw [h2 i hi'.2, List.getElem?_set_ne (Ne.symm hi'.1)]
          · cases n with
            | zero =>
              have e1 : i0 = i := by simpa using e
              subst e1
              refine ⟨x, j, ds, hx, rfl, ?_⟩
              rw [h2 i0 nd'.1, List.getElem?_set_self (List.getElem?_eq_some_iff.mp hx).1]
            | succ n =>
              have e1 : as[n]? = some (.s i) := by simpa using e
              obtain ⟨x1, j1, ds1, f1, f2, f3⟩ := h3 n i e1
              have ne : i0 ≠ i := fun q => nd'.1 (q ▸ mem_slots e1)
              rw [List.getElem?_set_ne ne] at f1
              exact ⟨x1, j1, ds1, f1, f2, f3⟩
section
variable {k : Kn} {c : Cn} {F H F' H' : Hp} {cs cs' : List Cell} {r r' : Ev} {σ : List (Option V)} {vs : List V} {as : List Arg}
theorem args_len : ∀ {vs : List V} {as : List Arg}, ArgsOk k F σ vs as → vs.length = as.length
  | _, _, .nil => rfl
  | _, _, .cons _ t => by rw [List.length_cons, List.length_cons, args_len t]
theorem args_at : ∀ {vs : List V} {as : List Arg} {n : Nat} {a : Arg}, ArgsOk k F σ vs as → as[n]? = some a → ∃ v, vs[n]? = some v ∧ ArgOk k F σ v a
  | _, _, _, _, .nil, h => by simp at h
  | _, _, 0, a, .cons (b := b) h1 _, h => by
    have e : b = a := by simpa using h
    subst e
    exact ⟨_, rfl, h1⟩
  | _, _, n + 1, a, .cons _ t, h => by
    obtain ⟨v, h1, h2⟩ := args_at (n := n) t (by simpa using h)
    exact ⟨v, by simpa using h1, h2⟩
/-- what a slot argument is -/
theorem arg_slot (s : Sta k c F H r σ) (ha : ArgsOk k F σ vs as) (hc : argC r as 0 = some cs) {n i : Nat} (h : as[n]? = some (.s i)) :
    ∃ x ds p us, r[i]? = some x ∧ ownL x = some ds ∧ cs[n]? = some (.io n ds) ∧ vs[n]? = some (.ref p) ∧ σ[i]? = some (some (.ref p)) ∧ Own x (some (.ref p)) p ∧ F p = none ∧ c.G p = none ∧ H p = some (.lst us) ∧ DpAll k.K F us ds := by
  obtain ⟨h1, h2, h3⟩ := argC_at hc
  obtain ⟨x, ds, f1, f2, f3⟩ := h3 n i h
  rw [Nat.zero_add] at f3
  obtain ⟨v, g1, g2⟩ := args_at ha h
  have g3 : σ[i]? = some (some v) := g2
  obtain ⟨y, hy, ok⟩ := s.slot f1
  rw [g3] at hy
  cases hy
  obtain ⟨p, us, e, w, hH, dd⟩ := own_of ok f2
  cases e
  obtain ⟨q1, q2, _⟩ := ok.own w
  exact ⟨x, ds, p, us, f1, f2, f3, g1, g3, w, q1, q2, hH, dd⟩
theorem arg_cell (s : Sta k c F H r σ) (ha : ArgsOk k F σ vs as) (hc : argC r as 0 = some cs) {n : Nat} {x : Cell} (h : cs[n]? = some x) : (∃ d v, as[n]? = some (.d d) ∧ x = .v d ∧ vs[n]? = some v ∧ Dp k.K F v d) ∨
    ∃ i, as[n]? = some (.s i) := by
  obtain ⟨h1, h2, h3⟩ := argC_at hc
  have hn : n < as.length := by
    rw [← h1]
    exact (List.getElem?_eq_some_iff.mp h).1
  have ha0 : as[n]? = some as[n] := List.getElem?_eq_getElem hn
  cases q : as[n] with
  | d d =>
    rw [q] at ha0
    have e := h2 n d ha0
    rw [h] at e
    obtain ⟨v, g1, g2⟩ := args_at ha ha0
    exact .inl ⟨d, v, ha0, Option.some.inj e, g1, g2⟩
  | s i =>
    rw [q] at ha0
    exact .inr ⟨i, ha0⟩
theorem svs_at {vs : List V} {n : Nat} {y : Option V} (h : (svs vs)[n]? = some y) : ∃ v, vs[n]? = some v ∧ y = some v := by
  rw [List.getElem?_map] at h
  cases q : vs[n]? with
  | none =>
    rw [q] at h
    cases h
  | some v =>
    rw [q] at h
    exact ⟨v, rfl, (Option.some.inj h).symm⟩
/-- the callee's beginning -/
theorem call_in (s : Sta k c F H r σ) (ha : ArgsOk k F σ vs as) (hc : argC r as 0 = some cs) (nd : (slotsOf as).Nodup) : Sta k (cOf F H cs vs) F H cs (svs vs) where
  len := by
    rw [List.length_map, (argC_at hc).1, args_len ha]
  fh := s.fh
  gh := fun b z e => by
    by_cases n : OwnAt cs vs b
    · rw [cOf_own n] at e
      cases e
    · rw [cOf_not n] at e
      exact e
  f0 := Same.refl F
  fg := fun b z e _ => by
    show F b ≠ none
    rw [e]
    simp
  cell := fun n x y e1 e2 => by
    obtain ⟨v, hv, rfl⟩ := svs_at e2
    rcases arg_cell s ha hc e1 with ⟨d, v', _, rfl, hv', dv⟩ | ⟨i, hi⟩
    · rw [hv] at hv'
      cases hv'
      exact ⟨v, rfl, dv⟩
    · obtain ⟨x0, ds, p, us, f1, f2, f3, f4, f5, f6, f7, f8, f9, f10⟩ := arg_slot s ha hc hi
      rw [e1] at f3
      cases f3
      rw [hv] at f4
      cases f4
      refine ⟨p, us, rfl, ?_, f7, ?_, f9, f10⟩
      · show (vs.map adrV)[n]? = _
        rw [List.getElem?_map, hv]
        rfl
      · exact cOf_own ⟨n, _, _, e1, hv, rfl⟩
  dis := fun n m x y x' y' b e1 e2 e3 e4 w w' => by
    obtain ⟨v, hv, rfl⟩ := svs_at e2
    obtain ⟨v', hv', rfl⟩ := svs_at e4
    rcases arg_cell s ha hc e1 with ⟨d, _, _, rfl, _, _⟩ | ⟨i, hi⟩
    · exact w.elim
    · rcases arg_cell s ha hc e3 with ⟨d, _, _, rfl, _, _⟩ | ⟨i', hi'⟩
      · exact w'.elim
      · obtain ⟨x0, ds, p, us, f1, f2, f3, f4, f5, f6, f7, f8, f9, f10⟩ := arg_slot s ha hc hi
        obtain ⟨x1, ds1, p1, us1, g1, g2, g3, g4, g5, g6, g7, g8, g9, g10⟩ := arg_slot s ha hc hi'
        rw [e1] at f3
        cases f3
        rw [e3] at g3
        cases g3
        rw [hv] at f4
        cases f4
        rw [hv'] at g4
        cases g4
        have w1 : some (V.ref p) = some (V.ref b) := w
        have w2 : some (V.ref p1) = some (V.ref b) := w'
        cases w1
        cases w2
        have e := s.dis i i' x0 _ x1 _ b f1 f5 g1 g5 f6 g6
        subst e
        exact slots_uniq nd hi hi'
theorem ownAt_iff (s : Sta k c F H r σ) (ha : ArgsOk k F σ vs as) (hc : argC r as 0 = some cs) {b : Addr} (h : OwnAt cs vs b) : ∃ (n i : Nat) (x : Cell), as[n]? = some (Arg.s i) ∧ r[i]? = some x ∧ σ[i]? = some (some (V.ref b)) ∧ Own x (some (V.ref b)) b := by
  obtain ⟨n, x, v, e1, hv, w⟩ := h
  rcases arg_cell s ha hc e1 with ⟨d, _, _, rfl, _, _⟩ | ⟨i, hi⟩
  · exact w.elim
  · obtain ⟨x0, ds, p, us, f1, f2, f3, f4, f5, f6, f7, f8, f9, f10⟩ := arg_slot s ha hc hi
    rw [e1] at f3
    cases f3
    rw [hv] at f4
    cases f4
    have w1 : some (V.ref p) = some (V.ref b) := w
    cases w1
    exact ⟨n, i, x0, hi, f1, f5, f6⟩
theorem own_cell {x : Cell} {y : Option V} {b : Addr} (w : Own x y b) : y = some (.ref b) := by
  cases x with
  | u => exact w.elim
  | p _ => exact w.elim
  | v _ => exact w.elim
  | o _ => exact w
  | io _ _ => exact w
theorem setL_own {x : Cell} {ds : List PyData} {y : Option V} {b : Addr} : Own (setL x ds) y b → Own x y b := by
  cases x <;> exact fun w => w
/-- behind the call -/
theorem call_out (s : Sta k c F H r σ) (ha : ArgsOk k F σ vs as) (hc : argC r as 0 = some cs) (nd : (slotsOf as).Nodup) (e : Same F F') (s' : Sta k (cOf F H cs vs) F' H' cs' (svs vs)) (hp : putC r as cs' = some r') :
    Sta k c F' H' r' σ ∧ ∀ a us ds, Fresh k (cOf F H cs vs) F' H' cs' (svs vs) a us ds → Fresh k c F' H' r' σ a us ds := by
  obtain ⟨p1, p2, p3⟩ := putC_at nd hp
  have hG : ∀ b z, H b = some z → ¬ OwnAt cs vs b → (cOf F H cs vs).G b = some z := fun b z h n => (cOf_not n).trans h
  have cG : ∀ b z, c.G b = some z → (cOf F H cs vs).G b = some z := fun b z h => hG b z (s.gh b z h) fun n => by
    obtain ⟨_, i, x, _, h2, h3, h4⟩ := ownAt_iff s ha hc n
    rw [((s.cell i x _ h2 h3).own h4).2.1] at h
    cases h
  -- the cells behind the call
  have cells : ∀ (i : Nat) (x : Cell) (y : Option V), r'[i]? = some x → σ[i]? = some y → CellOk k c F' H' x y := fun i x y e1 e2 => by
    by_cases hi : i ∈ slotsOf as
    · obtain ⟨n, hn⟩ := slot_mem hi
      obtain ⟨x0, j, ds, f1, f2, f3⟩ := p3 n i hn
      rw [e1] at f3
      cases f3
      obtain ⟨x1, ds1, p, us, g1, g2, g3, g4, g5, g6, g7, g8, g9, g10⟩ := arg_slot s ha hc hn
      rw [f1] at g1
      cases g1
      rw [e2] at g5
      cases g5
      obtain ⟨y', hy', ok⟩ := s'.slot f2
      obtain ⟨v, hv, rfl⟩ := svs_at hy'
      rw [g4] at hv
      cases hv
      obtain ⟨a, us', q1, q2, q3, q4, q5, q6⟩ := ok
      cases q1
      have ok0 := s.cell i x0 _ f1 e2
      cases x0 with
      | u => cases g2
      | p _ => cases g2
      | v _ => cases g2
      | o _ => exact ⟨p, us', rfl, q3, g8, q5, q6⟩
      | io l _ =>
        obtain ⟨a0, us0, z1, z2, _⟩ := ok0
        cases z1
        exact ⟨p, us', rfl, z2, q3, g8, q5, q6⟩
    · rw [p2 i hi] at e1
      refine (s.cell i x y e1 e2).stay e (fun b us w hb => ?_) fun b w => ?_
      · refine s'.gh b _ (hG b _ hb fun n => ?_)
        obtain ⟨n', i', x', h1, h2, h3, h4⟩ := ownAt_iff s ha hc n
        have q := s.dis i i' x y x' _ b e1 e2 h2 h3 w h4
        subst q
        exact hi (mem_slots h1)
      · obtain ⟨f1, f2, us, f3⟩ := (s.cell i x y e1 e2).own w
        cases q : F' b with
        | none => rfl
        | some z =>
          have n : ¬ OwnAt cs vs b := fun n => by
            obtain ⟨n', i', x', h1, h2, h3, h4⟩ := ownAt_iff s ha hc n
            have q := s.dis i i' x y x' _ b e1 e2 h2 h3 w h4
            subst q
            exact hi (mem_slots h1)
          have z1 := s'.fg b z q (by rw [hG b _ f3 n]; simp)
          exact absurd f1 z1
  -- who owned a list still does
  have owns : ∀ (i : Nat) (x : Cell) (y : Option V) (b : Addr), r'[i]? = some x → σ[i]? = some y → Own x y b → ∃ x0, r[i]? = some x0 ∧ Own x0 y b := fun i x y b e1 e2 w => by
    by_cases hi : i ∈ slotsOf as
    · have hlt : i < r.length := by
        rw [← p1]
        exact (List.getElem?_eq_some_iff.mp e1).1
      obtain ⟨n, hn⟩ := slot_mem hi
      obtain ⟨x0, j, ds, f1, f2, f3⟩ := p3 n i hn
      rw [e1] at f3
      cases f3
      exact ⟨x0, f1, setL_own w⟩
    · rw [p2 i hi] at e1
      exact ⟨x, e1, w⟩
  refine ⟨⟨p1.trans s.len, s'.fh, fun b z h => s'.gh b z (cG b z h), s.f0.trans e, fun b z h g => ?_, cells, fun i j x y x' y' b e1 e2 e3 e4 w w' => ?_⟩, fun a us ds f => ⟨f.1, ?_, f.2.2.1, f.2.2.2.1, fun i x y e1 e2 w => ?_⟩⟩
  · cases q : c.G b with
    | none => exact absurd q g
    | some o =>
      have z1 : F b ≠ none := s'.fg b z h (by rw [cG b o q]; simp)
      cases q2 : F b with
      | none => exact absurd q2 z1
      | some o2 => exact s.fg b o2 q2 g
  · obtain ⟨x0, f1, f2⟩ := owns i x y b e1 e2 w
    obtain ⟨x1, f3, f4⟩ := owns j x' y' b e3 e4 w'
    exact s.dis i j x0 y x1 y' b f1 e2 f3 e4 f2 f4
  · cases q : c.G a with
    | none => rfl
    | some o =>
      have z := f.2.1
      rw [cG a o q] at z
      cases z
  · obtain ⟨x0, f1, f2⟩ := owns i x y a e1 e2 w
    obtain ⟨g1, g2, us0, g3⟩ := (s.cell i x0 y f1 e2).own f2
    have z := f.2.1
    by_cases n : OwnAt cs vs a
    · obtain ⟨n', x', v, h1, h2, h3⟩ := n
      rcases arg_cell s ha hc h1 with ⟨d, _, _, rfl, _, _⟩ | ⟨i', hi'⟩
      · exact h3.elim
      · obtain ⟨x1, j, ds1, q1, q2, q3⟩ := p3 n' i' hi'
        have hv : v = .ref a := by
          have q := own_cell h3
          exact Option.some.inj q
        subst hv
        exact f.2.2.2.2 n' _ (some (.ref a)) q2 (by rw [List.getElem?_map, h2] <;> rfl) rfl
    · rw [hG a _ g3 n] at z
      cases z
end
end Dx

namespace Dx
open PySem PySem.Spec PyProof.Rows L2
section
variable {X : Cx} {k : Kn} {W : WX} {e a b d tg : Expr} {pos p : Pos} {es : List Expr} {x : Str} {kws : List Keyword}
/-! ### arguments: data, or a list of one's own -/
theorem aNil : PA X [] (rA k W (mpure [])) := pa_imp pa_nil fun σ H Q q => by
  obtain ⟨c, F, r, s, q⟩ := q
  exact q F H (Same.refl F) s [] .nil
theorem argOk_up {F F' : Hp} {σ : List (Option V)} {y : V} {a : Arg} (e : Same F F') (h : ArgOk k F σ y a) : ArgOk k F' σ y a := by
  cases a with
  | d d => exact Dp.up e _ _ h
  | s i => exact h
theorem argsOk_up {F F' : Hp} {σ : List (Option V)} (e : Same F F') : ∀ {ys : List V} {as : List Arg}, ArgsOk k F σ ys as → ArgsOk k F' σ ys as
  | _, _, .nil => .nil
  | _, _, .cons h t => .cons (argOk_up e h) (argsOk_up e t)
def mArg (m : M PyData) (ms : M (List Arg)) : M (List Arg) := mbind m fun d => mbind ms fun as => mpure (.d d :: as)
theorem aCons {m : M PyData} {ms : M (List Arg)} (ha : PE X a (rD k W m)) (hr : PA X es (rA k W ms)) (hs : starEach (a :: es) X.env = (false, eval a X.env) :: starEach es X.env := by rfl) : PA X (a :: es) (rA k W (mArg m ms)) :=
  pa_imp (pa_cons ha hr hs) fun σ H Q q => by
    obtain ⟨c, F, r, s, q⟩ := q
    refine ⟨c, F, r, s, (Run.bind q).imp fun d r1 F1 H1 e1 _ ⟨s1, _, q1⟩ x dx => ?_⟩
    refine ⟨c, F1, r1, s1, (Run.bind q1).imp fun ds r2 F2 H2 e2 _ ⟨s2, _, q2⟩ ys dy => ?_⟩
    have d2 : ArgOk k F2 σ x (.d d) := Dp.up e2 _ _ dx
    exact q2 F2 H2 (Same.refl F2) s2 _ (.cons d2 dy)
def mArgS (i : Nat) (ms : M (List Arg)) : M (List Arg) := mHas i (mbind ms fun as => mpure (.s i :: as))
theorem aSlot {i : Nat} {ms : M (List Arg)} (ha : PE X a (tVar i)) (hr : PA X es (rA k W ms)) (hs : starEach (a :: es) X.env = (false, eval a X.env) :: starEach es X.env := by rfl) : PA X (a :: es) (rA k W (mArgS i ms)) :=
  pa_imp (pa_cons ha hr hs) fun σ H Q q => by
    obtain ⟨c, F, r, s, q⟩ := q
    obtain ⟨p, hy, q0⟩ := has_inv s q
    refine ⟨.ref p, hy, c, F, r, s, (Run.bind q0).imp fun ds r2 F2 H2 e2 _ ⟨s2, _, q2⟩ ys dy => ?_⟩
    have d2 : ArgOk k F2 σ (.ref p) (.s i) := hy
    exact q2 F2 H2 (Same.refl F2) s2 _ (.cons d2 dy)
/-! ### the call of a def -/
def putR {A : Type} (r : Ev) (as : List Arg) (cs : List Cell) (f : Ev → R A) : R A := match putC r as cs with
  | some r' => f r'
  | none => .no
def callD (n : Nat) (f : List Cell → SR) (as : List Arg) : M PyData := fun r => match argC r as 0 with
  | none => .no
  | some cs => if as.length = n ∧ (slotsOf as).Nodup then (match f cs with
      | .rt d l => putR r as l fun r' => .ok d r'
      | .ro ds l => putR r as l fun r' => .ok (.list ds) r'
      | .ex x l => putR r as l fun r' => .ex x r'
      | _ => .no) else .no
def callO (n : Nat) (f : List Cell → SR) (as : List Arg) : M (List PyData) := fun r => match argC r as 0 with
  | none => .no
  | some cs => if as.length = n ∧ (slotsOf as).Nodup then (match f cs with
      | .ro ds l => putR r as l fun r' => .ok ds r'
      | .ex x l => putR r as l fun r' => .ex x r'
      | _ => .no) else .no
theorem callD_sp {c : Cn} {n : Nat} {f : List Cell → SR} {F H : Hp} {r : Ev} {σ : List (Option V)} {as : List Arg} {ys : List V} {Q : VK} (s : Sta k c F H r σ) (ha : ArgsOk k F σ ys as)
    (q : Run k c W σ F (callD n f as r) fun d _ F' H' => ∀ y, Dp k.K F' y d → Q y H') : spF k n f ys H Q (WE W σ) := by
  unfold callD at q
  cases hc : argC r as 0 with
  | none =>
    rw [hc] at q
    exact q.elim
  | some cs =>
    rw [hc] at q
    have q1 : Run k c W σ F (if as.length = n ∧ (slotsOf as).Nodup then (match f cs with
      | .rt d l => putR r as l fun r' => .ok d r'
      | .ro ds l => putR r as l fun r' => .ok (.list ds) r'
      | .ex x l => putR r as l fun r' => .ex x r'
      | _ => .no) else .no) (fun d _ F' H' => ∀ y, Dp k.K F' y d → Q y H') := q
    by_cases hn : as.length = n ∧ (slotsOf as).Nodup
    · rw [if_pos hn] at q1
      refine ⟨F, cs, (args_len ha).trans hn.1, call_in s ha hc hn.2, ?_⟩
      revert q1
      cases f cs with
      | rt d l =>
        intro q1 F' H' y e s' dy
        have q2 : Run k c W σ F (putR r as l fun r' => .ok d r') (fun d _ F' H' => ∀ y, Dp k.K F' y d → Q y H') := q1
        unfold putR at q2
        cases hp : putC r as l with
        | none =>
          rw [hp] at q2
          exact q2.elim
        | some r' =>
          rw [hp] at q2
          exact q2 F' H' e (call_out s ha hc hn.2 e s' hp).1 y dy
      | ro ds l =>
        intro q1 F' H' a us e s' fr
        have q2 : Run k c W σ F (putR r as l fun r' => .ok (.list ds) r') (fun d _ F' H' => ∀ y, Dp k.K F' y d → Q y H') := q1
        unfold putR at q2
        cases hp : putC r as l with
        | none =>
          rw [hp] at q2
          exact q2.elim
        | some r' =>
          rw [hp] at q2
          obtain ⟨s2, fo⟩ := call_out s ha hc hn.2 e s' hp
          have f2 := fo a us ds fr
          exact q2 _ H' (e.trans (same_new f2.1)) (s2.adopt f2) _ f2.data
      | ex x l =>
        intro q1 F' H' cls dd e s' xr
        have q2 : Run k c W σ F (putR r as l fun r' => .ex x r') (fun d _ F' H' => ∀ y, Dp k.K F' y d → Q y H') := q1
        unfold putR at q2
        cases hp : putC r as l with
        | none =>
          rw [hp] at q2
          exact q2.elim
        | some r' =>
          rw [hp] at q2
          exact q2 F' H' cls dd e (call_out s ha hc hn.2 e s' hp).1 xr
      | nx r => exact fun q1 => q1.elim
      | bk r => exact fun q1 => q1.elim
      | ct r => exact fun q1 => q1.elim
      | no => exact fun q1 => q1.elim
    · rw [if_neg hn] at q1
      exact q1.elim
theorem callO_sp {c : Cn} {n : Nat} {f : List Cell → SR} {F H : Hp} {r : Ev} {σ : List (Option V)} {as : List Arg} {ys : List V} {Q : VK} (s : Sta k c F H r σ) (ha : ArgsOk k F σ ys as)
    (q : Run k c W σ F (callO n f as r) fun ds r' F' H' => ∀ a us, Fresh k c F' H' r' σ a us ds → Q (.ref a) H') : spF k n f ys H Q (WE W σ) := by
  unfold callO at q
  cases hc : argC r as 0 with
  | none =>
    rw [hc] at q
    exact q.elim
  | some cs =>
    rw [hc] at q
    have q1 : Run k c W σ F (if as.length = n ∧ (slotsOf as).Nodup then (match f cs with
      | .ro ds l => putR r as l fun r' => .ok ds r'
      | .ex x l => putR r as l fun r' => .ex x r'
      | _ => .no) else .no) (fun ds r' F' H' => ∀ a us, Fresh k c F' H' r' σ a us ds → Q (.ref a) H') := q
    by_cases hn : as.length = n ∧ (slotsOf as).Nodup
    · rw [if_pos hn] at q1
      refine ⟨F, cs, (args_len ha).trans hn.1, call_in s ha hc hn.2, ?_⟩
      revert q1
      cases f cs with
      | ro ds l =>
        intro q1 F' H' a us e s' fr
        have q2 : Run k c W σ F (putR r as l fun r' => .ok ds r') (fun ds r' F' H' => ∀ a us, Fresh k c F' H' r' σ a us ds → Q (.ref a) H') := q1
        unfold putR at q2
        cases hp : putC r as l with
        | none =>
          rw [hp] at q2
          exact q2.elim
        | some r' =>
          rw [hp] at q2
          obtain ⟨s2, fo⟩ := call_out s ha hc hn.2 e s' hp
          exact q2 F' H' e s2 a us (fo a us ds fr)
      | ex x l =>
        intro q1 F' H' cls dd e s' xr
        have q2 : Run k c W σ F (putR r as l fun r' => .ex x r') (fun ds r' F' H' => ∀ a us, Fresh k c F' H' r' σ a us ds → Q (.ref a) H') := q1
        unfold putR at q2
        cases hp : putC r as l with
        | none =>
          rw [hp] at q2
          exact q2.elim
        | some r' =>
          rw [hp] at q2
          exact q2 F' H' cls dd e (call_out s ha hc hn.2 e s' hp).1 xr
      | rt d l => exact fun q1 => q1.elim
      | nx r => exact fun q1 => q1.elim
      | bk r => exact fun q1 => q1.elim
      | ct r => exact fun q1 => q1.elim
      | no => exact fun q1 => q1.elim
    · rw [if_neg hn] at q1
      exact q1.elim
/-- a def of the text as it is called: where it stands, its promise -/
structure Def (P : Program) (w : World) (K : PySem.W.Frag) (mg : Str → Option Value) (base : Heap) (k : Kn) (x : Str) (st : Stmt) (ps : List Str) (lv : Nat) (f : List Cell → SR) : Prop where
  ex : ∃ (fa : Addr) (fd : FuncData), mg x = some (.ref fa) ∧ Fun K x x st fa fd ∧ FnG P w K mg base lv fa fd ps (spF k ps.length f)
  bnd : ∀ (kV doc pm : Value) (an : Option Addr) (cdv ct : Value) (us : List Value), us.length = ps.length → bindArgs (PySem.W.fnOf x x (defArgs st) (defBody st) (defScope st) .none kV doc pm an cdv ct) ⟨us, []⟩ = pure (ps.zip us)
variable {st : Stmt}
variable {ps : List Str} {lv : Nat} {f : List Cell → SR}
def mCallD (n : Nat) (f : List Cell → SR) (m : M (List Arg)) : M PyData := mbind m (callD n f)
def mCallO (n : Nat) (f : List Cell → SR) (m : M (List Arg)) : M (List PyData) := mbind m (callO n f)
theorem dCall {m : M (List Arg)} (D : Def X.prog X.w X.K X.mg X.base k x st ps lv f) (hr : Room lv X.A) (hgd : X.A.guards = some []) (hg : Gl X x) (tk : Takes X W) (ha : PA X (e :: es) (rA k W m)) (hdb : (x == ("__debug__" : Str)) = false := by decide)
    (he : starEach (e :: es) X.env = (false, eval e X.env) :: starEach es X.env := by rfl) (hpl : (backTo pos (starEach es X.env)).any (·.1) = false := by rfl) : PE X (.Call (.Name x p) (e :: es) [] pos) (rD k W (mCallD ps.length f m)) := by
  obtain ⟨fa, fd, hm, fu, F⟩ := D.ex
  have hk := fu.kp
  have hb := fu.binds D.bnd
  refine pe_imp (pe_g (E := WE W) F hr hgd hg hm hk hb (passAt tk) ha hdb he hpl) fun σ H Q q => ?_
  obtain ⟨c, F, r, s, q⟩ := q
  exact ⟨c, F, r, s, (Run.bind q).imp fun as r1 F1 H1 e1 _ ⟨s1, _, q1⟩ ys dy => callD_sp s1 dy q1⟩
theorem oCall {m : M (List Arg)} (D : Def X.prog X.w X.K X.mg X.base k x st ps lv f) (hr : Room lv X.A) (hgd : X.A.guards = some []) (hg : Gl X x) (tk : Takes X W) (ha : PA X (e :: es) (rA k W m)) (hdb : (x == ("__debug__" : Str)) = false := by decide)
    (he : starEach (e :: es) X.env = (false, eval e X.env) :: starEach es X.env := by rfl) (hpl : (backTo pos (starEach es X.env)).any (·.1) = false := by rfl) : PE X (.Call (.Name x p) (e :: es) [] pos) (rO k W (mCallO ps.length f m)) := by
  obtain ⟨fa, fd, hm, fu, F⟩ := D.ex
  have hk := fu.kp
  have hb := fu.binds D.bnd
  refine pe_imp (pe_g (E := WE W) F hr hgd hg hm hk hb (passAt tk) ha hdb he hpl) fun σ H Q q => ?_
  obtain ⟨c, F, r, s, q⟩ := q
  exact ⟨c, F, r, s, (Run.bind q).imp fun as r1 F1 H1 e1 _ ⟨s1, _, q1⟩ ys dy => callO_sp s1 dy q1⟩
/-! .. with keywords: all of them data -/
def rK (k : Kn) (W : WX) (m : M (List PyData)) : TA := rL k W m
theorem pk_imp {t t' : TA} (h : PK X kws t) (kk : ∀ σ H Q, t' σ H Q → t σ H Q) : PK X kws t' := ⟨fun ps pins s σ H Q I q => h.run ps pins s σ H Q I (kk σ H Q q)⟩
theorem kNil : PK X [] (rL k W (mpure [])) := pk_imp pk_nil fun σ H Q q => by
  obtain ⟨c, F, r, s, q⟩ := q
  exact q F H (Same.refl F) s [] DpAll.nil
theorem kCons {m : M PyData} {ms : M (List PyData)} {nm : Option Str} {kp : Pos} (ha : PE X a (rD k W m)) (hr : PK X kws (rL k W ms)) : PK X (⟨nm, a, kp⟩ :: kws) (rL k W (mCons m ms)) :=
  pk_imp (pk_cons ha hr) fun σ H Q q => by
    obtain ⟨c, F, r, s, q⟩ := q
    refine ⟨c, F, r, s, (Run.bind q).imp fun d r1 F1 H1 e1 _ ⟨s1, _, q1⟩ x dx => ?_⟩
    refine ⟨c, F1, r1, s1, (Run.bind q1).imp fun ds r2 F2 H2 e2 _ ⟨s2, _, q2⟩ ys dy => ?_⟩
    exact q2 F2 H2 (Same.refl F2) s2 _ (DpAll.cons (Dp.up e2 _ _ dx) dy)
def pick {A : Type} (is : List Nat) (us ws : List A) : List A := is.filterMap fun i => (us ++ ws)[i]?
theorem paired_at {A B : Type} {R : A → B → Prop} : ∀ {xs : List A} {ys : List B}, Paired R xs ys → ∀ i : Nat, (xs[i]? = none ∧ ys[i]? = none) ∨ ∃ x y, xs[i]? = some x ∧ ys[i]? = some y ∧ R x y
  | _, _, .nil, i => .inl ⟨by simp, by simp⟩
  | _, _, .cons h t, 0 => .inr ⟨_, _, rfl, rfl, h⟩
  | _, _, .cons h t, i + 1 => by
    rcases paired_at t i with ⟨h1, h2⟩ | ⟨x, y, h1, h2, h3⟩
    · exact .inl ⟨by simpa using h1, by simpa using h2⟩
    · exact .inr ⟨x, y, by simpa using h1, by simpa using h2, h3⟩
theorem paired_app {A B : Type} {R : A → B → Prop} : ∀ {xs zs : List A} {ys ws : List B}, Paired R xs ys → Paired R zs ws → Paired R (xs ++ zs) (ys ++ ws)
  | _, _, _, _, .nil, s => s
  | _, _, _, _, .cons h t, s => .cons h (paired_app t s)
theorem pick_rel {A B : Type} {R : A → B → Prop} {xs zs : List A} {ys ws : List B} (h : Paired R xs ys) (g : Paired R zs ws) : ∀ is : List Nat, Paired R (pick is xs zs) (pick is ys ws)
  | [] => .nil
  | i :: is => by
    have ih := pick_rel h g is
    unfold pick at ih ⊢
    rcases paired_at (paired_app h g) i with ⟨h1, h2⟩ | ⟨x, y, h1, h2, h3⟩
    · rw [List.filterMap_cons, List.filterMap_cons, h1, h2]
      exact ih
    · rw [List.filterMap_cons, List.filterMap_cons, h1, h2]
      exact .cons h3 ih
def mCallK (n j : Nat) (is : List Nat) (f : List Cell → SR) (m : M (List Arg)) (mk : M (List PyData)) (l : Nat) : M PyData := mbind m fun as => mbind mk fun ds => if as.length = j ∧ ds.length = l then callD n f (pick is as (ds.map Arg.d)) else mno
theorem args_data {F : Hp} {σ : List (Option V)} : ∀ {ys : List V} {ds : List PyData}, DpAll k.K F ys ds → ArgsOk k F σ ys (ds.map Arg.d)
  | _, _, .nil => .nil
  | _, _, .cons h t => .cons h (args_data t)
theorem kwb_of {K : PySem.W.Frag} {fa : Addr} {fd : FuncData} {ks : List Str} {n : Nat} {is : List Nat} (fu : Fun K x x st fa fd)
    (h : ∀ (kV doc pm : Value) (an : Option Addr) (cdv ct : Value) (us ws : List Value), us.length = n → ws.length = ks.length → bindArgs (PySem.W.fnOf x x (defArgs st) (defBody st) (defScope st) .none kV doc pm an cdv ct) ⟨us, ks.zip ws⟩ = pure (ps.zip (pick is us ws))) :
    KwB K fd ps ks n (fun us ws => pick is us ws) := by
  obtain ⟨oc, od, kV, doc, pm, an, cdv, ct, osl, e, lk, hcd⟩ := fu.ex
  subst e
  exact ⟨fun s us ws hu hw => .of_eq (h kV doc pm an cdv ct us ws hu hw), fun r z _ _ => pick_rel r z is⟩
/-- f(e, .., a = .., ..) -/
theorem dCallK {m : M (List Arg)} {mk : M (List PyData)} {ks : List Str} {n : Nat} {is : List Nat} (D : Def X.prog X.w X.K X.mg X.base k x st ps lv f)
    (h : ∀ (kV doc pm : Value) (an : Option Addr) (cdv ct : Value) (us ws : List Value), us.length = n → ws.length = ks.length → bindArgs (PySem.W.fnOf x x (defArgs st) (defBody st) (defScope st) .none kV doc pm an cdv ct) ⟨us, ks.zip ws⟩ = pure (ps.zip (pick is us ws)))
    (hr : Room lv X.A) (hgd : X.A.guards = some []) (hg : Gl X x) (tk : Takes X W) (ha : PA X (e :: es) (rA k W m)) (hkw : PK X kws (rL k W mk)) (hall : (backToKw pos (keywordEach kws X.env)).all (·.1.isSome) = true := by rfl) (hks : (backToKw pos (keywordEach kws X.env)).filterMap (·.1) = ks := by rfl)
    (hdb : (x == ("__debug__" : Str)) = false := by decide) (he : starEach (e :: es) X.env = (false, eval e X.env) :: starEach es X.env := by rfl)
    (hpl : ((backTo pos (starEach (e :: es) X.env)).any (·.1) || (backToKw pos (keywordEach kws X.env)).any (·.1.isNone)) = false := by rfl) : PE X (.Call (.Name x p) (e :: es) kws pos) (rD k W (mCallK ps.length n is f m mk ks.length)) := by
  obtain ⟨fa, fd, hm, fu, F⟩ := D.ex
  refine pe_imp (pe_gk (E := WE W) F hr hgd hg hm fu.kp (kwb_of fu h) (passAt tk) ha hkw hall hks hdb he hpl) fun σ H Q q => ?_
  obtain ⟨c, F, r, s, q⟩ := q
  refine ⟨c, F, r, s, (Run.bind q).imp fun as r1 F1 H1 e1 _ ⟨s1, _, q1⟩ ys dy => ?_⟩
  refine ⟨c, F1, r1, s1, (Run.bind q1).imp fun ds r2 F2 H2 e2 _ ⟨s2, _, q2⟩ zs dz => ?_⟩
  by_cases hl : as.length = n ∧ ds.length = ks.length
  · rw [if_pos hl] at q2
    exact ⟨(args_len dy).trans hl.1, (DpAll.len dz).trans hl.2, callD_sp s2 (pick_rel (argsOk_up e2 dy) (args_data dz) is) q2⟩
  · rw [if_neg hl] at q2
    exact q2.elim
/-- f(a = .., ..) -/
theorem dCallK0 {mk : M (List PyData)} {ks : List Str} {is : List Nat} (D : Def X.prog X.w X.K X.mg X.base k x st ps lv f)
    (h : ∀ (kV doc pm : Value) (an : Option Addr) (cdv ct : Value) (us ws : List Value), us.length = 0 → ws.length = ks.length → bindArgs (PySem.W.fnOf x x (defArgs st) (defBody st) (defScope st) .none kV doc pm an cdv ct) ⟨us, ks.zip ws⟩ = pure (ps.zip (pick is us ws)))
    (hr : Room lv X.A) (hgd : X.A.guards = some []) (hg : Gl X x) (tk : Takes X W) (hkw : PK X kws (rL k W mk)) (hall : (backToKw pos (keywordEach kws X.env)).all (·.1.isSome) = true := by rfl) (hks : (backToKw pos (keywordEach kws X.env)).filterMap (·.1) = ks := by rfl)
    (hdb : (x == ("__debug__" : Str)) = false := by decide) (hpl : ((backTo pos (starEach [] X.env)).any (·.1) || (backToKw pos (keywordEach kws X.env)).any (·.1.isNone)) = false := by rfl) : PE X (.Call (.Name x p) [] kws pos) (rD k W (mCallK ps.length 0 is f (mpure []) mk ks.length)) := by
  obtain ⟨fa, fd, hm, fu, F⟩ := D.ex
  refine pe_imp (pe_gk0 (E := WE W) F hr hgd hg hm fu.kp (kwb_of fu h) (passAt tk) hkw hall hks hdb hpl) fun σ H Q q => ?_
  obtain ⟨c, F, r, s, q⟩ := q
  have q0 := (Run.bind q) F H (Same.refl F) s
  obtain ⟨s1, _, q1⟩ := q0
  refine ⟨c, F, r, s1, (Run.bind q1).imp fun ds r2 F2 H2 e2 _ ⟨s2, _, q2⟩ zs dz => ?_⟩
  by_cases hl : ([] : List Arg).length = 0 ∧ ds.length = ks.length
  · rw [if_pos hl] at q2
    exact ⟨rfl, (DpAll.len dz).trans hl.2, callD_sp s2 (pick_rel .nil (args_data dz) is) q2⟩
  · rw [if_neg hl] at q2
    exact q2.elim
end
/-! ### the law -/
theorem dp_ints {K : PySem.W.Frag} {H : Hp} : ∀ ns : List Int, DpAll K H (ns.map V.int) (ns.map PyData.int)
  | [] => .nil
  | n :: ns => .cons (Dp.int n) (dp_ints ns)
theorem law_sp {k : Kn} {f : List Cell → SR} {H : Hp} {a : Addr} {ns : List Int} {l : List Cell} (hS : SqL k.K H a (ns.map V.int)) (hf : f [.v (.list (ns.map PyData.int))] = .rt (.bool true) l) :
    spF k 1 f [.ref a] H (fun v _ => v = .bl true) fun _ _ _ => False := by
  refine ⟨H, [.v (.list (ns.map PyData.int))], rfl, ⟨rfl, Same.refl H, fun b z e => ?_, Same.refl H, fun b z e _ => ?_, fun i x y e1 e2 => ?_, fun i j x y x' y' b e1 e2 e3 e4 w w' => ?_⟩, ?_⟩
  · by_cases n : OwnAt [.v (.list (ns.map PyData.int))] [.ref a] b
    · rw [cOf_own n] at e
      cases e
    · rw [cOf_not n] at e
      exact e
  · show H b ≠ none
    rw [e]
    simp
  · cases i with
    | zero =>
      have e3 : Cell.v (.list (ns.map PyData.int)) = x := by simpa using e1
      have e4 : some (V.ref a) = y := by simpa using e2
      subst e3 e4
      exact ⟨_, rfl, Dp.lst hS (dp_ints ns)⟩
    | succ i => simp at e1
  · cases i with
    | zero =>
      have e3 : Cell.v (.list (ns.map PyData.int)) = x := by simpa using e1
      subst e3
      exact w.elim
    | succ i => simp at e1
  · show FRun k _ H [.ref a] (f [.v (.list (ns.map PyData.int))]) _ _
    rw [hf]
    exact fun F' H' y e s dy => dp_bl dy
end Dx

namespace Dx
open PySem PySem.Spec PyProof.Rows L2
/-- the one object that is tracked at the law's call: the script, locked (nothing, where it is one of the module's own) -/
def scriptH (a : Addr) (o : Obj) (xs : List V) (own : Bool) : Hp := fun b => if own = false ∧ b = a then some (.frz o (.lst xs)) else none
theorem scriptH_some {a b : Addr} {o : Obj} {xs : List V} {own : Bool} {z : HO} (h : scriptH a o xs own b = some z) : own = false ∧ b = a ∧ z = .frz o (.lst xs) := by
  unfold scriptH at h
  by_cases q : own = false ∧ b = a
  · rw [if_pos q] at h
    cases h
    exact ⟨q.1, q.2, rfl⟩
  · rw [if_neg q] at h
    cases h
section
variable {P : Program} {w : World} {K : PySem.W.Frag} {mg mb : Str → Option Value} {lv : Nat} {fa a : Addr} {fd : FuncData} {x : Str} {sp : Sp} {s : Shared} {vs : List Value} {ns : List Int}
theorem law_g (inK : K.In s.heap) (hns : s.heap.Ns mainGlobals mg) (hb : s.heap.Ns builtinsNs mb) (hbb : ∀ y : Str, y ≠ "__name__" → mb y = bootBuiltins y) (hlim : s.heap.NoLimit) (hgen : s.gens = #[])
    (ha : s.heap.get? a = some { cls := .type "list", data := .seq vs.toArray }) (hi : IntsAre vs ns) (hl : ns.length ≤ sizeLine) (hr : Room lv callerA)
    (F : ∀ base : Heap, K.In base → base.Ns mainGlobals mg → FnG P w K mg base lv fa fd [x] sp) (hbind : ∀ (s : Shared) (u : Value), BindsTo s fd ⟨[u], []⟩ [(x, u)])
    (hsp : ∀ H : Hp, SqL K H a (ns.map V.int) → sp [.ref a] H (fun v _ => v = .bl true) fun _ _ _ => False) :
    codeAny (model P w) callerA (.call (.ref fa) ⟨[.ref a], []⟩) (fun r s' => r = .ok (.ret (.bool true)) ∧ OldK s.heap s'.heap ∧ s'.os = s.os ∧ AllBare s'.gens) s := by
  have rv : Vals (ns.map V.int) vs := vals_of_ints hi
  have hlen : vs.length = ns.length := by
    have := rv.length
    rw [List.length_map] at this
    exact this.symm
  -- what is tracked
  obtain ⟨own, hown⟩ : ∃ own : Bool, own = (K.lookup a).isSome := ⟨_, rfl⟩
  let o : Obj := { cls := .type "list", data := .seq vs.toArray }
  let H : Hp := scriptH a o (ns.map V.int) own
  have hS : SqL K H a (ns.map V.int) := by
    cases q : K.lookup a with
    | some ob =>
      have e := inK a ob q
      rw [ha] at e
      cases e
      exact .inr ⟨_, vs.toArray, _, q, rfl, rfl, rfl, by rw [List.size_toArray, hlen]; exact hl, by simpa using rv⟩
    | none =>
      rw [q] at hown
      refine .inl (.inr ⟨o, ?_⟩)
      show scriptH a o (ns.map V.int) own a = _
      unfold scriptH
      rw [if_pos ⟨hown, rfl⟩]
  have hok : HOk P w H s.heap := fun b z e => by
    obtain ⟨_, rfl, rfl⟩ := scriptH_some e
    exact ⟨ha, by rw [List.length_map]; exact hl, vs, _, rv, ha⟩
  have notDict : ∀ {b : Addr} {ob : Obj} {es : Array DictEntry} {ep : Nat}, s.heap.get? b = some ob → ob.data = .dict es ep → H b = none := fun {b ob es ep} e d => by
    cases q : H b with
    | none => rfl
    | some z =>
      obtain ⟨_, rfl, _⟩ := scriptH_some q
      rw [ha] at e
      cases e
      cases (show Data.seq vs.toArray _ = Data.dict es ep from d)
  have below : ∀ {b : Addr} {ob : Obj}, s.heap.get? b = some ob → H b = none → (hidT s.heap H).get? b = some ob := fun e n => hidT_get e n
  have belowNs : ∀ {b : Addr} {m : Str → Option Value}, s.heap.Ns b m → (hidT s.heap H).Ns b m := fun {b m} hn => by
    obtain ⟨ob, es, ep, e, d, r⟩ := hn
    exact ⟨ob, es, ep, below e (notDict e d), d, r⟩
  have inBase : K.In (hidT s.heap H) := fun b ob e => below (inK b ob e) (by
    cases q : H b with
    | none => rfl
    | some z =>
      obtain ⟨q1, rfl, _⟩ := scriptH_some q
      rw [e] at hown
      rw [hown] at q1
      cases q1)
  have hM : Mod K mg (hidT s.heap H) := by
    obtain ⟨mc, h1, h2⟩ := hlim
    exact ⟨inBase, belowNs hns, ⟨mb, belowNs hb, hbb⟩, ⟨mc, belowNs h1, h2⟩⟩
  have nofr : ∀ b : Addr, b ∉ frs ([] : List Env) := fun b h => by
    have h2 : b ∈ ([] : List Addr) := h
    cases h2
  have e0 : Env0 P w K mg (hidT s.heap H) callerA [] s H := ⟨rfl, hM, fun b ob e => of_hidT e, Nat.le_of_eq (hidT_size _ _), trivial, fun b hb => absurd hb (nofr b), hok, .of_eq hgen⟩
  refine codeAny_mono ((F _ inBase (belowNs hns)).go callerA [] s H ⟨[.ref a], []⟩ [.ref a] [.ref a] _ _ hr rfl e0 (hbind s (.ref a)) (.cons rfl .nil) (hsp H hS)) fun r s' h => ?_
  cases r with
  | error e =>
    obtain ⟨_, _, _, _, _, _, _, _, _, _, _, _, q⟩ := h
    exact q.elim
  | ok fl =>
    cases fl with
    | next => exact h.elim
    | brk => exact h.elim
    | cont => exact h.elim
    | ret u =>
      obtain ⟨v, H', os, bare, un, hok', rv', q⟩ := h
      have q' : v = .bl true := q
      subst q'
      have hu : u = Value.bool true := rv'
      subst hu
      refine ⟨rfl, OldK.of_keep fun b ob e => ?_, os, bare⟩
      cases q : H b with
      | none => exact un.keep b ob e q (nofr b) (by simp)
      | some z =>
        obtain ⟨_, rfl, rfl⟩ := scriptH_some q
        obtain ⟨e2, _⟩ := hok' b _ (un.frzs b o _ q)
        rw [ha] at e
        rw [← e]
        exact e2
end
/-- the goal that the head leaves -/
theorem walk_g {l : PySem.W.OpenLaw} {n lv : Nat} {q : Program} {loose : List Str} {XP : (Str → Option Value) → Heap → Prop} {YP : World → Heap → Prop} {d : DefRec} {K : Params → PySem.W.Frag} {ct : World → String → Option Value} {x : Str} {f : List Cell → SR}
    (hn : l.most = some n) (hn2 : n ≤ sizeLine) (hdf : d.params.defaults = []) (hr : Room lv callerA) (hY : ∀ (w : World) (h : Heap), YP w h → (K w.params).In h)
    (F : ∀ (w : World) (mg : Str → Option Value) (fa : Addr) (h : Heap), (K w.params).In h → h.Ns mainGlobals mg → mg d.name = some (.ref fa) →
      ∃ fd : FuncData, (∀ (s : Shared) (u : Value), BindsTo s fd ⟨[u], []⟩ [(x, u)]) ∧
        ∀ base : Heap, (K w.params).In base → base.Ns mainGlobals mg → FnG l.prog w (K w.params) mg base lv fa fd [x] (spF ⟨K w.params, ct w⟩ 1 f))
    (hf : ∀ ns : List Int, ns.length ≤ n → ∃ cs, f [.v (.list (ns.map PyData.int))] = .rt (.bool true) cs) : PySem.W.WalkO q loose XP YP l.row.toRowW d [] (fun f vs => PySem.call f vs) := by
  refine Att.attach_call hn hdf fun w s₀ s₁ mg mb fa o pm cd doc a vs ns G Y ho hd hcd hmg hobj hints hlen hg => ?_
  have inK := hY w _ Y
  obtain ⟨fd, hb, hF⟩ := F w mg fa _ inK G.T.g hmg
  obtain ⟨cs, hcs⟩ := hf ns hlen
  exact law_g inK G.T.g G.T.b G.T.builtins G.T.nolimit hg hobj hints (Nat.le_trans hlen hn2) hr hF hb fun H hS => law_sp hS hcs
end Dx

namespace Dx
open PySem PySem.Spec PyProof.Rows L2
section
variable {X : Cx} {k : Kn} {W : WX} {e a b d tg : Expr} {pos p : Pos} {es : List Expr} {x : Str}
/-- code that is not come to -/
theorem sNever {st : Stmt} : PS X st (rS k W fun _ => .no) := ps_imp ps_never fun D σ H q => by
  obtain ⟨c, F, r, s, q⟩ := q
  exact q
theorem sDoc {z j pos'} : PS X (.Expr (.Constant (.str z) j pos) pos') (rS k W .nx) := ps_imp ps_doc fun D σ H q => by
  obtain ⟨c, F, r, s, q⟩ := q
  exact q F H σ (Same.refl F) s
/-- a list of one's own is handed on -/
def mTake (i : Nat) : M (List PyData) := fun r => match r[i]? with
  | some (.o ds) => .ok ds (r.set i .u)
  | _ => .no
theorem Sta.drop {c : Cn} {F H : Hp} {r : Ev} {σ : List (Option V)} (s : Sta k c F H r σ) (i : Nat) : Sta k c F H (r.set i .u) σ := by
  have z := s.forget (i := i) (y := (σ[i]?).getD none)
  have e : σ.set i ((σ[i]?).getD none) = σ := by
    apply List.ext_getElem?
    intro j
    by_cases q : i = j
    · subst q
      by_cases hi : i < σ.length
      · rw [List.getElem?_set_self hi, List.getElem?_eq_getElem hi]
        rfl
      · rw [List.getElem?_eq_none (by rw [List.length_set]; omega), List.getElem?_eq_none (by omega)]
    · rw [List.getElem?_set_ne q]
  rw [e] at z
  exact z
theorem oTake {i : Nat} (h : PE X e (tVar i)) : PE X e (rO k W (mTake i)) := pe_imp h fun σ H Q q => by
  obtain ⟨c, F, r, s, q⟩ := q
  unfold mTake at q
  cases hc : r[i]? with
  | none =>
    rw [hc] at q
    exact q.elim
  | some z =>
    rw [hc] at q
    cases z with
    | u => exact q.elim
    | p _ => exact q.elim
    | io j ds => exact q.elim
    | v d => exact q.elim
    | o ds =>
      obtain ⟨y, hy, ok⟩ := s.slot hc
      obtain ⟨a, vs, rfl, f, g, z, dd⟩ := ok
      refine ⟨.ref a, hy, q F H (Same.refl F) (s.drop i) a vs ⟨f, g, z, dd, fun j x y e1 e2 w => ?_⟩⟩
      by_cases q2 : i = j
      · subst q2
        rw [List.getElem?_set_self (List.getElem?_eq_some_iff.mp hc).1] at e1
        cases e1
        exact w
      · rw [List.getElem?_set_ne q2] at e1
        exact q2 (s.dis i j _ _ x y a hc hy e1 e2 rfl w)
/-- len of a list of one's own -/
def lenOwn (o : Option Cell) : Option PyData := (o.bind ownL).map fun ds => .int ds.length
def mLenO (i : Nat) : M PyData := mHas i fun r => mopt (lenOwn r[i]?) r
theorem dLenO {i : Nat} (ha : PE X a (tVar i)) (hg : Gl X "len") (hm : X.mg "len" = none) (hs : starEach [a] X.env = (false, eval a X.env) :: starEach [] X.env := by rfl) (hpl : (backTo pos (starEach [] X.env)).any (·.1) = false := by rfl) :
    PE X (.Call (.Name "len" p) [a] [] pos) (rD k W (mLenO i)) := pe_imp (pe_callB call_len_seq hg hm PySem.boot_len (pa_cons ha pa_nil hs) (he := hs) (hpl := hpl)) fun σ H Q q => by
  obtain ⟨c, F, r, s, q⟩ := q
  obtain ⟨p, hy, q0⟩ := has_inv s q
  obtain ⟨z, hz, kk⟩ := Run.opt q0
  unfold lenOwn at hz
  cases hx : r[i]? with
  | none =>
    rw [hx] at hz
    cases hz
  | some x =>
    rw [hx] at hz
    cases ho : ownL x with
    | none =>
      rw [show (some x).bind ownL = none from ho] at hz
      cases hz
    | some ds =>
      rw [show (some x).bind ownL = some ds from ho] at hz
      cases hz
      obtain ⟨vs, _, hH, dd⟩ := own_at s hx ho hy
      refine ⟨.ref p, hy, p, vs, rfl, .inl (SqL.of hH), ?_⟩
      rw [DpAll.len dd]
      exact kk F H (Same.refl F) s _ (Dp.int _)
/-! ### a, b = x, y -/
theorem Run.under {c : Cn} {F H F1 : Hp} {r : Ev} {σ : List (Option V)} {A : Type} {a : Addr} {vs : List V} {ds : List PyData} {q : R A} {P : A → Ev → Hp → Hp → Prop} (s : Sta k c F H r σ) (f : Fresh k c F H r σ a vs ds) (e : Same F F1) (h : Run k c W σ F1 q P) :
    Run k ⟨upd c.G a (.lst vs), F, c.A⟩ W σ F1 q fun z r' F' H' => Sta k c F' H' r' σ ∧ Fresh k c F' H' r' σ a vs ds ∧ P z r' F' H' := by
  cases q with
  | ok z r' =>
    intro F' H' e1 s1
    obtain ⟨s2, f2⟩ := s.unhold f s1
    exact ⟨s2, f2, h F' H' e1 s2⟩
  | ex x r' => exact fun F' H' cls dd e1 s1 xr => h F' H' cls dd e1 (s.unhold f s1).1 xr
  | no => exact h
def sParDD (i j : Nat) (m n : M PyData) : S := sBind m fun d => sBind n fun e => fun r => if i < r.length ∧ j < r.length then .nx ((r.set i (.v d)).set j (.v e)) else .no
def sParOD (i j : Nat) (m : M (List PyData)) (n : M PyData) : S := sBind m fun d => sBind n fun e => fun r => if i < r.length ∧ j < r.length then .nx ((r.set i (.o d)).set j (.v e)) else .no
def sParOO (i j : Nat) (m n : M (List PyData)) : S := sBind m fun d => sBind n fun e => fun r => if i ≠ j ∧ i < r.length ∧ j < r.length then .nx ((r.set i (.o d)).set j (.o e)) else .no
def sParDO (i j : Nat) (m : M PyData) (n : M (List PyData)) : S := sBind m fun d => sBind n fun e => fun r => if i < r.length ∧ j < r.length then .nx ((r.set i (.v d)).set j (.o e)) else .no
theorem fresh_put {c : Cn} {F H : Hp} {r : Ev} {σ : List (Option V)} {i : Nat} {v : V} {d : PyData} {a : Addr} {vs : List V} {ds : List PyData} (f : Fresh k c F H r σ a vs ds) : Fresh k c F H (r.set i (.v d)) (σ.set i (some v)) a vs ds :=
  ⟨f.1, f.2.1, f.2.2.1, f.2.2.2.1, fun l x y e1 e2 w => by
    by_cases q : i = l
    · subst q
      by_cases hi : i < r.length
      · rw [List.getElem?_set_self hi] at e1
        cases e1
        exact w
      · rw [List.getElem?_eq_none (by rw [List.length_set]; omega)] at e1
        cases e1
    · rw [List.getElem?_set_ne q] at e1 e2
      exact f.2.2.2.2 l x y e1 e2 w⟩
theorem sPar_dd {i j : Nat} {y : Str} {m n : M PyData} {px py pt : Pos} {kt k2 pt2} (hc : X.calm = true) (hN : X.N.Nodup) (hi : X.N[i]? = some x) (hj : X.N[j]? = some y) (hij : i ≠ j) (hx : X.env.scope.names.lookup x = some .local) (hy : X.env.scope.names.lookup y = some .local)
    (ha : PE X a (rD k W m)) (hb : PE X b (rD k W n)) (hw : swappedStores [.Tuple [.Name x px, .Name y py] kt pt] (.Tuple [a, b] k2 pt2) X.env = pure (some [x, y]) := by rfl)
    (hs : swapsWithSole [.Tuple [.Name x px, .Name y py] kt pt] (.Tuple [a, b] k2 pt2) pos.line X.env = pure false := by rfl) (h1 : starEach [a, b] X.env = (false, eval a X.env) :: starEach [b] X.env := by rfl) (h2 : starEach [b] X.env = (false, eval b X.env) :: starEach [] X.env := by rfl) :
    PS X (.Assign [.Tuple [.Name x px, .Name y py] kt pt] (.Tuple [a, b] k2 pt2) pos) (rS k W (sParDD i j m n)) := ps_imp (ps_par hc hN hi hj hij hx hy (pa_cons ha (pa_cons hb pa_nil h2) h1) hw hs) fun D σ H q => by
  obtain ⟨c, F, r, s, q⟩ := q
  refine ⟨c, F, r, s, (SRun.bind q).imp fun d r1 F1 H1 e1 _ ⟨s1, _, q1⟩ v dv => ?_⟩
  refine ⟨c, F1, r1, s1, (SRun.bind q1).imp fun e r2 F2 H2 e2 _ ⟨s2, _, q2⟩ u du => ?_⟩
  refine ⟨v, u, rfl, ?_⟩
  by_cases hl : i < r2.length ∧ j < r2.length
  · rw [if_pos hl] at q2
    exact q2 F2 H2 _ (Same.refl F2) ((s2.put hl.1 (Dp.up e2 _ _ dv)).put (by rw [List.length_set]; exact hl.2) du)
  · rw [if_neg hl] at q2
    exact q2.elim
theorem sPar_od {i j : Nat} {y : Str} {m : M (List PyData)} {n : M PyData} {px py pt : Pos} {kt k2 pt2} (hc : X.calm = true) (hN : X.N.Nodup) (hi : X.N[i]? = some x) (hj : X.N[j]? = some y) (hij : i ≠ j) (hx : X.env.scope.names.lookup x = some .local) (hy : X.env.scope.names.lookup y = some .local)
    (ha : PE X a (rO k W m)) (hb : PE X b (rD k W n)) (hw : swappedStores [.Tuple [.Name x px, .Name y py] kt pt] (.Tuple [a, b] k2 pt2) X.env = pure (some [x, y]) := by rfl)
    (hs : swapsWithSole [.Tuple [.Name x px, .Name y py] kt pt] (.Tuple [a, b] k2 pt2) pos.line X.env = pure false := by rfl) (h1 : starEach [a, b] X.env = (false, eval a X.env) :: starEach [b] X.env := by rfl) (h2 : starEach [b] X.env = (false, eval b X.env) :: starEach [] X.env := by rfl) :
    PS X (.Assign [.Tuple [.Name x px, .Name y py] kt pt] (.Tuple [a, b] k2 pt2) pos) (rS k W (sParOD i j m n)) := ps_imp (ps_par hc hN hi hj hij hx hy (pa_cons ha (pa_cons hb pa_nil h2) h1) hw hs) fun D σ H q => by
  obtain ⟨c, F, r, s, q⟩ := q
  refine ⟨c, F, r, s, (SRun.bind q).imp fun ds r1 F1 H1 e1 _ ⟨s1, _, q1⟩ l vs f => ?_⟩
  refine ⟨_, F1, r1, s1.hold f, (Run.under s1 f (Same.refl F1) (SRun.bind q1)).imp fun e r2 F2 H2 e2 _ ⟨s2, f2, _, _, q2⟩ u du => ?_⟩
  refine ⟨_, u, rfl, ?_⟩
  by_cases hl : i < r2.length ∧ j < r2.length
  · rw [if_pos hl] at q2
    exact q2 F2 H2 _ (Same.refl F2) ((s2.putO hl.1 f2).put (by rw [List.length_set]; exact hl.2) du)
  · rw [if_neg hl] at q2
    exact q2.elim
theorem sPar_do {i j : Nat} {y : Str} {m : M PyData} {n : M (List PyData)} {px py pt : Pos} {kt k2 pt2} (hc : X.calm = true) (hN : X.N.Nodup) (hi : X.N[i]? = some x) (hj : X.N[j]? = some y) (hij : i ≠ j) (hx : X.env.scope.names.lookup x = some .local) (hy : X.env.scope.names.lookup y = some .local)
    (ha : PE X a (rD k W m)) (hb : PE X b (rO k W n)) (hw : swappedStores [.Tuple [.Name x px, .Name y py] kt pt] (.Tuple [a, b] k2 pt2) X.env = pure (some [x, y]) := by rfl)
    (hs : swapsWithSole [.Tuple [.Name x px, .Name y py] kt pt] (.Tuple [a, b] k2 pt2) pos.line X.env = pure false := by rfl) (h1 : starEach [a, b] X.env = (false, eval a X.env) :: starEach [b] X.env := by rfl) (h2 : starEach [b] X.env = (false, eval b X.env) :: starEach [] X.env := by rfl) :
    PS X (.Assign [.Tuple [.Name x px, .Name y py] kt pt] (.Tuple [a, b] k2 pt2) pos) (rS k W (sParDO i j m n)) := ps_imp (ps_par hc hN hi hj hij hx hy (pa_cons ha (pa_cons hb pa_nil h2) h1) hw hs) fun D σ H q => by
  obtain ⟨c, F, r, s, q⟩ := q
  refine ⟨c, F, r, s, (SRun.bind q).imp fun d r1 F1 H1 e1 _ ⟨s1, _, q1⟩ v dv => ?_⟩
  refine ⟨c, F1, r1, s1, (SRun.bind q1).imp fun ds r2 F2 H2 e2 _ ⟨s2, _, q2⟩ l vs f => ?_⟩
  refine ⟨v, _, rfl, ?_⟩
  by_cases hl : i < r2.length ∧ j < r2.length
  · rw [if_pos hl] at q2
    exact q2 F2 H2 _ (Same.refl F2) ((s2.put hl.1 (Dp.up e2 _ _ dv)).putO (by rw [List.length_set]; exact hl.2) (fresh_put f))
  · rw [if_neg hl] at q2
    exact q2.elim
/-! ### isinstance, type(x) is T -/
def tyD : PyData → Option String
  | .none => some "NoneType"
  | .bool _ => some "bool"
  | .int _ => some "int"
  | .str _ => some "str"
  | .list _ => some "list"
  | .tuple _ => some "tuple"
  | .dict _ => none
theorem tyX_of {F H : Hp} (e : Same F H) {v : V} {d : PyData} {t : String} (h : Dp k.K F v d) (ht : tyD d = some t) : TyX k.K H v (.type t) := by
  cases h with
  | non =>
    cases ht
    exact .base .non
  | bl b =>
    cases ht
    exact .base (.bl b)
  | int i =>
    cases ht
    exact .base (.int i)
  | str z =>
    cases ht
    exact .base (.str z)
  | lst a q =>
    cases ht
    rcases e.seq a with (h | ⟨o, h⟩) | ⟨o, its, n, h1, h2, _⟩
    · exact .base (.lst h)
    · exact .base (.frz h)
    · exact .kList h1 h2
  | tup a q =>
    cases ht
    rcases sameT e a with (h | ⟨o, h⟩) | ⟨o, its, n, h1, h2, _⟩
    · exact .base (.tup h)
    · exact .fTuple h
    · exact .kTuple h1 h2
/-- isinstance(x, T), T a built-in type -/
def isiD (T : String) (d : PyData) : Option PyData := (tyD d).bind fun t => (kitB t T).map PyData.bool
theorem dIsi {m : M PyData} {TN : String} (ha : PE X a (rD k W m)) (hg : Gl X "isinstance") (hm : X.mg "isinstance" = none) (hv : bootBuiltins "isinstance" = some (.builtin "isinstance")) (hT : PE X b (tC (.ty TN))) (hK : X.K = k.K := by rfl)
    (h1 : starEach [a, b] X.env = (false, eval a X.env) :: starEach [b] X.env := by rfl) (h2 : starEach [b] X.env = (false, eval b X.env) :: starEach [] X.env := by rfl) (hpl : (backTo pos (starEach [b] X.env)).any (·.1) = false := by rfl) :
    PE X (.Call (.Name "isinstance" p) [a, b] [] pos) (rD k W (mUn (isiD TN) m)) := pe_imp (pe_callB call_isi hg hm hv (pa_cons ha (pa_cons hT pa_nil h2) h1) (he := h1) (hpl := hpl)) fun σ H Q q => by
  obtain ⟨c, F, r, s, q⟩ := q
  refine ⟨c, F, r, s, (Run.bind q).imp fun d r1 F1 H1 e1 _ ⟨s1, _, q1⟩ x dx => ?_⟩
  obtain ⟨z, hz, kk⟩ := Run.opt q1
  unfold isiD at hz
  cases ht : tyD d with
  | none =>
    rw [ht] at hz
    cases hz
  | some t =>
    rw [ht] at hz
    have hz' : (kitB t TN).map PyData.bool = some z := hz
    cases hk : kitB t TN with
    | none =>
      rw [hk] at hz'
      cases hz'
    | some v =>
      rw [hk] at hz'
      cases hz'
      exact ⟨x, .ty TN, _, _, v, rfl, .ty TN, hK ▸ tyX_of s1.fh dx ht, kit_ty hk, kk F1 H1 (Same.refl F1) s1 _ (Dp.bl _)⟩
theorem tyB_of {F H : Hp} (e : Same F H) {v : V} {d : PyData} {t : String} (h : Dp k.K F v d) (ht : tyD d = some t) : TyB k.K H v t := by
  cases h with
  | non =>
    cases ht
    exact .non
  | bl b =>
    cases ht
    exact .bl b
  | int i =>
    cases ht
    exact .int i
  | str z =>
    cases ht
    exact .str z
  | lst a q =>
    cases ht
    exact .lst (e.seq a)
  | tup a q =>
    cases ht
    exact .tup (sameT e a)
def tyIs (neg : Bool) (T : String) (d : PyData) : Option PyData := (tyD d).map fun t => .bool (if neg then !decide (t = T) else decide (t = T))
theorem tyIs_inv {neg : Bool} {T : String} {d z : PyData} (h : tyIs neg T d = some z) : ∃ t, tyD d = some t ∧ z = .bool (if neg then !decide (t = T) else decide (t = T)) := by
  unfold tyIs at h
  cases ht : tyD d with
  | none =>
    rw [ht] at h
    cases h
  | some t =>
    rw [ht] at h
    cases h
    exact ⟨t, rfl, rfl⟩
theorem dt_tyIs {neg : Bool} {m : M PyData} {TN : String} {rr : R2} (hK : X.K = k.K) (hr : ∀ a b H (Q : VK), Q (.bl (if neg then !decide (a = b) else decide (a = b))) H → rr (.ty a) (.ty b) H Q) :
    ∀ σ H Q, rD k W (mUn (tyIs neg TN) m) σ H Q → tOp rr (tCB (rTyp X.K) (tCons (rD k W m) tNil)) (tC (.ty TN)) σ H Q := fun σ H Q q => by
  obtain ⟨c, F, r, s, q⟩ := q
  refine ⟨c, F, r, s, (Run.bind q).imp fun d r1 F1 H1 e1 _ ⟨s1, _, q1⟩ x dx => ?_⟩
  obtain ⟨z, hz, kk⟩ := Run.opt q1
  obtain ⟨t, ht, rfl⟩ := tyIs_inv hz
  exact ⟨x, t, rfl, hK ▸ tyB_of s1.fh dx ht, hr _ _ _ _ (kk F1 H1 (Same.refl F1) s1 _ (Dp.bl _))⟩
theorem tTyIs {m : M PyData} {TN : String} {pc : Pos} (ha : PE X a (rD k W m)) (hg : Gl X "type") (hm : X.mg "type" = none) (hv : bootBuiltins "type" = some (.type "type")) (hT : PE X b (tC (.ty TN))) (hK : X.K = k.K := by rfl)
    (h1 : starEach [a] X.env = (false, eval a X.env) :: starEach [] X.env := by rfl) (hpl : (backTo pos (starEach [] X.env)).any (·.1) = false := by rfl) (hb : behindInMarks .Is b = false := by exact nomark _) :
    PT X (.Compare (.Call (.Name "type" p) [a] [] pos) [.Is] [b] pc) (rT k W (mBool (mUn (tyIs false TN) m))) :=
  pt_imp (pt_cmpR op_isTyB (pe_callTy call_type1 hg hm hv (pa_cons ha pa_nil h1) (he := h1) (hpl := hpl)) hT hb) fun σ H Q q => dt_tyIs hK (fun a b H Q q => ⟨a, b, rfl, rfl, q⟩) σ H _ (dt_bool σ H Q q)
theorem tTyIsNot {m : M PyData} {TN : String} {pc : Pos} (ha : PE X a (rD k W m)) (hg : Gl X "type") (hm : X.mg "type" = none) (hv : bootBuiltins "type" = some (.type "type")) (hT : PE X b (tC (.ty TN))) (hK : X.K = k.K := by rfl)
    (h1 : starEach [a] X.env = (false, eval a X.env) :: starEach [] X.env := by rfl) (hpl : (backTo pos (starEach [] X.env)).any (·.1) = false := by rfl) (hb : behindInMarks .IsNot b = false := by exact nomark _) :
    PT X (.Compare (.Call (.Name "type" p) [a] [] pos) [.IsNot] [b] pc) (rT k W (mBool (mUn (tyIs true TN) m))) :=
  pt_imp (pt_cmpR op_isNotTy (pe_callTy call_type1 hg hm hv (pa_cons ha pa_nil h1) (he := h1) (hpl := hpl)) hT hb) fun σ H Q q => dt_tyIs hK (fun a b H Q q => ⟨a, b, rfl, rfl, q⟩) σ H _ (dt_bool σ H Q q)
/-! ### list(range(..)), list(xs) -/
def rgOk2 (i j : Int) : Prop := rngOk i ∧ rngOk j ∧ (j - i).toNat ≤ 2 ^ 24
instance (i j : Int) : Decidable (rgOk2 i j) := by
  unfold rgOk2
  infer_instance
theorem upL_rgV {K : PySem.W.Frag} {F : Hp} : ∀ (n : Nat) (i : Int), DpAll K F ((List.range n).map fun l => V.int (i + (l : Nat))) (upL i n)
  | 0, _ => .nil
  | n + 1, i => by
    rw [List.range_succ_eq_map, List.map_cons, List.map_map]
    have e : (fun l => V.int (i + ((l : Nat) : Int))) ∘ Nat.succ = fun l => V.int (i + 1 + ((l : Nat) : Int)) := by
      funext l
      show V.int (i + ((l + 1 : Nat) : Int)) = _
      have e2 : i + ((l + 1 : Nat) : Int) = i + 1 + (l : Int) := by omega
      rw [e2]
    rw [e]
    have h0 : Dp K F (V.int (i + ((0 : Nat) : Int))) (.int i) := by
      have e3 : i + ((0 : Nat) : Int) = i := by omega
      rw [e3]
      exact Dp.int i
    exact .cons h0 (upL_rgV n (i + 1))
def mListR1 (m : M PyData) : M (List PyData) := mbind m fun d => match d with
  | .int j => if rgOk2 0 j then mpure (upL 0 (j - 0).toNat) else mno
  | _ => mno
def mListR2 (m n : M PyData) : M (List PyData) := mbind m fun d => mbind n fun e => match d, e with
  | .int i, .int j => if rgOk2 i j then mpure (upL i (j - i).toNat) else mno
  | _, _ => mno
theorem oListR1 {m : M PyData} {p2 pos2 : Pos} (hc : X.calm = true) (hg : Gl X "list") (hm : X.mg "list" = none) (hg2 : Gl X "range") (hm2 : X.mg "range" = none) (ha : PE X a (rD k W m)) (na : starEach [a] X.env = (false, eval a X.env) :: starEach [] X.env := by rfl)
    (nb : starEach [.Call (.Name "range" p2) [a] [] pos2] X.env = (false, eval (.Call (.Name "range" p2) [a] [] pos2) X.env) :: starEach [] X.env := by rfl) : PE X (.Call (.Name "list" p) [.Call (.Name "range" p2) [a] [] pos2] [] pos) (rO k W (mListR1 m)) :=
  pe_imp (pe_listRg hc hg hm (prg_1 hg2 hm2 ha na) nb) fun σ H Q q => by
    obtain ⟨c, F, r, s, q⟩ := q
    refine ⟨c, F, r, s, (Run.bind q).imp fun d r1 F1 H1 e1 _ ⟨s1, _, q1⟩ y dy => ?_⟩
    cases d with
    | int j =>
      have q2 : Run k c W σ F1 ((if rgOk2 0 j then mpure (upL 0 (j - 0).toNat) else mno : M (List PyData)) r1) _ := q1
      by_cases hj : rgOk2 0 j
      · rw [if_pos hj] at q2
        refine ⟨j, dp_int dy, ⟨hj.1.1, hj.1.2, hj.2.1.1, hj.2.1.2, hj.2.2⟩, fun l nl => ?_⟩
        exact q2 F1 _ (Same.refl F1) (s1.fresh nl) l _ (s1.freshL nl (upL_rgV _ 0))
      · rw [if_neg hj] at q2
        exact q2.elim
    | none => exact q1.elim
    | str _ => exact q1.elim
    | list _ => exact q1.elim
    | tuple _ => exact q1.elim
    | bool _ => exact q1.elim
    | dict _ => exact q1.elim
theorem oListR2 {m n : M PyData} {p2 pos2 : Pos} (hc : X.calm = true) (hg : Gl X "list") (hm : X.mg "list" = none) (hg2 : Gl X "range") (hm2 : X.mg "range" = none) (ha : PE X a (rD k W m)) (hb : PE X b (rD k W n)) (na : starEach [a, b] X.env = (false, eval a X.env) :: starEach [b] X.env := by rfl)
    (na2 : starEach [b] X.env = (false, eval b X.env) :: starEach [] X.env := by rfl) (npl : (backTo pos2 (starEach [b] X.env)).any (·.1) = false := by rfl)
    (nb : starEach [.Call (.Name "range" p2) [a, b] [] pos2] X.env = (false, eval (.Call (.Name "range" p2) [a, b] [] pos2) X.env) :: starEach [] X.env := by rfl) : PE X (.Call (.Name "list" p) [.Call (.Name "range" p2) [a, b] [] pos2] [] pos) (rO k W (mListR2 m n)) :=
  pe_imp (pe_listRg hc hg hm (prg_2 hg2 hm2 ha hb na na2 npl) nb) fun σ H Q q => by
    obtain ⟨c, F, r, s, q⟩ := q
    refine ⟨c, F, r, s, (Run.bind q).imp fun d r1 F1 H1 e1 _ ⟨s1, _, q1⟩ y dy => ?_⟩
    refine ⟨c, F1, r1, s1, (Run.bind q1).imp fun e r2 F2 H2 e2 _ ⟨s2, _, q2⟩ z dz => ?_⟩
    have key : ∀ i j, d = .int i → e = .int j → rgOk2 i j ∧ Run k c W σ F2 ((mpure (upL i (j - i).toNat) : M (List PyData)) r2) (fun ds r' F' H' => ∀ a vs, Fresh k c F' H' r' σ a vs ds → Q (.ref a) H') := fun i j h1 h2 => by
      subst h1 h2
      have q3 : Run k c W σ F2 ((if rgOk2 i j then mpure (upL i (j - i).toNat) else mno : M (List PyData)) r2) (fun ds r' F' H' => ∀ a vs, Fresh k c F' H' r' σ a vs ds → Q (.ref a) H') := q2
      by_cases hj : rgOk2 i j
      · rw [if_pos hj] at q3
        exact ⟨hj, q3⟩
      · rw [if_neg hj] at q3
        exact q3.elim
    cases d with
    | int i =>
      cases e with
      | int j =>
        obtain ⟨hj, q3⟩ := key i j rfl rfl
        refine ⟨i, j, dp_int dy, dp_int dz, ⟨hj.1.1, hj.1.2, hj.2.1.1, hj.2.1.2, hj.2.2⟩, fun l nl => ?_⟩
        exact q3 F2 _ (Same.refl F2) (s2.fresh nl) l _ (s2.freshL nl (upL_rgV _ i))
      | none => exact q2.elim
      | str _ => exact q2.elim
      | list _ => exact q2.elim
      | tuple _ => exact q2.elim
      | bool _ => exact q2.elim
      | dict _ => exact q2.elim
    | none => exact q2.elim
    | str _ => exact q2.elim
    | list _ => exact q2.elim
    | tuple _ => exact q2.elim
    | bool _ => exact q2.elim
    | dict _ => exact q2.elim
end
end Dx

namespace Dx
open PySem PySem.Spec PyProof.Rows L2
theorem hu65 {lv : Nat} {A : Around} (hr : Room lv A) : A.units + 65 < cLine := by
  have := hr.un
  omega
theorem hu66 {lv : Nat} {A : Around} (hr : Room lv A) : A.units + 66 < cLine := by
  have := hr.un
  omega
def intOf : PyData → Option Int
  | .int i => some i
  | _ => none
def intsOf : List PyData → Option (List Int)
  | [] => some []
  | .int i :: ds => (intsOf ds).map fun ns => i :: ns
  | _ :: _ => none
theorem intsOf_eq : ∀ {ds : List PyData} {ns : List Int}, intsOf ds = some ns → ds = ns.map PyData.int
  | [], ns, h => by
    cases h
    rfl
  | d :: ds, ns, h => by
    cases d with
    | int i =>
      have h' : (intsOf ds).map (fun ns => i :: ns) = some ns := h
      cases q : intsOf ds with
      | none =>
        rw [q] at h'
        cases h'
      | some ms =>
        rw [q] at h'
        cases h'
        rw [intsOf_eq q]
        rfl
    | none => cases h
    | bool _ => cases h
    | str _ => cases h
    | list _ => cases h
    | tuple _ => cases h
    | dict _ => cases h
theorem intsOf_map : ∀ ns : List Int, intsOf (ns.map PyData.int) = some ns
  | [] => rfl
  | n :: ns => by
    show (intsOf (ns.map PyData.int)).map _ = _
    rw [intsOf_map ns]
    rfl
theorem ints_dp {K : PySem.W.Frag} {F : Hp} : ∀ {ns : List Int} {xs : List V}, DpAll K F xs (ns.map PyData.int) → xs = ns.map V.int
  | [], _, h => by
    cases h
    rfl
  | n :: ns, _, h => by
    cases h with
    | cons h1 h2 =>
      rw [dp_int h1, ints_dp h2]
      rfl
def boolsOf : List PyData → Option (List Bool)
  | [] => some []
  | .bool i :: ds => (boolsOf ds).map fun ns => i :: ns
  | _ :: _ => none
theorem boolsOf_eq : ∀ {ds : List PyData} {ns : List Bool}, boolsOf ds = some ns → ds = ns.map PyData.bool
  | [], ns, h => by
    cases h
    rfl
  | d :: ds, ns, h => by
    cases d with
    | bool i =>
      have h' : (boolsOf ds).map (fun ns => i :: ns) = some ns := h
      cases q : boolsOf ds with
      | none =>
        rw [q] at h'
        cases h'
      | some ms =>
        rw [q] at h'
        cases h'
        rw [boolsOf_eq q]
        rfl
    | none => cases h
    | int _ => cases h
    | str _ => cases h
    | list _ => cases h
    | tuple _ => cases h
    | dict _ => cases h
theorem boolsOf_map : ∀ ns : List Bool, boolsOf (ns.map PyData.bool) = some ns
  | [] => rfl
  | n :: ns => by
    show (boolsOf (ns.map PyData.bool)).map _ = _
    rw [boolsOf_map ns]
    rfl
theorem bools_dp {K : PySem.W.Frag} {F : Hp} : ∀ {ns : List Bool} {xs : List V}, DpAll K F xs (ns.map PyData.bool) → xs = ns.map V.bl
  | [], _, h => by
    cases h
    rfl
  | n :: ns, _, h => by
    cases h with
    | cons h1 h2 =>
      rw [dp_bl h1, bools_dp h2]
      rfl
section
variable {X : Cx} {k : Kn} {W : WX} {e a b d tg : Expr} {pos p : Pos} {es : List Expr} {x : Str}
def fInts (g : List Int → Option PyData) : List PyData → Option PyData
  | [.list ds] => (intsOf ds).bind g
  | _ => none
theorem fInts_inv {g : List Int → Option PyData} {ds : List PyData} {z : PyData} (h : fInts g ds = some z) : ∃ ns, ds = [.list (ns.map PyData.int)] ∧ g ns = some z := by
  unfold fInts at h
  split at h
  · rename_i es
    cases q : intsOf es with
    | none =>
      rw [q] at h
      cases h
    | some ns =>
      rw [q] at h
      exact ⟨ns, by rw [intsOf_eq q], h⟩
  · cases h
theorem bSum (hc : X.calm = true) (hK : X.K = k.K := by rfl) : BtD X k (.builtin "sum") (fInts fun ns => some (.int ns.sum)) := ⟨_, hK ▸ cr_sum hc, fun c F H r σ xs ds z Q s dx hz kk => by
  obtain ⟨ns, rfl, hz2⟩ := fInts_inv hz
  cases hz2
  obtain ⟨y, rfl, d1⟩ := dpAll1 dx
  obtain ⟨q, vs, rfl, p1, p2⟩ := dp_lst d1
  have e := ints_dp p2
  subst e
  exact ⟨q, ns, rfl, s.fh.seq p1, kk F H _ (Same.refl F) s (Dp.int _)⟩⟩
def maxL : List Int → Option PyData
  | [] => none
  | n :: ns => some (.int (ns.foldl max n))
def minL : List Int → Option PyData
  | [] => none
  | n :: ns => some (.int (ns.foldl min n))
theorem foldl_max_spec : ∀ (ns : List Int) (n : Int), (ns.foldl max n = n ∨ ns.foldl max n ∈ ns) ∧ n ≤ ns.foldl max n ∧ ∀ y ∈ ns, y ≤ ns.foldl max n
  | [], n => ⟨.inl rfl, Int.le_refl _, fun y h => by cases h⟩
  | m :: ns, n => by
    obtain ⟨h1, h2, h3⟩ := foldl_max_spec ns (max n m)
    show (ns.foldl max (max n m) = n ∨ ns.foldl max (max n m) ∈ m :: ns) ∧ n ≤ ns.foldl max (max n m) ∧ ∀ y ∈ m :: ns, y ≤ ns.foldl max (max n m)
    refine ⟨?_, by omega, fun y hy => ?_⟩
    · rcases h1 with h1 | h1
      · rw [h1]
        by_cases q : n ≤ m
        · exact .inr (by rw [Int.max_eq_right q]; exact List.mem_cons_self)
        · exact .inl (by omega)
      · exact .inr (List.mem_cons_of_mem _ h1)
    · rcases List.mem_cons.mp hy with q | q
      · subst q
        omega
      · exact h3 y q
theorem foldl_min_spec : ∀ (ns : List Int) (n : Int), (ns.foldl min n = n ∨ ns.foldl min n ∈ ns) ∧ ns.foldl min n ≤ n ∧ ∀ y ∈ ns, ns.foldl min n ≤ y
  | [], n => ⟨.inl rfl, Int.le_refl _, fun y h => by cases h⟩
  | m :: ns, n => by
    obtain ⟨h1, h2, h3⟩ := foldl_min_spec ns (min n m)
    show (ns.foldl min (min n m) = n ∨ ns.foldl min (min n m) ∈ m :: ns) ∧ ns.foldl min (min n m) ≤ n ∧ ∀ y ∈ m :: ns, ns.foldl min (min n m) ≤ y
    refine ⟨?_, by omega, fun y hy => ?_⟩
    · rcases h1 with h1 | h1
      · rw [h1]
        by_cases q : n ≤ m
        · exact .inl (by omega)
        · exact .inr (by rw [Int.min_eq_right (by omega)]; exact List.mem_cons_self)
      · exact .inr (List.mem_cons_of_mem _ h1)
    · rcases List.mem_cons.mp hy with q | q
      · subst q
        omega
      · exact h3 y q
theorem bMaxL (hc : X.calm = true) (hK : X.K = k.K := by rfl) : BtD X k (.builtin "max") (fInts maxL) := ⟨_, hK ▸ cr_max hc, fun c F H r σ xs ds z Q s dx hz kk => by
  obtain ⟨ns, rfl, hz2⟩ := fInts_inv hz
  obtain ⟨y, rfl, d1⟩ := dpAll1 dx
  obtain ⟨q, vs, rfl, p1, p2⟩ := dp_lst d1
  have e := ints_dp p2
  subst e
  cases ns with
  | nil => cases hz2
  | cons n ns =>
    cases hz2
    refine ⟨q, n :: ns, rfl, s.fh.seq p1, Nat.succ_pos _, fun m hm hle => ?_⟩
    obtain ⟨h1, h2, h3⟩ := foldl_max_spec ns n
    have e : m = ns.foldl max n := by
      have a1 : m ≤ ns.foldl max n := by
        rcases List.mem_cons.mp hm with q | q
        · rw [q]
          exact h2
        · exact h3 m q
      have a2 : ns.foldl max n ≤ m := by
        rcases h1 with h1 | h1
        · rw [h1]
          exact hle n List.mem_cons_self
        · exact hle _ (List.mem_cons_of_mem _ h1)
      omega
    rw [e]
    exact kk F H _ (Same.refl F) s (Dp.int _)⟩
theorem bMinL (hc : X.calm = true) (hK : X.K = k.K := by rfl) : BtD X k (.builtin "min") (fInts minL) := ⟨_, hK ▸ cr_min hc, fun c F H r σ xs ds z Q s dx hz kk => by
  obtain ⟨ns, rfl, hz2⟩ := fInts_inv hz
  obtain ⟨y, rfl, d1⟩ := dpAll1 dx
  obtain ⟨q, vs, rfl, p1, p2⟩ := dp_lst d1
  have e := ints_dp p2
  subst e
  cases ns with
  | nil => cases hz2
  | cons n ns =>
    cases hz2
    refine ⟨q, n :: ns, rfl, s.fh.seq p1, Nat.succ_pos _, fun m hm hle => ?_⟩
    obtain ⟨h1, h2, h3⟩ := foldl_min_spec ns n
    have e : m = ns.foldl min n := by
      have a1 : ns.foldl min n ≤ m := by
        rcases List.mem_cons.mp hm with q | q
        · rw [q]
          exact h2
        · exact h3 m q
      have a2 : m ≤ ns.foldl min n := by
        rcases h1 with h1 | h1
        · rw [h1]
          exact hle n List.mem_cons_self
        · exact hle _ (List.mem_cons_of_mem _ h1)
      omega
    rw [e]
    exact kk F H _ (Same.refl F) s (Dp.int _)⟩
def fBools (g : List Bool → Bool) : List PyData → Option PyData
  | [.list ds] => (boolsOf ds).map fun bs => .bool (g bs)
  | _ => none
theorem fBools_inv {g : List Bool → Bool} {ds : List PyData} {z : PyData} (h : fBools g ds = some z) : ∃ bs, ds = [.list (bs.map PyData.bool)] ∧ z = .bool (g bs) := by
  unfold fBools at h
  split at h
  · rename_i es
    cases q : boolsOf es with
    | none =>
      rw [q] at h
      cases h
    | some ns =>
      rw [q] at h
      cases h
      exact ⟨ns, by rw [boolsOf_eq q], rfl⟩
  · cases h
theorem bAll (hc : X.calm = true) (hK : X.K = k.K := by rfl) : BtD X k (.builtin "all") (fBools fun bs => bs.all id) := ⟨_, hK ▸ cr_all hc, fun c F H r σ xs ds z Q s dx hz kk => by
  obtain ⟨ns, rfl, rfl⟩ := fBools_inv hz
  obtain ⟨y, rfl, d1⟩ := dpAll1 dx
  obtain ⟨q, vs, rfl, p1, p2⟩ := dp_lst d1
  have e := bools_dp p2
  subst e
  exact ⟨q, ns, rfl, s.fh.seq p1, kk F H _ (Same.refl F) s (Dp.bl _)⟩⟩
theorem bAny (hc : X.calm = true) (hK : X.K = k.K := by rfl) : BtD X k (.builtin "any") (fBools fun bs => bs.any id) := ⟨_, hK ▸ cr_any hc, fun c F H r σ xs ds z Q s dx hz kk => by
  obtain ⟨ns, rfl, rfl⟩ := fBools_inv hz
  obtain ⟨y, rfl, d1⟩ := dpAll1 dx
  obtain ⟨q, vs, rfl, p1, p2⟩ := dp_lst d1
  have e := bools_dp p2
  subst e
  exact ⟨q, ns, rfl, s.fh.seq p1, kk F H _ (Same.refl F) s (Dp.bl _)⟩⟩
/-- list(xs): a list of its own -/
def mListOf (m : M PyData) : M (List PyData) := mbind m fun d => match d with
  | .list ds => mpure ds
  | .tuple ds => mpure ds
  | _ => mno
theorem oListOf {m : M PyData} (ha : PE X a (rD k W m)) (hg : Gl X "list") (hm : X.mg "list" = none) (hv : bootBuiltins "list" = some (.type "list")) (hK : X.K = k.K := by rfl) (h1 : starEach [a] X.env = (false, eval a X.env) :: starEach [] X.env := by rfl) (hpl : (backTo pos (starEach [] X.env)).any (·.1) = false := by rfl) :
    PE X (.Call (.Name "list" p) [a] [] pos) (rO k W (mListOf m)) := pe_imp (pe_callTy call_list_of hg hm hv (pa_cons ha pa_nil h1) (he := h1) (hpl := hpl)) fun σ H Q q => by
  obtain ⟨c, F, r, s, q⟩ := q
  refine ⟨c, F, r, s, (Run.bind q).imp fun d r1 F1 H1 e1 _ ⟨s1, _, q1⟩ x dx => ?_⟩
  cases d with
  | list ds =>
    obtain ⟨q, vs, rfl, p1, p2⟩ := dp_lst dx
    exact ⟨q, vs, rfl, .inl (hK ▸ s1.fh.seq p1), fun l nl => q1 F1 _ (Same.refl F1) (s1.fresh nl) l _ (s1.freshL nl p2)⟩
  | tuple ds =>
    obtain ⟨q, vs, rfl, p1, p2⟩ := dp_tup dx
    exact ⟨q, vs, rfl, .inr (hK ▸ sameT s1.fh p1), fun l nl => q1 F1 _ (Same.refl F1) (s1.fresh nl) l _ (s1.freshL nl p2)⟩
  | none => exact q1.elim
  | int _ => exact q1.elim
  | str _ => exact q1.elim
  | bool _ => exact q1.elim
  | dict _ => exact q1.elim
end
end Dx

namespace Dx
open PySem PySem.Spec PyProof.Rows L2
open Sem (wp)
section
variable {prog : Program} {w : World} {A : Around} {E : Value → Shared → Prop} {s : Shared}
/-- list(range(..)) whose bounds do not fit into 64 bits: the list takes the items of the long iterator -/
theorem ext_long {R : Result → Shared → Prop} {r : Addr} {lo hi st : Int} {t u v : Tok} {n : Nat} (calm : A.handled = none) (isr : IsRange s.heap r lo hi st t u v) (big : Builtin.Range.small lo hi st = false)
    (size : Builtin.Range.rangeSize lo hi st = n) (few : n ≤ 2 ^ 24) (L : Addr) (res : Value) (c0 : Nat) (isl : s.heap.get? L = some { cls := .type "list", data := .seq #[] c0 })
    (go : ∀ h2 tk2 its c2, (∀ b o, b ≠ L → s.heap.get? b = some o → h2.get? b = some o) → h2.get? L = some { cls := .type "list", dict := none, data := .seq its c2, slots := #[] } →
      ItemsOf (fun i v => ∃ t, v = .int (lo + i * st) t) its n → R (.ok (.ret res)) { s with heap := h2, toks := tk2 }) :
    wpAny (model prog w) A.in1 (Builtin.List.listExtendWith (.ref L) (.ref r) res)
      (fun z s2 => match z with | .done f => R (.ok f) s2 | .again c => c.quiet = true ∧ codeAny (model prog w) A c R s2) (fun x s2 => R (.error x) s2) s := by
  have ne1 : L ≠ r := fun x => by
    rw [x, isr] at isl
    simp at isl
  have below := Heap.lt_size isl
  have ne2 : L ≠ s.heap.objs.size := Nat.ne_of_lt below
  have notin : L ∉ [s.heap.objs.size] := fun m => ne2 (List.mem_singleton.mp m)
  have walk := (Walks.longrange (prog := prog) (w := w) (A := A.in1) calm s.heap.objs.size lo st n).toS
  have turn : ∀ (h : Heap) (c1 tk : Nat), IsLongIter h s.heap.objs.size (lo + ((0 : Nat) : Int) * st) ((n : Int) - ((0 : Nat) : Int)) st → (∀ b o, b ≠ L → s.heap.get? b = some o → h.get? b = some o) →
      h.get? L = some { cls := .type "list", data := .seq #[] c1 } → codeAny (model prog w) A (.builtin "list.extend.loop" ⟨[.ref L, .ref s.heap.objs.size, res], []⟩) R { s with heap := h, toks := tk } := fun h c1 tk isit same isl1 => by
    refine codeAny_extend_loopS walk (by rw [sizeLine_eq]; omega) L notin res n 0 _ #[] c1 rfl (Nat.zero_le _) isit isl1 (ItemsOf.nil _) fun s2 its c2 mv isl2 got => ?_
    rw [Moved.eq_with mv]
    refine go s2.heap s2.toks its c2 (fun b o nb x => mv.heap b o (fun m => ?_) (same b o nb x)) isl2 got
    rcases List.mem_cons.mp m with x2 | m
    · exact nb x2
    · exact absurd (Heap.lt_size x) (by rw [List.mem_singleton.mp m]; exact Nat.lt_irrefl _)
  unfold Builtin.List.listExtendWith
  refine wpAny_bind (wpAny_typeOf (T := "range") ⟨_, isr, rfl⟩ ?_)
  have q1 : Builtin.List.listSameRef (.ref L) (.ref r) = false := by simp [Builtin.List.listSameRef, ne1]
  have q2 : (Value.type "range" == Value.type "list") = false := by decide
  have q3 : (Value.type "range" == Value.type "tuple") = false := by decide
  simp only [q1, q2, q3, Bool.or_false, Bool.false_eq_true, if_false]
  refine wpAny_bind (wpAny_pyIter_longrange isr big ?_)
  refine wpAny_bind (wpAny_holding (wpAny_hint_range (n := n) (Heap.get?_push_of_some _ isr) size few ?_))
  have it1 : IsLongIter (s.heap.push { cls := .type "longrange_iterator", data := .fields #[rawInt lo, rawInt (Builtin.Range.rangeSize lo hi st), rawInt st] }) s.heap.objs.size (lo + ((0 : Nat) : Int) * st) ((n : Int) - ((0 : Nat) : Int)) st := by
    show IsLongIter _ _ _ _ _
    rw [size]
    simpa using Heap.get?_push_size _ rfl
  have l1 := Heap.get?_push_of_some { cls := .type "longrange_iterator", data := .fields #[rawInt lo, rawInt (Builtin.Range.rangeSize lo hi st), rawInt st] } isl
  refine wpAny_ite_split (fun _ => ?_) (fun _ => wpAny_pure ⟨plainId_quiet F.plain_extend_loop _, turn _ c0 _ it1 (fun b o _ x => Heap.get?_push_of_some _ x) l1⟩)
  refine wpAny_bind (wpAny_rule ?_)
  refine wpAny_bind ?_
  show wpAny _ _ (updateSeq L (·.push .none) >>= fun _ => updateSeq L (·.pop)) _ _ _
  refine wpAny_bind (wpAny_updateSeq l1 rfl ?_)
  have l2 := Heap.get?_update_self (Obj.mapSeq (·.push Value.none)) l1 rfl
  refine wpAny_updateSeq (hz := by seq_fits) l2 rfl ?_
  have l3 := Heap.get?_update_self (Obj.mapSeq (·.pop)) l2 rfl
  refine wpAny_pure ⟨plainId_quiet F.plain_extend_loop _, turn _ _ _ ?_ (fun b o nb x => ?_) l3⟩
  · exact (Heap.get?_update_other _ _ ne2).trans ((Heap.get?_update_other _ _ ne2).trans it1)
  · exact (Heap.get?_update_other _ _ (Ne.symm nb)).trans ((Heap.get?_update_other _ _ (Ne.symm nb)).trans (Heap.get?_push_of_some _ x))
theorem init_long {R : Result → Shared → Prop} {r : Addr} {lo hi st : Int} {t u v : Tok} {n : Nat} (calm : A.handled = none) (isr : IsRange s.heap r lo hi st t u v) (big : Builtin.Range.small lo hi st = false)
    (size : Builtin.Range.rangeSize lo hi st = n) (few : n ≤ 2 ^ 24) (L : Addr) (isl : s.heap.get? L = some { cls := .type "list", data := .seq #[] })
    (go : ∀ h2 tk2 its c2, (∀ b o, b ≠ L → s.heap.get? b = some o → h2.get? b = some o) → h2.get? L = some { cls := .type "list", dict := none, data := .seq its c2, slots := #[] } →
      ItemsOf (fun i v => ∃ t, v = .int (lo + i * st) t) its n → R (.ok (.ret .none)) { s with heap := h2, toks := tk2 }) :
    wpAny (model prog w) A.in1 (Builtin.«list.__init__» ⟨[.ref L, .ref r], []⟩)
      (fun z s2 => match z with | .done f => R (.ok f) s2 | .again c => c.quiet = true ∧ codeAny (model prog w) A c R s2) (fun x s2 => R (.error x) s2) s := by
  have ne1 : L ≠ r := fun x => by
    rw [x, isr] at isl
    simp at isl
  show wpAny _ _ (do let old ← Builtin.List.listItems (.ref L); Builtin.List.listUpdate (.ref L) (fun _ => #[]); letGo old.toList.reverse; Builtin.List.listExtendWith (.ref L) (.ref r) .none) _ _ s
  refine wpAny_bind ?_
  unfold Builtin.List.listItems
  refine wpAny_bind (wpAny_seqItems isl rfl (wpAny_pure ?_))
  show wpAny _ _ (updateSeq L (fun _ => #[]) >>= fun _ => letGo (#[] : Array Value).toList.reverse >>= fun _ => Builtin.List.listExtendWith (.ref L) (.ref r) .none) _ _ s
  refine wpAny_bind (wpAny_updateSeq isl rfl ?_)
  have l2 := Heap.get?_update_self (Obj.mapSeq (fun _ => (#[] : Array Value))) isl rfl
  have oth : ∀ b o, b ≠ L → s.heap.get? b = some o → (s.heap.update L (Obj.mapSeq (fun _ => (#[] : Array Value)))).get? b = some o :=
    fun b o nb x => (Heap.get?_update_other _ _ (Ne.symm nb)).trans x
  refine wpAny_bind (wpAny_letGo ?_)
  refine ext_long calm (oth r _ (Ne.symm ne1) isr) big size few L .none _ l2 fun h2 tk2 its c2 same isl2 got => ?_
  exact go h2 tk2 its c2 (fun b o nb x => same b o nb (oth b o nb x)) isl2 got
theorem list_long {Q : Value → Shared → Prop} {r : Addr} {lo hi st : Int} {t u v : Tok} {n : Nat} (calm : A.handled = none) (isr : IsRange s.heap r lo hi st t u v) (big : Builtin.Range.small lo hi st = false)
    (size : Builtin.Range.rangeSize lo hi st = n) (few : n ≤ 2 ^ 24)
    (go : ∀ h2 tk2 its c2, (∀ b o, s.heap.get? b = some o → h2.get? b = some o) →
      h2.get? s.heap.objs.size = some { cls := .type "list", dict := none, data := .seq its c2, slots := #[] } → ItemsOf (fun i v => ∃ t, v = .int (lo + i * st) t) its n → Q (.ref s.heap.objs.size) { s with heap := h2, toks := tk2 }) :
    wpAny (model prog w) A (call (.type "list") [.ref r]) Q E s := by
  refine callType_codes (Q₁ := fun ob s1 => ob = .ref s.heap.objs.size ∧ s1 = { s with heap := s.heap.push { cls := .type "list", data := .seq #[] } }) F.called_list (F.typeCall_list_1 _) F.entry_list_init
    (code_list_new _ ⟨rfl, rfl⟩) fun ob s1 x => ?_
  obtain ⟨rfl, rfl⟩ := x
  have isl : (s.heap.push { cls := .type "list", data := .seq #[] }).get? s.heap.objs.size = some { cls := .type "list", data := .seq #[] } := Heap.get?_push_size _ rfl
  refine ⟨⟨_, isl, rfl⟩, F.args_list_init_2 _ _, init_long (A := A.in1) calm (Heap.get?_push_of_some _ isr) big size few _ isl fun h2 tk2 its c2 same isl2 got => ?_⟩
  exact ⟨rfl, go h2 tk2 its c2 (fun b o x => same b o (Nat.ne_of_lt (Heap.lt_size x)) (Heap.get?_push_of_some _ x)) isl2 got⟩
end
section
variable {X : Cx} {e : Expr} {te : L2.St → Hp → (Int → Int → Hp → Prop) → Prop}
/-- list(range(..)) of any bounds, of few items -/
def tLstAny (te : L2.St → Hp → (Int → Int → Hp → Prop) → Prop) : TE := fun σ H Q => te σ H fun a b H1 => (b - a).toNat ≤ 2 ^ 24 ∧ ∀ q, H1 q = none → Q (.ref q) (upd H1 q (.lst (rgV a b)))
theorem pe_listAny {p pos : Pos} (hc : X.calm = true) (hg : Gl X "list") (hm : X.mg "list" = none) (he : PRg X e te) (na : starEach [e] X.env = (false, eval e X.env) :: starEach [] X.env := by rfl) : PE X (.Call (.Name "list" p) [e] [] pos) (tLstAny te) := by
  refine ⟨fun pins s σ H Q I h => ?_⟩
  refine Call_ (ld_blt I hg hm boot_list (PyProof.Rows.callWith_type1 (args_cons (thn (he pins s σ H _ I h) fun x s1 ⟨r, a, b, t, u, v, H1, ex, hr, I1, few, q⟩ => args_nil ?_) na) na))
  subst ex
  have fin : ∀ (h2 : Heap) (tk2 : Nat) (its : Array Value) (c2 : Nat), (∀ b o, s1.heap.get? b = some o → h2.get? b = some o) → h2.get? s1.heap.objs.size = some { cls := .type "list", dict := none, data := .seq its c2, slots := #[] } →
      ItemsOf (fun i v => ∃ t, v = .int (a + i * 1) t) its (b - a).toNat → ∃ x H', Inv X pins σ H' { s1 with heap := h2, toks := tk2 } ∧ RelV x (.ref s1.heap.objs.size) ∧ Q x H' := fun h2 tk2 its c2 same isl got =>
    ⟨.ref s1.heap.objs.size, upd H1 s1.heap.objs.size (.lst (rgV a b)), I1.laid same (Nat.le_refl _) (show ObjOk X.prog X.w _ _ _ (.lst (rgV a b)) from ⟨by rw [rgV_length, sizeLine_eq]; omega, its.toList, c2, vals_rg got, by rw [Array.toArray_toList]; exact isl⟩), rfl, q _ (I1.hok.fresh (Nat.le_refl _))⟩
  cases sm : Builtin.Range.small a b 1 with
  | true => exact call_list_range (n := (b - a).toNat) (I1.ok.hd hc) hr sm (rangeSize_nat a b) few fin
  | false => exact list_long (n := (b - a).toNat) (I1.ok.hd hc) hr sm (rangeSize_nat a b) few fin
end
end Dx

namespace Dx
open PySem PySem.Spec PyProof.Rows L2
section
variable {X : Cx} {k : Kn} {W : WX} {a b : Expr} {p pos : Pos}
def mListB2 (m n : M PyData) : M (List PyData) := mbind m fun d => mbind n fun e => match d, e with
  | .int i, .int j => if (j - i).toNat ≤ 2 ^ 24 then mpure (upL i (j - i).toNat) else mno
  | _, _ => mno
theorem oListB2 {m n : M PyData} {p2 pos2 : Pos} (hc : X.calm = true) (hg : Gl X "list") (hm : X.mg "list" = none) (hg2 : Gl X "range") (hm2 : X.mg "range" = none) (ha : PE X a (rD k W m)) (hb : PE X b (rD k W n)) (na : starEach [a, b] X.env = (false, eval a X.env) :: starEach [b] X.env := by rfl)
    (na2 : starEach [b] X.env = (false, eval b X.env) :: starEach [] X.env := by rfl) (npl : (backTo pos2 (starEach [b] X.env)).any (·.1) = false := by rfl)
    (nb : starEach [.Call (.Name "range" p2) [a, b] [] pos2] X.env = (false, eval (.Call (.Name "range" p2) [a, b] [] pos2) X.env) :: starEach [] X.env := by rfl) : PE X (.Call (.Name "list" p) [.Call (.Name "range" p2) [a, b] [] pos2] [] pos) (rO k W (mListB2 m n)) :=
  pe_imp (pe_listAny hc hg hm (prg_2 hg2 hm2 ha hb na na2 npl) nb) fun σ H Q q => by
    obtain ⟨c, F, r, s, q⟩ := q
    refine ⟨c, F, r, s, (Run.bind q).imp fun d r1 F1 H1 e1 _ ⟨s1, _, q1⟩ y dy => ?_⟩
    refine ⟨c, F1, r1, s1, (Run.bind q1).imp fun e r2 F2 H2 e2 _ ⟨s2, _, q2⟩ z dz => ?_⟩
    have key : ∀ i j, d = .int i → e = .int j → (j - i).toNat ≤ 2 ^ 24 ∧ Run k c W σ F2 ((mpure (upL i (j - i).toNat) : M (List PyData)) r2) (fun ds r' F' H' => ∀ a vs, Fresh k c F' H' r' σ a vs ds → Q (.ref a) H') := fun i j h1 h2 => by
      subst h1 h2
      have q3 : Run k c W σ F2 ((if (j - i).toNat ≤ 2 ^ 24 then mpure (upL i (j - i).toNat) else mno : M (List PyData)) r2) (fun ds r' F' H' => ∀ a vs, Fresh k c F' H' r' σ a vs ds → Q (.ref a) H') := q2
      by_cases hj : (j - i).toNat ≤ 2 ^ 24
      · rw [if_pos hj] at q3
        exact ⟨hj, q3⟩
      · rw [if_neg hj] at q3
        exact q3.elim
    cases d with
    | int i =>
      cases e with
      | int j =>
        obtain ⟨hj, q3⟩ := key i j rfl rfl
        refine ⟨i, j, dp_int dy, dp_int dz, hj, fun l nl => ?_⟩
        exact q3 F2 _ (Same.refl F2) (s2.fresh nl) l _ (s2.freshL nl (upL_rgV _ i))
      | none => exact q2.elim
      | str _ => exact q2.elim
      | list _ => exact q2.elim
      | tuple _ => exact q2.elim
      | bool _ => exact q2.elim
      | dict _ => exact q2.elim
    | none => exact q2.elim
    | str _ => exact q2.elim
    | list _ => exact q2.elim
    | tuple _ => exact q2.elim
    | bool _ => exact q2.elim
    | dict _ => exact q2.elim
end
end Dx

namespace Dx
open PySem PySem.Spec PyProof.Rows L2
/-! ### a list of two new lists is shown, then one of the two is changed: nothing else knew them -/
def Owned (r : Ev) (σ : List (Option V)) (b : Addr) : Prop := ∃ (j : Nat) (x : Cell) (y : Option V), r[j]? = some x ∧ σ[j]? = some y ∧ Own x y b
open Classical in
noncomputable def restG (H : Hp) (r : Ev) (σ : List (Option V)) : Hp := fun b => if Owned r σ b then none else H b
section
variable {k : Kn} {c : Cn} {F H : Hp} {r : Ev} {σ : List (Option V)}
theorem restG_own {b : Addr} (h : Owned r σ b) : restG H r σ b = none := if_pos h
theorem restG_not {b : Addr} (h : ¬ Owned r σ b) : restG H r σ b = H b := if_neg h
theorem Sta.lock (s : Sta k c F H r σ) : Sta k ⟨restG H r σ, F, c.A⟩ F H r σ where
  len := s.len
  fh := s.fh
  gh := fun b z e => by
    have e' : restG H r σ b = some z := e
    by_cases w : Owned r σ b
    · rw [restG_own w] at e'
      cases e'
    · rw [restG_not w] at e'
      exact e'
  f0 := Same.refl F
  fg := fun b z e _ => by
    show F b ≠ none
    rw [e]
    simp
  cell := fun j x y e1 e2 => by
    have o := s.cell j x y e1 e2
    cases x with
    | u => trivial
    | p _ => exact o
    | v d => exact o
    | o ds =>
      obtain ⟨b, us, q, f1, g1, z, t⟩ := o
      exact ⟨b, us, q, f1, restG_own ⟨j, _, _, e1, e2, q⟩, z, t⟩
    | io l ds =>
      obtain ⟨b, us, q, p, f1, g1, z, t⟩ := o
      exact ⟨b, us, q, p, f1, restG_own ⟨j, _, _, e1, e2, q⟩, z, t⟩
  dis := s.dis
def flatC : Cell → Bool
  | .o ds => ds.all flatD
  | .io _ ds => ds.all flatD
  | _ => true
theorem dp_flat {K : PySem.W.Frag} {F F' : Hp} {v : V} {d : PyData} (h : Dp K F v d) (f : flatD d = true) : Dp K F' v d := by
  cases h with
  | non => exact Dp.non
  | bl b => exact Dp.bl b
  | int i => exact Dp.int i
  | str x => exact Dp.str x
  | lst _ _ => cases f
  | tup _ _ => cases f
theorem dpAll_flat {K : PySem.W.Frag} {F F' : Hp} : ∀ {vs : List V} {ds : List PyData}, DpAll K F vs ds → ds.all flatD = true → DpAll K F' vs ds
  | _, _, .nil, _ => .nil
  | _, _, .cons h t, f => by
    rw [List.all_cons, Bool.and_eq_true] at f
    exact .cons (dp_flat h f.1) (dpAll_flat t f.2)
/-- back to the data of before: what is owned is flat, and nothing else has changed -/
theorem Sta.past {c' : Cn} {F' H' : Hp} {r' : Ev} (s : Sta k c F H r σ) (s' : Sta k c' F' H' r' σ) (keep : ∀ b z, H b = some z → ¬ Owned r σ b → H' b = some z) (cells : ∀ (j : Nat) (x : Cell) (y : Option V) (b : Addr), r[j]? = some x → σ[j]? = some y → Own x y b → r'[j]? = some x)
    (flat : r.all flatC = true) : Sta k c F H' r σ where
  len := s.len
  fh := fun b z e => keep b z (s.fh b z e) fun ⟨j, x, y, e1, e2, w⟩ => by
    rw [((s.cell j x y e1 e2).own w).1] at e
    cases e
  gh := fun b z e => keep b z (s.gh b z e) fun ⟨j, x, y, e1, e2, w⟩ => by
    rw [((s.cell j x y e1 e2).own w).2.1] at e
    cases e
  f0 := s.f0
  fg := s.fg
  cell := fun j x y e1 e2 => by
    have o := s.cell j x y e1 e2
    have fl : flatC x = true := List.all_eq_true.1 flat x (List.mem_of_getElem? e1)
    cases x with
    | u => trivial
    | p _ => exact o
    | v d => exact o
    | o ds =>
      obtain ⟨b, us, q, f1, g1, z, t⟩ := o
      have e3 := cells j _ y b e1 e2 q
      obtain ⟨b2, us2, q2, _, _, z2, t2⟩ := s'.cell j _ y e3 e2
      rw [q] at q2
      cases q2
      exact ⟨b, us2, q, f1, g1, z2, dpAll_flat t2 fl⟩
    | io l ds =>
      obtain ⟨b, us, q, p, f1, g1, z, t⟩ := o
      have e3 := cells j _ y b e1 e2 q
      obtain ⟨b2, us2, q2, _, _, _, z2, t2⟩ := s'.cell j _ y e3 e2
      rw [q] at q2
      cases q2
      exact ⟨b, us2, q, p, f1, g1, z2, dpAll_flat t2 fl⟩
  dis := s.dis
/-- something that nobody knows is changed -/
theorem Sta.touch (s : Sta k c F H r σ) {b : Addr} {o : HO} (f : F b = none) (g : c.G b = none) (w : ¬ Owned r σ b) : Sta k c F (upd H b o) r σ where
  len := s.len
  fh := fun a z e => by
    rw [upd_ne (ne_of_none e f)]
    exact s.fh a z e
  gh := fun a z e => by
    rw [upd_ne (ne_of_none e g)]
    exact s.gh a z e
  f0 := s.f0
  fg := s.fg
  cell := fun i x y e1 e2 => (s.cell i x y e1 e2).stay (Same.refl F) (fun a vs w2 e => by
    have n : a ≠ b := fun q => w ⟨i, x, y, e1, e2, q ▸ w2⟩
    rw [upd_ne n]
    exact e) fun a w2 => ((s.cell i x y e1 e2).own w2).1
  dis := s.dis
end
def flatR (r : Ev) : Bool := r.all flatC
open Classical in
/-- told = [new, new]; if told is not right: return ..; told[0].append(None); the rest knows nothing of told -/
noncomputable def sTold (i : Nat) (mA mB : M (List PyData)) (t : M Bool) (n : S) : S := sBind mA fun as => sBind mB fun bs => fun r =>
  if i < r.length ∧ flatR (r.set i .u) = true ∧ as.length < sizeLine ∧ t (r.set i (.v (.list [.list as, .list bs]))) = .ok false (r.set i (.v (.list [.list as, .list bs]))) then n (r.set i .u) else .no
section
variable {X : Cx} {k : Kn} {W : WX} {eA eB cnd ix e oe : Expr} {as rest : List Stmt} {p1 p2 p3 p4 p5 p6 : Pos}
theorem sTold_ok {i : Nat} {x : Str} {mA mB : M (List PyData)} {t : M Bool} {m n : S} {apos cpos spos : Pos} (hN : X.N.Nodup) (hi : X.N[i]? = some x) (hx : Loc X.env.scope x) (hA : PE X eA (rO k W mA)) (hB : PE X eB (rO k W mB)) (ht : PT X cnd (rT k W t)) (hm : PSs X as (rS k W m))
    (ho : PE X oe (tVar i)) (hix : PE X ix (rD k W (mpure (.int 0)))) (he : PE X e (rD k W (mpure .none))) (hrest : PSs X rest (rS k W n)) (hK : X.K = k.K := by rfl)
    (nA : starEach [eA, eB] X.env = (false, eval eA X.env) :: starEach [eB] X.env := by rfl) (nB : starEach [eB] X.env = (false, eval eB X.env) :: starEach [] X.env := by rfl)
    (hs1 : swapsWith (.List [eA, eB] p2) (some (.Name x p1)) p3.line X.env = pure false := by rfl) (hf : X.fn x = true ∨ X.env.scope.names.lookup x = some .local := by first | exact .inl rfl | exact .inr rfl | assumption)
    (hpix : PlainIx ix := by exact fun _ _ => rfl)
    (hbase : attributeBase (.Subscript oe ix spos) "append" X.env (eval (.Subscript oe ix spos) X.env) = eval (.Subscript oe ix spos) X.env := by rfl)
    (hfew : ((backTo cpos (starEach [e] X.env)).all (fun x => !x.1) && (backToKw cpos (keywordEach [] X.env)).all (fun x => x.1.isSome) && decide ([e].length + ([] : List Keyword).length + (if ([] : List Keyword).isEmpty then 0 else 1) < 30)) = true := by rfl)
    (hline : (apos.endLine == cpos.line) = true := by rfl) (hs : starEach [e] X.env = (false, eval e X.env) :: starEach [] X.env := by rfl) (hplain : (backTo cpos (starEach [] X.env)).any (·.1) = false := by rfl)
    (hsw : swapsWith (.Call (.Attribute (.Subscript oe ix spos) "append" apos) [e] [] cpos) none p6.line X.env = pure false := by rfl) :
    PSs X (.Assign [.Name x p1] (.List [eA, eB] p2) p3 :: .If cnd as [] p4 :: .Expr (.Call (.Attribute (.Subscript oe ix spos) "append" apos) [e] [] cpos) p6 :: rest) (rS k W (sTold i mA mB t n)) := by
  refine pss_imp (pss_cons (ps_set hN hi hx (pe_lst (pa_cons hA (pa_cons hB pa_nil nB) nA)) hs1 hf) (pss_cons (ps_if ht hm pss_nil) (pss_cons (ps_expr (pe_bm PySem.F.plainAttrs_list PySem.F.slot_list_append PySem.F.type_list_append mt_append (pe_ix (hK ▸ ix_list) ho hix hpix) (pa_cons he pa_nil hs) hbase hfew hline hs hplain) hsw) hrest))) fun D σ H q => ?_
  obtain ⟨c, F, r, s, q⟩ := q
  refine ⟨c, F, r, s, (SRun.bind q).imp fun ds r1 F1 H1 e1 _ ⟨s1, _, q1⟩ a1 vs1 f1 => ?_⟩
  refine ⟨_, F1, r1, s1.hold f1, (Run.under s1 f1 (Same.refl F1) (SRun.bind q1)).imp fun es r2 F2 H2 e2 sh ⟨s2, f2, _, _, q2⟩ a2 vs2 g2 => ?_⟩
  refine ⟨by show 2 ≤ sizeLine; decide, fun p np => ?_⟩
  by_cases hc : i < r2.length ∧ flatR (r2.set i .u) = true ∧ ds.length < sizeLine ∧ t (r2.set i (.v (.list [.list ds, .list es]))) = .ok false (r2.set i (.v (.list [.list ds, .list es])))
  case neg =>
    rw [if_neg hc] at q2
    exact q2.elim
  rw [if_pos hc] at q2
  obtain ⟨hl, hfl, hsz, hte⟩ := hc
  have n12 : a2 ≠ a1 := fun w => by
    have z : upd c.G a1 (HO.lst vs1) a2 = none := g2.2.1
    rw [w, upd_same] at z
    cases z
  have gG : c.G a2 = none := by
    have z : upd c.G a1 (HO.lst vs1) a2 = none := g2.2.1
    rw [upd_ne n12] at z
    exact z
  have m1 : Same F2 (upd F2 a1 (.lst vs1)) := same_new f2.1
  have g3 : Fresh k c (upd F2 a1 (.lst vs1)) H2 r2 σ a2 vs2 es := ⟨by rw [upd_ne n12]; exact g2.1, gG, g2.2.2.1, DpAll.up m1 _ _ g2.2.2.2.1, g2.2.2.2.2⟩
  have sA := (s2.adopt f2).adopt g3
  have sB := sA.alloc (o := .lst [.ref a1, .ref a2]) np
  have np1 : p ≠ a1 := fun w => by
    rw [w, f2.2.2.1] at np
    cases np
  have np2 : p ≠ a2 := fun w => by
    rw [w, g2.2.2.1] at np
    cases np
  have b1 : (upd (upd (upd F2 a1 (.lst vs1)) a2 (.lst vs2)) p (.lst [.ref a1, .ref a2])) a1 = some (.lst vs1) := by
    rw [upd_ne (Ne.symm np1), upd_ne (Ne.symm n12), upd_same]
  have b2 : (upd (upd (upd F2 a1 (.lst vs1)) a2 (.lst vs2)) p (.lst [.ref a1, .ref a2])) a2 = some (.lst vs2) := by
    rw [upd_ne (Ne.symm np2), upd_same]
  have m4 : Same F2 (upd (upd (upd F2 a1 (.lst vs1)) a2 (.lst vs2)) p (.lst [.ref a1, .ref a2])) := m1.trans ((same_new g3.1).trans (same_new (sA.nF np)))
  have dv : Dp k.K (upd (upd (upd F2 a1 (.lst vs1)) a2 (.lst vs2)) p (.lst [.ref a1, .ref a2])) (.ref p) (.list [.list ds, .list es]) :=
    Dp.lst (SqL.of upd_same) (DpAll.cons (Dp.lst (SqL.of b1) (DpAll.up m4 _ _ f2.2.2.2.1)) (DpAll.one (Dp.lst (SqL.of b2) (DpAll.up m4 _ _ g2.2.2.2.1))))
  have s4 := sB.put hl dv
  have s3f := (s2.fresh (o := .lst [.ref a1, .ref a2]) np).forget (i := i) (y := some (.ref p))
  have own : ∀ b, Owned (r2.set i (.v (.list [.list ds, .list es]))) (σ.set i (some (.ref p))) b → Owned (r2.set i .u) (σ.set i (some (.ref p))) b ∧ Owned r2 σ b := fun b ⟨j, x, y, o1, o2, w⟩ => by
    by_cases z : i = j
    · subst z
      rw [List.getElem?_set_self hl] at o1
      cases o1
      exact w.elim
    · rw [List.getElem?_set_ne z] at o1
      exact ⟨⟨j, x, y, by rw [List.getElem?_set_ne z]; exact o1, o2, w⟩, ⟨j, x, y, o1, by rw [List.getElem?_set_ne z] at o2; exact o2, w⟩⟩
  have own2 : ∀ b, Owned (r2.set i .u) (σ.set i (some (.ref p))) b → Owned r2 σ b := fun b ⟨j, x, y, o1, o2, w⟩ => by
    by_cases z : i = j
    · subst z
      rw [List.getElem?_set_self hl] at o1
      cases o1
      exact w.elim
    · rw [List.getElem?_set_ne z] at o1 o2
      exact ⟨j, x, y, o1, o2, w⟩
  have hy : (σ.set i (some (.ref p)))[i]? = some (some (V.ref p)) := List.getElem?_set_self (by rw [← s2.len]; exact hl)
  refine ⟨_, _, _, s4.lock, ?_⟩
  rw [hte]
  intro F5 H5 e5 s5
  show tNext _ _ _
  refine ⟨.ref p, hy, _, F5, _, s5, fun F6 H6 e6 s6 z dz => ?_⟩
  have u6 : ∀ b o, (upd (upd (upd F2 a1 (.lst vs1)) a2 (.lst vs2)) p (.lst [.ref a1, .ref a2])) b = some o → H6 b = some o := fun b o w => s6.fh b o (e6 b o (e5 b o w))
  refine ⟨p, [.ref a1, .ref a2], 0, .ref a1, rfl, dp_int dz, SqL.of (u6 p _ upd_same), rfl, ?_⟩
  refine ⟨.inl ⟨rfl, vs1, SqL.of (u6 a1 _ b1)⟩, _, F6, _, s6, fun F7 H7 e7 s7 y dy => ?_⟩
  have u7 : ∀ b o, (upd (upd (upd F2 a1 (.lst vs1)) a2 (.lst vs2)) p (.lst [.ref a1, .ref a2])) b = some o → H7 b = some o := fun b o w => s7.fh b o (e7 b o (e6 b o (e5 b o w)))
  refine ⟨a1, vs1, y, rfl, rfl, u7 a1 _ b1, by rw [DpAll.len f2.2.2.2.1]; exact hsz, ?_⟩
  have nown : ¬ Owned r2 σ a1 := fun ⟨j, x, y, o1, o2, w⟩ => f2.2.2.2.2 j x y o1 o2 w
  have sP := s3f.past s7 (fun b o w no => s7.gh b o (by
    show restG _ _ _ b = some o
    rw [restG_not fun w2 => no (own b w2).1]
    exact w)) (fun j x y b o1 o2 w => by
      by_cases z : i = j
      · subst z
        rw [List.getElem?_set_self hl] at o1
        cases o1
        exact w.elim
      · rw [List.getElem?_set_ne z] at o1 ⊢
        exact o1) hfl
  exact ⟨c, F2, _, sP.touch f2.1 f2.2.1 fun w => nown (own2 _ w), q2⟩
end
end Dx

namespace Dx
open PySem PySem.Spec PyProof.Rows L2
section
variable {X : Cx} {k : Kn} {W : WX} {e a b d : Expr} {A B : Type} {pos p : Pos} {es : List Expr} {x : Str} {kws : List Keyword} {st : Stmt} {ps : List Str} {lv : Nat} {f : List Cell → SR}
def mCallKO (n j : Nat) (is : List Nat) (f : List Cell → SR) (m : M (List Arg)) (mk : M (List PyData)) (l : Nat) : M (List PyData) := mbind m fun as => mbind mk fun ds => if as.length = j ∧ ds.length = l then callO n f (pick is as (ds.map Arg.d)) else mno
/-- f(a = .., ..) that returns a list of one's own -/
theorem oCallK0 {mk : M (List PyData)} {ks : List Str} {is : List Nat} (D : Def X.prog X.w X.K X.mg X.base k x st ps lv f)
    (h : ∀ (kV doc pm : Value) (an : Option Addr) (cdv ct : Value) (us ws : List Value), us.length = 0 → ws.length = ks.length → bindArgs (PySem.W.fnOf x x (defArgs st) (defBody st) (defScope st) .none kV doc pm an cdv ct) ⟨us, ks.zip ws⟩ = pure (ps.zip (pick is us ws)))
    (hr : Room lv X.A) (hgd : X.A.guards = some []) (hg : Gl X x) (tk : Takes X W) (hkw : PK X kws (rL k W mk)) (hall : (backToKw pos (keywordEach kws X.env)).all (·.1.isSome) = true := by rfl) (hks : (backToKw pos (keywordEach kws X.env)).filterMap (·.1) = ks := by rfl)
    (hdb : (x == ("__debug__" : Str)) = false := by decide) (hpl : ((backTo pos (starEach [] X.env)).any (·.1) || (backToKw pos (keywordEach kws X.env)).any (·.1.isNone)) = false := by rfl) : PE X (.Call (.Name x p) [] kws pos) (rO k W (mCallKO ps.length 0 is f (mpure []) mk ks.length)) := by
  obtain ⟨fa, fd, hm, fu, F⟩ := D.ex
  refine pe_imp (pe_gk0 (E := WE W) F hr hgd hg hm fu.kp (kwb_of fu h) (passAt tk) hkw hall hks hdb hpl) fun σ H Q q => ?_
  obtain ⟨c, F, r, s, q⟩ := q
  have q0 := (Run.bind q) F H (Same.refl F) s
  obtain ⟨s1, _, q1⟩ := q0
  refine ⟨c, F, r, s1, (Run.bind q1).imp fun ds r2 F2 H2 e2 _ ⟨s2, _, q2⟩ zs dz => ?_⟩
  by_cases hl : ([] : List Arg).length = 0 ∧ ds.length = ks.length
  · rw [if_pos hl] at q2
    exact ⟨rfl, (DpAll.len dz).trans hl.2, callO_sp s2 (pick_rel .nil (args_data dz) is) q2⟩
  · rw [if_neg hl] at q2
    exact q2.elim
end
end Dx

namespace Dx
open PySem PySem.Spec PyProof.Rows L2
section
variable {X : Cx} {k : Kn} {W : WX} {pos : Pos} {body : List Stmt} {h0 : ExceptHandler} {hs : List ExceptHandler}
/-- try: .. except ..: where no error comes -/
def sTry (m : S) : S := fun r => match m r with
  | .ex _ _ => .no
  | q => q
theorem sTryD {m : S} (hb : PSs X.nox body (rS k W0 m)) : PS X (.Try body (h0 :: hs) [] [] pos) (rS k W (sTry m)) := ps_imp (ps_try_thru0 hb) fun D σ H q => by
  obtain ⟨c, F, r, s, q⟩ := q
  refine ⟨c, F, r, s, ?_⟩
  have q1 : SRun k c W F (match m r with
    | .ex _ _ => .no
    | q => q) D := q
  cases hm : m r with
  | nx r1 =>
    rw [hm] at q1
    exact q1
  | rt d r1 =>
    rw [hm] at q1
    exact q1
  | ro ds r1 =>
    rw [hm] at q1
    exact q1
  | bk r1 =>
    rw [hm] at q1
    exact q1
  | ct r1 =>
    rw [hm] at q1
    exact q1
  | ex x r1 =>
    rw [hm] at q1
    exact q1.elim
  | no =>
    rw [hm] at q1
    exact q1.elim
end
end Dx

/-! defs with defaults: called with the last parameters left out -/
namespace Dx
open PySem PySem.Spec PyProof.Rows L2
section
variable {P : Program} {w : World} {K : PySem.W.Frag} {mg : Str → Option Value} {base : Heap} {f : Addr} {fd : FuncData} {ps N : List Str} {sp : Sp} {lv : Nat} {x qual : Str} {st : Stmt} {dvs : List V} {kws : List (Str × V)}
/-- by its body -/
theorem fnG_ofD (D : FunD K x qual (defArgs st) (defBody st) (defScope st) dvs kws f fd) (S : FnScope N ps (defScope st)) (len : ∀ vs H Q E, sp vs H Q E → vs.length = ps.length)
    (body : ∀ (cdv : Value) (A : Around) (outer : List Env) (s : Shared) (H : Hp) (vs : List V) (Q : VK) (E : XK), Room lv (A.deeper (envOfC qual (defScope st) s.heap.objs.size f cdv)) → A.guards = some [] → sp vs H Q E →
      ∃ t, PSs (cxOf (L2.CX P w) P w K mg base N qual (defScope st) f cdv A outer s H E) (defBody st) t ∧ t { nx := fun _ H' => Q .non H', rt := Q } (start N vs) H) : FnG P w K mg base (lv + 1) f fd ps sp := by
  obtain ⟨oc, od, dV, kV, doc, pm, an, cdv, ct, osl, e, lk, hcd, _, _⟩ := D.ex
  subst e
  refine ⟨len, fun A outer s H args us vs Q E hr hgd e0 hb r hsp => ?_⟩
  have inK : K.In s.heap := e0.mod.kin.keeps fun b o e => (e0.bs b o e).1
  have nolim : s.heap.NoLimit := e0.mod.nolimit.keeps fun b o e => (e0.bs b o e).1
  have kinds : ∀ y ∈ ps.zip us, (defScope st).names.lookup y.1 = some .local ∨ ((defScope st).names.lookup y.1 = some .cell ∧ ((cellsFrom (s.heap.objs.size + 1) (defScope st).names []).lookup y.1).isSome = true) := fun y hy => by
    have hm : y.1 ∈ ps := by
      obtain ⟨n, v⟩ := y
      exact (List.of_mem_zip hy).1
    rcases S.par y.1 hm with q | q
    · exact .inl q
    · exact .inr ⟨q, PySem.W.cellsFrom_some _ _ _ (.inl q)⟩
  refine codeAny_call_function hr.depth (inK _ _ lk) rfl S.co S.gen rfl (PySem.W.codeRec_of inK hcd) (hb _ _ _ _ ?_)
  refine wpAny_newFunctionEnv_cells S.kind kinds fun env he s1 ic => ?_
  subst he
  obtain ⟨t, ht, hq⟩ := body cdv A outer s H vs Q E (hr.deeper _) hgd hsp
  have I := inv_start (CX := L2.CX P w) (E := E) S hr.hd e0 (len _ _ _ _ hsp) r ic
  refine ⟨nolim.keeps ic.toInCall.keep, codeAny_func (wpAny_mono (ht.run [] s1 (start N vs) H _ I hq) (fun fl s' hs => ?_) fun e s' hs => hs)⟩
  cases fl with
  | ret u =>
    obtain ⟨v, σ', H', J, rv, q⟩ := hs
    exact ⟨v, H', J.os, J.bare, J.base, J.hok, rv, q⟩
  | next =>
    obtain ⟨σ', H', J, q⟩ := hs
    exact ⟨V.non, H', J.os, J.bare, J.base, J.hok, rfl, q⟩
  | brk =>
    obtain ⟨_, _, _, q⟩ := hs
    exact q.elim
  | cont =>
    obtain ⟨_, _, _, q⟩ := hs
    exact q.elim
end
section
variable {P : Program} {w : World} {mg : Str → Option Value} {base : Heap} {f : Addr} {fd : FuncData} {ps N : List Str} {lv n : Nat} {x qual : Str} {st : Stmt} {k : Kn} {body : S}
theorem okFD {dvs : List V} {kws : List (Str × V)} (D : FunD k.K x qual (defArgs st) (defBody st) (defScope st) dvs kws f fd) (S : FnScope N ps (defScope st)) (hn : N.length = ps.length + n)
    (hb : ∀ (cdv : Value) (A : Around) (outer : List Env) (s : Shared) (H : Hp) (E : XK), Room lv (A.deeper (envOfC qual (defScope st) s.heap.objs.size f cdv)) → A.guards = some [] →
      PSs (cxOf (L2.CX P w) P w k.K mg base N qual (defScope st) f cdv A outer s H E) (defBody st) (rS k (fun cls d _ H => E cls d H) body)) :
    FnG P w k.K mg base (lv + 1) f fd ps (spF k ps.length (runB n body)) := by
  refine fnG_ofD D S (fun vs H Q E h => ?_) fun cdv A outer s H vs Q E hr hgd h => ⟨_, hb cdv A outer s H E hr hgd, ?_⟩
  · obtain ⟨F, cs, hl, _⟩ := h
    exact hl
  · obtain ⟨F, cs, hl, s0, q⟩ := h
    have hlc : vs.length = cs.length := by
      have := s0.len
      rw [List.length_map] at this
      exact this.symm
    have hst : L2.start N vs = svs vs ++ List.replicate n none := by
      unfold L2.start
      rw [hn, hl, Nat.add_sub_cancel_left]
    rw [hst]
    refine ⟨_, F, _, s0.pad n, ?_⟩
    unfold runB at q
    revert q
    cases body (cs ++ List.replicate n .u) with
    | nx r =>
      intro q F' H' σ e s'
      cases ho : outC cs r with
      | none =>
        have q2 : FRun k (cOf F H cs vs) F vs (match outC cs r with
          | some l => .rt .none l
          | none => .no) Q E := q
        rw [ho] at q2
        exact q2.elim
      | some l =>
        have q2 : FRun k (cOf F H cs vs) F vs (match outC cs r with
          | some l => .rt .none l
          | none => .no) Q E := q
        rw [ho] at q2
        exact q2 F' H' _ e (s'.out hlc s0 ho).1 Dp.non
    | rt d r =>
      intro q F' H' σ y e s' dy
      cases ho : outC cs r with
      | none =>
        have q2 : FRun k (cOf F H cs vs) F vs (match outC cs r with
          | some l => .rt d l
          | none => .no) Q E := q
        rw [ho] at q2
        exact q2.elim
      | some l =>
        have q2 : FRun k (cOf F H cs vs) F vs (match outC cs r with
          | some l => .rt d l
          | none => .no) Q E := q
        rw [ho] at q2
        exact q2 F' H' y e (s'.out hlc s0 ho).1 dy
    | ro d r =>
      intro q F' H' σ a us e s' fr
      cases ho : outC cs r with
      | none =>
        have q2 : FRun k (cOf F H cs vs) F vs (match outC cs r with
          | some l => .ro d l
          | none => .no) Q E := q
        rw [ho] at q2
        exact q2.elim
      | some l =>
        have q2 : FRun k (cOf F H cs vs) F vs (match outC cs r with
          | some l => .ro d l
          | none => .no) Q E := q
        rw [ho] at q2
        exact q2 F' H' a us e (s'.out hlc s0 ho).1 (fr.out (s'.out hlc s0 ho).2)
    | ex z r =>
      intro q F' H' σ cls dd e s' xr
      cases ho : outC cs r with
      | none =>
        have q2 : FRun k (cOf F H cs vs) F vs (match outC cs r with
          | some l => .ex z l
          | none => .no) Q E := q
        rw [ho] at q2
        exact q2.elim
      | some l =>
        have q2 : FRun k (cOf F H cs vs) F vs (match outC cs r with
          | some l => .ex z l
          | none => .no) Q E := q
        rw [ho] at q2
        exact q2 F' H' cls dd e (s'.out hlc s0 ho).1 xr
    | bk r => exact fun q => q.elim
    | ct r => exact fun q => q.elim
    | no => exact fun q => q.elim
end
theorem fund_mk {K : PySem.W.Frag} {x qual : Str} {st : Stmt} {f T : Addr} {oc oc2 : Value} {od an od2 : Option Addr} {osl osl2 : Array (Option Value)} {kV doc pm cdv ct : Value} {its : List Value} {n : Nat} {dvs : List V}
    (l : K.lookup f = some ⟨oc, od, .func (PySem.W.fnOf x qual (defArgs st) (defBody st) (defScope st) (.ref T) kV doc pm an cdv ct), osl⟩)
    (d : K.lookup T = some ⟨oc2, od2, .seq its.toArray n, osl2⟩) (hd : dvs ≠ []) (hv : Vals dvs its)
    (c : PySem.W.codeIn K cdv qual = true) (k : PySem.W.keepIn K (.ref f) = true) : FunD K x qual (defArgs st) (defBody st) (defScope st) dvs [] f (PySem.W.fnOf x qual (defArgs st) (defBody st) (defScope st) (.ref T) kV doc pm an cdv ct) :=
  ⟨⟨oc, od, .ref T, kV, doc, pm, an, cdv, ct, osl, rfl, l, c, .inr ⟨hd, T, _, its, n, rfl, d, rfl, hv⟩, .inl rfl⟩, k⟩
/-- a def with defaults -/
structure DefD (P : Program) (w : World) (K : PySem.W.Frag) (mg : Str → Option Value) (base : Heap) (k : Kn) (x : Str) (st : Stmt) (ps : List Str) (dvs : List V) (lv : Nat) (f : List Cell → SR) : Prop where
  ex : ∃ (fa : Addr) (fd : FuncData), mg x = some (.ref fa) ∧ FunD K x x (defArgs st) (defBody st) (defScope st) dvs [] fa fd ∧ FnG P w K mg base lv fa fd ps (spF k ps.length f)
section
variable {X : Cx} {f : Addr} {fd : FuncData} {ps : List Str} {sp : Sp} {lv : Nat} {x : Str} {e : Expr} {es : List Expr} {t : TA} {p pos : Pos} {E : L2.St → XK} {dvs : List V} {ds : List Value}
theorem pe_gd (F : FnG X.prog X.w X.K X.mg X.base lv f fd ps sp) (hr : Room lv X.A) (hgd : X.A.guards = some []) (hg : Gl X x) (hm : X.mg x = some (.ref f)) (hk : PySem.W.keepIn X.K (.ref f) = true) (hb : Binds X.K fd ps ds) (hd : Vals dvs ds) (hx : ∀ σ, PassesAt (L2.CX X.prog X.w) X σ (E σ))
    (ha : PA X (e :: es) t) (hdb : (x == ("__debug__" : Str)) = false := by decide) (he : starEach (e :: es) X.env = (false, eval e X.env) :: starEach es X.env := by rfl) (hpl : (backTo pos (starEach es X.env)).any (·.1) = false := by rfl) :
    PE X (.Call (.Name x p) (e :: es) [] pos) (tCallSD sp dvs E t) := ⟨fun pins s σ H Q I h => by
  refine wpAny_Call_Name_kw (ld_glob I hg hm (PySem.W.callWith_K (h₀ := X.base) I.ok.mod.kin hk (thn (ha.run pos pins s σ H _ I h) fun us s1 hA => ?_) he hpl) hdb)
  obtain ⟨vs, H1, I1, r, q⟩ := hA
  refine ⟨I1.kIn, wpAny_call (codeAny_mono (goG (us := us ++ ds) (E := E) F hr hgd (fun hl => ?_) (hx σ) I1 (r.append hd) q) fun r s' z => ?_)⟩
  · exact hb s1 us I1.kIn hl
  · cases r with
    | error e => exact z
    | ok fl => cases fl <;> first | exact z | exact z.elim⟩
end
section
variable {X : Cx} {k : Kn} {W : WX} {e : Expr} {pos p : Pos} {es : List Expr} {x : Str} {st : Stmt} {ps : List Str} {lv : Nat} {f : List Cell → SR} {dvs : List V}
/-- the arguments, and the defaults behind them -/
def mDfl (m : M (List Arg)) (ds : List PyData) : M (List Arg) := mbind m fun as => mpure (as ++ ds.map Arg.d)
theorem dCallW {m : M (List Arg)} {ds : List PyData} (n j : Nat) (D : DefD X.prog X.w X.K X.mg X.base k x st ps dvs lv f)
    (h : ∀ (T : Addr) (kV doc pm : Value) (an : Option Addr) (cdv ct : Value) (us its : List Value), us.length = n → its.length = dvs.length →
      ∃ k', bindArgs (PySem.W.fnOf x x (defArgs st) (defBody st) (defScope st) (.ref T) kV doc pm an cdv ct) ⟨us, []⟩ = seqItems? (.ref T) >>= k' ∧ k' (some its.toArray) = pure (ps.zip (us ++ its.drop j)))
    (hd : dvs ≠ []) (hn : n + (dvs.length - j) = ps.length) (hds : ∀ (K : PySem.W.Frag) (F : Hp), DpAll K F (dvs.drop j) ds)
    (hr : Room lv X.A) (hgd : X.A.guards = some []) (hg : Gl X x) (tk : Takes X W) (ha : PA X (e :: es) (rA k W m)) (hdb : (x == ("__debug__" : Str)) = false := by decide)
    (he : starEach (e :: es) X.env = (false, eval e X.env) :: starEach es X.env := by rfl) (hpl : (backTo pos (starEach es X.env)).any (·.1) = false := by rfl) : PE X (.Call (.Name x p) (e :: es) [] pos) (rD k W (mCallD ps.length f (mDfl m ds))) := by
  obtain ⟨fa, fd, hm, fu, F⟩ := D.ex
  obtain ⟨vs, hv, hb⟩ := FunD.binds1 fu n j hd hn h
  refine pe_imp (pe_gd (E := WE W) F hr hgd hg hm fu.kp hb hv (passAt tk) ha hdb he hpl) fun σ H Q q => ?_
  obtain ⟨c, F, r, s, q⟩ := q
  have q' := Run.bind q
  refine ⟨c, F, r, s, ?_⟩
  have q2 : Run k c W σ F (mbind m (fun as => callD ps.length f (as ++ ds.map Arg.d)) r) fun d _ F' H' => ∀ y, Dp k.K F' y d → Q y H' := by
    have e0 : mCallD ps.length f (mDfl m ds) r = mbind m (fun as => callD ps.length f (as ++ ds.map Arg.d)) r := by
      unfold mCallD mDfl mbind mpure
      cases m r <;> rfl
    rw [← e0]
    exact q
  exact (Run.bind q2).imp fun as r1 F1 H1 e1 _ ⟨s1, _, q1⟩ ys dy => callD_sp s1 (paired_app dy (args_data (hds _ _))) q1
end
end Dx

/-! loops over ranges of any bounds; name += e, list[i] += e -/
namespace Dx
open PySem PySem.Spec PyProof.Rows L2
theorem turn_longC {P : Program} {w : World} {K : PySem.W.Frag} {tg : Expr} (it : Addr) (lo c : Int) (n : Nat) : Turn P w K tg (Itc lo c n) [it] it (fun i h => IsLongIter h it (lo + (i : Nat) * c) ((n : Int) - (i : Nat)) c) where
  mem := by simp
  obj := fun i h st b hb => by
    have e : b = it := by simpa using hb
    subst e
    exact ⟨_, st, fun v z => nomatch z⟩
  keep := fun i h h' st k => k it (by simp) _ st
  item := by
    intro X hP hw hK hc i pins s σ H E I hf st hg
    subst hP hw hK
    obtain ⟨f0, f1, f2, f3, f4, f5⟩ := hf it (by simp)
    have W := Walks.longrange (prog := X.prog) (w := X.w) (I.ok.hd hc) it lo c n
    refine W.item i s _ _ hg st fun v h' tk hv st' kk => ?_
    obtain ⟨t, rfl⟩ := hv
    have I1 : Inv X pins σ H { s with heap := h', toks := tk } := I.turned (fun b o hb e => kk b o (by simpa using hb) e) f0 f1 f3 f4 f5
    exact ⟨_, rfl, go_of (s := { s with heap := h', toks := tk }) (n := "longrange_iterator") st' rfl rfl (by decide) ⟨.int (lo + (i : Nat) * c), H, I1, ⟨t, rfl⟩, ⟨rfl, rfl⟩, st', fun b hb => (hf b hb).1⟩⟩
  done := by
    intro X hP hw hK hc i pins s σ H E I hf st hg
    subst hP hw hK
    obtain ⟨f0, f1, f2, f3, f4, f5⟩ := hf it (by simp)
    exact wpAny_pyNext_long_end (I.ok.hd hc) st (by have : n ≤ i := hg; omega) fun h' eb => ⟨rfl, I.turned (t' := s.toks) (fun b o hb e => eb b o hb e) f0 f1 f3 f4 f5⟩
  self := fun A i s Q E st h => wpAny_pyIter_longiter st h
section
variable {X : Cx} {tg : Expr}
/-- a range object just made, walked; of any bounds -/
theorem rangeC_it {pins : List (Addr × Obj)} {σ : L2.St} {H : Hp} {s : Shared} {R : It → Hp → Prop} {E : Value → Shared → Prop} {lo hi c : Int} {t u v : Tok} {tk n : Nat} (I : Inv X pins σ H s) (hn : Builtin.Range.rangeSize lo hi c = n)
    (q : R (Itc lo c n) H) : wpAny (model X.prog X.w) X.A (pyIter (.ref s.heap.objs.size)) (PIE X pins σ tg R) E { s with heap := s.heap.push { cls := .type "range", data := .fields #[.int lo t, .int hi u, .int c v] }, toks := tk } := by
  have I1 : Inv X pins σ H { s with heap := s.heap.push { cls := .type "range", data := .fields #[.int lo t, .int hi u, .int c v] }, toks := tk } := I.kept fun b o e => Heap.get?_push_of_some _ e
  have e1 : lo + ((0 : Nat) : Int) * c = lo := by simp
  have e2 : (n : Int) - ((0 : Nat) : Int) = Builtin.Range.rangeSize lo hi c := by rw [hn]; simp
  have fp : ∀ b ∈ [(s.heap.push { cls := .type "range", data := .fields #[.int lo t, .int hi u, .int c v] }).objs.size], FpOk X pins H b := fun b hb => by
    have e : b = (s.heap.push { cls := .type "range", data := .fields #[.int lo t, .int hi u, .int c v] }).objs.size := by simpa using hb
    subst e
    exact I1.fpOk (Nat.le_refl _) (I1.hok.fresh (Nat.le_refl _))
  cases sm : Builtin.Range.small lo hi c with
  | true =>
    refine wpAny_pyIter_range (IsRange.new ..) sm ?_
    refine ⟨(s.heap.push { cls := .type "range", data := .fields #[.int lo t, .int hi u, .int c v] }).objs.size, [(s.heap.push { cls := .type "range", data := .fields #[.int lo t, .int hi u, .int c v] }).objs.size], _, _, H, rfl,
      I1.kept (t' := tk) fun b o e => Heap.get?_push_of_some _ e, turn_rangeC _ lo c n, ?_, fp, q⟩
    show IsRangeIter _ _ (lo + ((0 : Nat) : Int) * c) ((n : Int) - ((0 : Nat) : Int)) c
    rw [e1, e2]
    exact Heap.get?_push_size _ rfl
  | false =>
    refine wpAny_pyIter_longrange (IsRange.new ..) sm ?_
    refine ⟨(s.heap.push { cls := .type "range", data := .fields #[.int lo t, .int hi u, .int c v] }).objs.size, [(s.heap.push { cls := .type "range", data := .fields #[.int lo t, .int hi u, .int c v] }).objs.size], _, _, H, rfl,
      I1.kept (t' := tk) fun b o e => Heap.get?_push_of_some _ e, turn_longC _ lo c n, ?_, fp, q⟩
    show IsLongIter _ _ (lo + ((0 : Nat) : Int) * c) ((n : Int) - ((0 : Nat) : Int)) c
    rw [e1, e2]
    exact Heap.get?_push_size _ rfl
def iRngA (ta : TA) : TI := fun σ H R => ta σ H fun vs H1 => ∃ i j : Int, vs = [.int i, .int j] ∧ R (Itc i 1 (j - i).toNat) H1
theorem pi_rangeA {a b : Expr} {ta : TA} {p pos : Pos} (hg : Gl X "range") (hm : X.mg "range" = none) (ha : PA X [a, b] ta) (hs : starEach [a, b] X.env = [(false, eval a X.env), (false, eval b X.env)] := by rfl) (hs2 : starEach [b] X.env = [(false, eval b X.env)] := by rfl) :
    PI X tg (.Call (.Name "range" p) [a, b] [] pos) (iRngA ta) := by
  refine ⟨fun pins s σ H R I h => ?_⟩
  refine Call_ (ld_blt I hg hm boot_range (PyProof.Rows.callWith_type1 (thn (ha.run pos pins s σ H _ I h) fun us s1 ⟨vs, H1, I1, r1, q1⟩ => ?_) (by rw [hs, hs2]) (by rw [hs2]; rfl)))
  obtain ⟨i, j, e, q⟩ := q1
  subst e
  cases r1 with
  | cons r rr =>
    cases rr with
    | cons r' rr =>
      cases rr
      obtain ⟨t, rfl⟩ := r
      obtain ⟨t', rfl⟩ := r'
      exact call_range_2 (rangeC_it I1 (rangeSize_nat i j) q)
def iRngD (ta : TA) : TI := fun σ H R => ta σ H fun vs H1 => ∃ i j : Int, vs = [.int i, .int j, .int (-1)] ∧ R (Itc i (-1) (i - j).toNat) H1
theorem pi_rangeD {a b c : Expr} {ta : TA} {p pos : Pos} (hg : Gl X "range") (hm : X.mg "range" = none) (ha : PA X [a, b, c] ta)
    (hs : starEach [a, b, c] X.env = (false, eval a X.env) :: starEach [b, c] X.env := by rfl) (hpl : (backTo pos (starEach [b, c] X.env)).any (·.1) = false := by rfl) :
    PI X tg (.Call (.Name "range" p) [a, b, c] [] pos) (iRngD ta) := by
  refine ⟨fun pins s σ H R I h => ?_⟩
  refine Call_ (ld_blt I hg hm boot_range (PyProof.Rows.callWith_type1 (thn (ha.run pos pins s σ H _ I h) fun us s1 ⟨vs, H1, I1, r1, q1⟩ => ?_) hs hpl))
  obtain ⟨i, j, e, q⟩ := q1
  subst e
  cases r1 with
  | cons r rr =>
    cases rr with
    | cons r' rr =>
      cases rr with
      | cons r'' rr =>
        cases rr
        obtain ⟨t, rfl⟩ := r
        obtain ⟨t', rfl⟩ := r'
        obtain ⟨t'', rfl⟩ := r''
        exact call_range_3 (by decide) (rangeC_it (tk := s1.toks) I1 (PySem.W.rangeSize_downNat i j) q) (.inl (PyProof.noPylong_small (by decide)))
end
/-! of data -/
def upC (lo c : Int) : Nat → List PyData
  | 0 => []
  | n + 1 => .int lo :: upC (lo + c) c n
theorem upC_len (c : Int) : ∀ (n : Nat) (lo : Int), (upC lo c n).length = n
  | 0, _ => rfl
  | n + 1, lo => by
    show (upC (lo + c) c n).length + 1 = n + 1
    rw [upC_len c n]
theorem upC_get (c : Int) : ∀ (n : Nat) (lo : Int) (i : Nat), i < n → (upC lo c n)[i]? = some (.int (lo + i * c))
  | 0, _, _, h => absurd h (by omega)
  | n + 1, lo, 0, _ => by
    show some (PyData.int lo) = _
    simp
  | n + 1, lo, i + 1, h => by
    show (upC (lo + c) c n)[i]? = _
    rw [upC_get c n (lo + c) i (by omega)]
    have e : lo + c + (i : Int) * c = lo + ((i + 1 : Nat) : Int) * c := by
      push_cast
      rw [Int.add_mul, Int.one_mul]
      omega
    rw [e]
section
variable {X : Cx} {k : Kn} {W : WX} {a b d tg e : Expr} {pos p : Pos}
theorem items_rangeC {F : Hp} {lo c : Int} {n : Nat} : Items k F (Itc lo c n) (upC lo c n) := fun cn F1 H1 r σ e s i => by
  refine ⟨fun d hd => ?_, fun hi => ?_⟩
  · have hi : i < n := by
      have := (List.getElem?_eq_some_iff.mp hd).1
      rw [upC_len] at this
      exact this
    rw [upC_get c n lo i hi] at hd
    cases hd
    refine ⟨hi, fun x H' ⟨e1, hx⟩ => ?_⟩
    subst e1 hx
    exact ⟨F1, Same.refl F1, s, Dp.int _⟩
  · rw [upC_len] at hi
    exact hi
def rngA : List PyData → Option (List PyData)
  | [.int i, .int j] => some (upC i 1 (j - i).toNat)
  | _ => none
def rngD : List PyData → Option (List PyData)
  | [.int i, .int j, .int c] => if c = -1 then some (upC i (-1) (i - j).toNat) else none
  | _ => none
theorem rngA_inv {ds zs : List PyData} (h : rngA ds = some zs) : ∃ i j, ds = [.int i, .int j] ∧ zs = upC i 1 (j - i).toNat := by
  unfold rngA at h
  split at h
  · cases h
    exact ⟨_, _, rfl, rfl⟩
  · cases h
theorem rngD_inv {ds zs : List PyData} (h : rngD ds = some zs) : ∃ i j, ds = [.int i, .int j, .int (-1)] ∧ zs = upC i (-1) (i - j).toNat := by
  unfold rngD at h
  split at h
  · split at h
    · rename_i e
      subst e
      cases h
      exact ⟨_, _, rfl, rfl⟩
    · cases h
  · cases h
def mRngA (m : M (List PyData)) : M (List PyData) := mbind m fun ds => mopt (rngA ds)
def mRngD (m : M (List PyData)) : M (List PyData) := mbind m fun ds => mopt (rngD ds)
theorem iRngAD {m : M (List PyData)} {p : Pos} (hg : Gl X "range") (hm : X.mg "range" = none) (ha : PA X [a, b] (rL k W m)) (hs : starEach [a, b] X.env = [(false, eval a X.env), (false, eval b X.env)] := by rfl) (hs2 : starEach [b] X.env = [(false, eval b X.env)] := by rfl) :
    PI X tg (.Call (.Name "range" p) [a, b] [] pos) (rI k W (mRngA m)) :=
  pi_imp (pi_rangeA hg hm ha hs hs2) fun σ H R q => by
    obtain ⟨c, F, r, s, q⟩ := q
    refine ⟨c, F, r, s, (Run.bind q).imp fun ds r1 F1 H1 e1 _ ⟨s1, _, q1⟩ ys dy => ?_⟩
    obtain ⟨zs, hz, kk⟩ := Run.opt q1
    obtain ⟨i, j, rfl, rfl⟩ := rngA_inv hz
    obtain ⟨y, z, rfl, d1, d2⟩ := dpAll2 dy
    exact ⟨i, j, by rw [dp_int d1, dp_int d2], kk F1 H1 (Same.refl F1) s1 _ items_rangeC⟩
theorem iRngDD {m : M (List PyData)} {p : Pos} (hg : Gl X "range") (hm : X.mg "range" = none) (ha : PA X [a, b, d] (rL k W m)) (hs : starEach [a, b, d] X.env = (false, eval a X.env) :: starEach [b, d] X.env := by rfl) (hpl : (backTo pos (starEach [b, d] X.env)).any (·.1) = false := by rfl) :
    PI X tg (.Call (.Name "range" p) [a, b, d] [] pos) (rI k W (mRngD m)) :=
  pi_imp (pi_rangeD hg hm ha hs hpl) fun σ H R q => by
    obtain ⟨c, F, r, s, q⟩ := q
    refine ⟨c, F, r, s, (Run.bind q).imp fun ds r1 F1 H1 e1 _ ⟨s1, _, q1⟩ ys dy => ?_⟩
    obtain ⟨zs, hz, kk⟩ := Run.opt q1
    obtain ⟨i, j, rfl, rfl⟩ := rngD_inv hz
    obtain ⟨y, z, u, rfl, d1, d2, d3⟩ := dpAll3 dy
    exact ⟨i, j, by rw [dp_int d1, dp_int d2, dp_int d3], kk F1 H1 (Same.refl F1) s1 _ items_rangeC⟩
end
end Dx

/-! for i, (x, y) in enumerate(zip(xs, ys)) -/
namespace Dx
open PySem PySem.Spec PyProof.Rows L2
open Sem (wp)
/-- a zip whose last pair is v (none yet, or it stands somewhere or is gone) -/
abbrev ZipG (h : Heap) (z TI TO : Addr) (v : Value) (f : Bool) : Prop :=
  h.get? z = some { cls := .type "zip", dict := none, data := .fields #[v, .bool f, .bool false, .ref TI, .ref TO], slots := #[] }
section
variable {prog : Program} {w : World} {A : Around} {E : Value → Shared → Prop} {s : Shared} {z TI TO i1 i2 l1 l2 : Addr} {v : Value} {f : Bool} {k1 k2 : Nat} {xs ys : Array Value} {x y a b : Value}
theorem alive_any {T : Addr} {Q : Option Obj → Shared → Prop} (h : Q (s.heap.get? T) s) : wpAny (model prog w) A (loadIfAlive T) Q E s := fun _ _ _ => h
def ZMark (v : Value) : Prop := v = .none ∨ ∃ T : Nat, v = rawInt T
theorem zfree {Q : Bool → Shared → Prop} (hz : ZipG s.heap z TI TO v f) (hv : ZMark v) (yes : Q true s)
    (no : ∀ h', ZipG h' z TI TO v true → Heap.SameBut z s.heap h' → Q false { s with heap := h' }) : wpAny (model prog w) A (Builtin.SmallTypes.ownedTupleIsFree (.ref z)) Q E s := by
  unfold Builtin.SmallTypes.ownedTupleIsFree
  refine wpAny_bind (wpAny_field hz rfl (x := v) rfl ?_)
  rcases hv with rfl | ⟨T, rfl⟩
  · exact wpAny_pure yes
  · show wpAny _ _ (loadIfAlive ((T : Int).toNat) >>= _) _ _ _
    refine wpAny_bind (alive_any ?_)
    cases s.heap.get? (T : Int).toNat with
    | none => exact wpAny_pure yes
    | some o =>
      simp only [Option.isNone_some, Bool.false_eq_true, if_false]
      refine wpAny_bind (wpAny_field hz rfl (x := .bool f) rfl ?_)
      cases f with
      | true =>
        rw [if_neg (by decide)]
        exact wpAny_pure (no _ hz (.refl _ _))
      | false =>
        rw [if_pos (by decide)]
        exact wpAny_bind (wpAny_setField_rec hz (by simp) fun h1 e1 s1 => wpAny_pure (no h1 e1 s1))
/-- what the turn leaves -/
structure ZTurn (h h' : Heap) (z TI TO i1 i2 l1 l2 : Addr) (k1 k2 : Nat) (x y : Value) : Prop where
  zp : ∃ v f, ZMark v ∧ ZipG h' z TI TO v f
  out : ∃ a b, IsPair h' TO a b
  one : h'.IsListIter i1 l1 (k1 + 1)
  two : h'.IsListIter i2 l2 (k2 + 1)
  pair : IsPair h' h.objs.size x y
  size : h'.objs.size = h.objs.size + 1
  keep : ∀ c o, c ≠ z → c ≠ TO → c ≠ i1 → c ≠ i2 → h.get? c = some o → h'.get? c = some o
theorem znext {Q : Value → Shared → Prop} (D : ZipApart z TI TO i1 i2 l1 l2) (hz : ZipG s.heap z TI TO v f) (hv : ZMark v) (hTI : IsPair s.heap TI (.ref i1) (.ref i2)) (hTO : IsPair s.heap TO a b)
    (h1 : s.heap.IsListIter i1 l1 k1) (h2 : s.heap.IsListIter i2 l2 k2) (hl1 : s.heap.IsList l1 xs) (hl2 : s.heap.IsList l2 ys) (hx : xs[k1]? = some x) (hy : ys[k2]? = some y)
    (hQ : ∀ h', ZTurn s.heap h' z TI TO i1 i2 l1 l2 k1 k2 x y → Q (.ref s.heap.objs.size) { s with heap := h' }) :
    wpAny (model prog w) A (Builtin.«zip.__next__» ⟨[.ref z], []⟩) (fun fin s' => ∃ v, fin = .done (.ret v) ∧ Q v s') E s := by
  show wpAny _ _ (field (.ref z) 2 >>= _) _ _ _
  refine wpAny_bind (wpAny_field hz rfl (x := .bool false) rfl ?_)
  show wpAny _ _ (field (.ref z) 3 >>= _) _ _ _
  refine wpAny_bind (wpAny_field hz rfl (x := .ref TI) rfl ?_)
  refine wpAny_bind (wpAny_seqItems hTI rfl ?_)
  show wpAny _ _ (Builtin.SmallTypes.ownedTupleIsFree (.ref z) >>= _) _ _ _
  refine wpAny_bind (zfree hz hv ?_ fun g1 z1 s1 => ?_)
  · simp only [if_true]
    refine wpAny_bind (wpAny_rule ?_)
    refine wpAny_bind (wpAny_field hz rfl (x := .ref TO) rfl ?_)
    refine wpAny_bind (wpAny_setField_rec hz (by simp) fun g1 z1 s1 => ?_)
    replace z1 : ZipG g1 z TI TO .ellipsis f := z1
    refine wpAny_bind ?_
    simp only [List.zipIdx_cons, List.zipIdx_nil, List.forIn_cons, List.forIn_nil]
    refine wpAny_bind (wpAny_bind (wpAny_onRaise ?_))
    show wpAny _ _ (Builtin.SmallTypes.nextOf (.ref i1) >>= _) _ _ _
    refine wpAny_bind (wpAny_nextOf_list_item (h1.extBut s1.extBut D.i1z) (hl1.extBut s1.extBut D.l1z) hx fun g2 j1 s2 => wpAny_pure ?_)
    have o2 : IsPair g2 TO a b := s2.extBut _ _ D.TOi1 (s1.extBut _ _ D.TOz hTO)
    refine wpAny_bind (wpAny_seqItems o2 rfl ?_)
    refine wpAny_bind (wpAny_updateSeq_pair o2 fun g3 o3 s3 => ?_)
    replace o3 : IsPair g3 TO x b := o3
    refine wpAny_bind (wpAny_letGo (wpAny_pure ?_))
    refine wpAny_bind (wpAny_bind (wpAny_onRaise ?_))
    show wpAny _ _ (Builtin.SmallTypes.nextOf (.ref i2) >>= _) _ _ _
    refine wpAny_bind (wpAny_nextOf_list_item (((h2.extBut s1.extBut D.i2z).extBut s2.extBut D.i12.symm).extBut s3.extBut D.TOi2.symm) (((hl2.extBut s1.extBut D.l2z).extBut s2.extBut D.l2i1).extBut s3.extBut D.l2TO) hy fun g4 j2 s4 => wpAny_pure ?_)
    have o4 : IsPair g4 TO x b := s4.extBut _ _ D.TOi2 o3
    refine wpAny_bind (wpAny_seqItems o4 rfl ?_)
    refine wpAny_bind (wpAny_updateSeq_pair o4 fun g5 o5 s5 => ?_)
    replace o5 : IsPair g5 TO x y := o5
    refine wpAny_bind (wpAny_letGo (wpAny_pure (wpAny_pure ?_)))
    refine wpAny_bind (wpAny_seqItems o5 rfl ?_)
    refine wpAny_bind (wpAny_newTuple ?_)
    have size5 : g5.objs.size = s.heap.objs.size := by rw [s5.1, s4.1, s3.1, s2.1, s1.1]
    have z5 : ZipG g5 z TI TO .ellipsis f := s5.extBut _ _ D.TOz.symm (s4.extBut _ _ D.i2z.symm (s3.extBut _ _ D.TOz.symm (s2.extBut _ _ D.i1z.symm z1)))
    have keep5 : ∀ c o, c ≠ z → c ≠ TO → c ≠ i1 → c ≠ i2 → s.heap.get? c = some o → g5.get? c = some o := fun c o c1 c2 c3 c4 q => s5.extBut _ _ c2 (s4.extBut _ _ c4 (s3.extBut _ _ c2 (s2.extBut _ _ c3 (s1.extBut _ _ c1 q))))
    have j1' : g5.IsListIter i1 l1 (k1 + 1) := ((j1.extBut s3.extBut D.TOi1.symm).extBut s4.extBut D.i12).extBut s5.extBut D.TOi1.symm
    have j2' : g5.IsListIter i2 l2 (k2 + 1) := j2.extBut s5.extBut D.TOi2.symm
    have lt : z < g5.objs.size := Heap.lt_size z5
    show wpAny _ _ (Builtin.SmallTypes.ownedTupleHandOut (.ref z) (.ref g5.objs.size) >>= _) _ _ _
    refine wpAny_bind ?_
    unfold Builtin.SmallTypes.ownedTupleHandOut
    have z6 : ZipG (g5.push { cls := .type "tuple", data := .seq #[x, y] }) z TI TO .ellipsis f := Heap.get?_push_of_some _ z5
    refine wpAny_bind (wpAny_setField_rec z6 (by simp) fun g7 z7 s7 => ?_)
    replace z7 : ZipG g7 z TI TO (rawInt g5.objs.size) f := z7
    refine wpAny_setField_rec z7 (by simp) fun g8 z8 s8 => ?_
    replace z8 : ZipG g8 z TI TO (rawInt g5.objs.size) false := z8
    have up : ∀ c o, c ≠ z → g5.get? c = some o → g8.get? c = some o := fun c o c1 q => s8.extBut _ _ c1 (s7.extBut _ _ c1 (Heap.get?_push_of_some _ q))
    have p8 : IsPair g8 g5.objs.size x y := s8.extBut _ _ (Nat.ne_of_gt lt) (s7.extBut _ _ (Nat.ne_of_gt lt) (Heap.get?_push_size _ rfl))
    have n8 : g8.objs.size = g5.objs.size + 1 := by rw [s8.1, s7.1, Heap.size_push]
    refine wpAny_pure ⟨_, rfl, ?_⟩
    show Q (.ref g5.objs.size) _
    rw [size5] at z8 p8 n8 ⊢
    exact hQ g8 ⟨⟨_, _, .inr ⟨_, rfl⟩, z8⟩, ⟨_, _, up _ _ D.TOz o5⟩, j1'.at fun o q => up _ o D.i1z q, j2'.at fun o q => up _ o D.i2z q, p8, n8, fun c o c1 c2 c3 c4 q => up c o c1 (keep5 c o c1 c2 c3 c4 q)⟩
  · simp only [Bool.false_eq_true, if_false]
    refine wpAny_bind ?_
    rw [← Array.forIn_toList]
    simp only [List.forIn_cons, List.forIn_nil]
    refine wpAny_bind (wpAny_bind (wpAny_holding ?_))
    show wpAny _ _ (Builtin.SmallTypes.nextOf (.ref i1) >>= _) _ _ _
    refine wpAny_bind (wpAny_nextOf_list_item (s := { s with heap := g1 }) (h1.extBut s1.extBut D.i1z) (hl1.extBut s1.extBut D.l1z) hx fun g2 j1 s2 => wpAny_pure (wpAny_pure ?_))
    refine wpAny_bind (wpAny_bind (wpAny_holding ?_))
    show wpAny _ _ (Builtin.SmallTypes.nextOf (.ref i2) >>= _) _ _ _
    refine wpAny_bind (wpAny_nextOf_list_item (s := { s with heap := g2 }) ((h2.extBut s1.extBut D.i2z).extBut s2.extBut D.i12.symm) ((hl2.extBut s1.extBut D.l2z).extBut s2.extBut D.l2i1) hy fun g3 j2 s3 => wpAny_pure (wpAny_pure (wpAny_pure ?_)))
    show wpAny _ _ (newTuple [x, y] >>= _) _ _ _
    refine wpAny_bind (wpAny_newTuple (wpAny_pure ⟨_, rfl, ?_⟩))
    have size3 : g3.objs.size = s.heap.objs.size := by rw [s3.1, s2.1, s1.1]
    have z3 : ZipG g3 z TI TO v true := s3.extBut _ _ D.i2z.symm (s2.extBut _ _ D.i1z.symm z1)
    have keep3 : ∀ c o, c ≠ z → c ≠ i1 → c ≠ i2 → s.heap.get? c = some o → g3.get? c = some o := fun c o c1 c2 c3 q => s3.extBut _ _ c3 (s2.extBut _ _ c2 (s1.extBut _ _ c1 q))
    show Q (.ref g3.objs.size) _
    have p : IsPair (g3.push { cls := .type "tuple", data := .seq #[x, y] }) g3.objs.size x y := Heap.get?_push_size _ rfl
    have n : (g3.push { cls := .type "tuple", data := .seq #[x, y] }).objs.size = g3.objs.size + 1 := Heap.size_push ..
    rw [size3] at p n ⊢
    exact hQ _ ⟨⟨_, _, hv, Heap.get?_push_of_some _ z3⟩, ⟨_, _, Heap.get?_push_of_some _ (keep3 _ _ D.TOz D.TOi1 D.TOi2 hTO)⟩, (j1.extBut s3.extBut D.i12).at fun o q => Heap.get?_push_of_some _ q, j2.at fun o q => Heap.get?_push_of_some _ q, p, n,
      fun c o c1 _ c3 c4 q => Heap.get?_push_of_some _ (keep3 c o c1 c3 c4 q)⟩
theorem znext_end {Q : Fin → Shared → Prop} (hh : A.handled = none) (D : ZipApart z TI TO i1 i2 l1 l2) (hz : ZipG s.heap z TI TO v f) (hv : ZMark v) (hTI : IsPair s.heap TI (.ref i1) (.ref i2)) (hTO : IsPair s.heap TO a b)
    (h1 : s.heap.IsListIter i1 l1 k1) (h2 : s.heap.IsListIter i2 l2 k2) (hl1 : s.heap.IsList l1 xs) (hl2 : s.heap.IsList l2 ys) (hend : xs[k1]? = none ∨ ys[k2]? = none)
    (hE : ∀ h' e, (∀ c o, c ≠ z → c ≠ TO → c ≠ i1 → c ≠ i2 → s.heap.get? c = some o → h'.get? c = some o) → (∃ o, h'.get? e = some o ∧ o.cls = .type "StopIteration") → E (.ref e) { s with heap := h' }) :
    wpAny (model prog w) A (Builtin.«zip.__next__» ⟨[.ref z], []⟩) Q E s := by
  show wpAny _ _ (field (.ref z) 2 >>= _) _ _ _
  refine wpAny_bind (wpAny_field hz rfl (x := .bool false) rfl ?_)
  show wpAny _ _ (field (.ref z) 3 >>= _) _ _ _
  refine wpAny_bind (wpAny_field hz rfl (x := .ref TI) rfl ?_)
  refine wpAny_bind (wpAny_seqItems hTI rfl ?_)
  show wpAny _ _ (Builtin.SmallTypes.ownedTupleIsFree (.ref z) >>= _) _ _ _
  refine wpAny_bind (zfree hz hv ?_ fun g1 z1 s1 => ?_)
  · simp only [if_true]
    refine wpAny_bind (wpAny_rule ?_)
    refine wpAny_bind (wpAny_field hz rfl (x := .ref TO) rfl ?_)
    refine wpAny_bind (wpAny_setField_rec hz (by simp) fun g1 z1 s1 => ?_)
    replace z1 : ZipG g1 z TI TO .ellipsis f := z1
    refine wpAny_bind ?_
    simp only [List.zipIdx_cons, List.zipIdx_nil, List.forIn_cons, List.forIn_nil]
    refine wpAny_bind (wpAny_bind (wpAny_onRaise ?_))
    show wpAny _ _ (Builtin.SmallTypes.nextOf (.ref i1) >>= _) _ _ _
    cases hx : xs[k1]? with
    | none =>
      refine wpAny_bind (wpAny_nextOf_list_end hh (h1.extBut s1.extBut D.i1z) (hl1.extBut s1.extBut D.l1z) hx fun g2 e s2 he => ?_)
      obtain ⟨oe, q, hc⟩ := he
      have z2 : ZipG g2 z TI TO .ellipsis f := s2 _ _ D.i1z.symm z1
      have ne : e ≠ z := fun u => by
        subst u
        rw [z2] at q
        cases q
        simp at hc
      exact wpAny_setField_rec z2 (by simp) fun g3 _ s3 => hE g3 e (fun c o c1 _ c3 _ u => s3.extBut _ _ c1 (s2 _ _ c3 (s1.extBut _ _ c1 u))) ⟨oe, s3.extBut _ _ ne q, hc⟩
    | some x =>
      have hy : ys[k2]? = none := by
        rcases hend with h | h
        · rw [hx] at h
          cases h
        · exact h
      refine wpAny_bind (wpAny_nextOf_list_item (h1.extBut s1.extBut D.i1z) (hl1.extBut s1.extBut D.l1z) hx fun g2 j1 s2 => wpAny_pure ?_)
      have o2 : IsPair g2 TO a b := s2.extBut _ _ D.TOi1 (s1.extBut _ _ D.TOz hTO)
      refine wpAny_bind (wpAny_seqItems o2 rfl ?_)
      refine wpAny_bind (wpAny_updateSeq_pair o2 fun g3 o3 s3 => ?_)
      refine wpAny_bind (wpAny_letGo (wpAny_pure ?_))
      refine wpAny_bind (wpAny_bind (wpAny_onRaise ?_))
      show wpAny _ _ (Builtin.SmallTypes.nextOf (.ref i2) >>= _) _ _ _
      refine wpAny_bind (wpAny_nextOf_list_end hh (((h2.extBut s1.extBut D.i2z).extBut s2.extBut D.i12.symm).extBut s3.extBut D.TOi2.symm) (((hl2.extBut s1.extBut D.l2z).extBut s2.extBut D.l2i1).extBut s3.extBut D.l2TO) hy fun g4 e s4 he => ?_)
      obtain ⟨oe, q, hc⟩ := he
      have z4 : ZipG g4 z TI TO .ellipsis f := s4 _ _ D.i2z.symm (s3.extBut _ _ D.TOz.symm (s2.extBut _ _ D.i1z.symm z1))
      have ne : e ≠ z := fun u => by
        subst u
        rw [z4] at q
        cases q
        simp at hc
      exact wpAny_setField_rec z4 (by simp) fun g5 _ s5 => hE g5 e (fun c o c1 c2 c3 c4 u => s5.extBut _ _ c1 (s4 _ _ c4 (s3.extBut _ _ c2 (s2.extBut _ _ c3 (s1.extBut _ _ c1 u))))) ⟨oe, s5.extBut _ _ ne q, hc⟩
  · simp only [Bool.false_eq_true, if_false]
    refine wpAny_bind ?_
    rw [← Array.forIn_toList]
    simp only [List.forIn_cons, List.forIn_nil]
    refine wpAny_bind (wpAny_bind (wpAny_holding ?_))
    show wpAny _ _ (Builtin.SmallTypes.nextOf (.ref i1) >>= _) _ _ _
    cases hx : xs[k1]? with
    | none =>
      refine wpAny_bind (wpAny_nextOf_list_end (s := { s with heap := g1 }) hh (h1.extBut s1.extBut D.i1z) (hl1.extBut s1.extBut D.l1z) hx fun g2 e s2 he => ?_)
      exact hE g2 e (fun c o c1 _ c3 _ u => s2 _ _ c3 (s1.extBut _ _ c1 u)) he
    | some x =>
      have hy : ys[k2]? = none := by
        rcases hend with h | h
        · rw [hx] at h
          cases h
        · exact h
      refine wpAny_bind (wpAny_nextOf_list_item (s := { s with heap := g1 }) (h1.extBut s1.extBut D.i1z) (hl1.extBut s1.extBut D.l1z) hx fun g2 j1 s2 => wpAny_pure (wpAny_pure ?_))
      refine wpAny_bind (wpAny_bind (wpAny_holding ?_))
      show wpAny _ _ (Builtin.SmallTypes.nextOf (.ref i2) >>= _) _ _ _
      refine wpAny_bind (wpAny_nextOf_list_end (s := { s with heap := g2 }) hh ((h2.extBut s1.extBut D.i2z).extBut s2.extBut D.i12.symm) ((hl2.extBut s1.extBut D.l2z).extBut s2.extBut D.l2i1) hy fun g3 e s3 he => ?_)
      exact hE g3 e (fun c o c1 _ c3 c4 u => s3 _ _ c4 (s2.extBut _ _ c3 (s1.extBut _ _ c1 u))) he
/-! the zip's turn as the enumerate's -/
variable {e : Addr} {i : Nat} {old : Value}
theorem enext {Q : Option Value → Shared → Prop} (D : ZipApart z TI TO i1 i2 l1 l2) (he : IsEnum s.heap e z i old) (ne : e ≠ z ∧ e ≠ TO ∧ e ≠ i1 ∧ e ≠ i2) (hz : ZipG s.heap z TI TO v f) (hv : ZMark v) (hTI : IsPair s.heap TI (.ref i1) (.ref i2)) (hTO : IsPair s.heap TO a b)
    (h1 : s.heap.IsListIter i1 l1 k1) (h2 : s.heap.IsListIter i2 l2 k2) (hl1 : s.heap.IsList l1 xs) (hl2 : s.heap.IsList l2 ys) (hx : xs[k1]? = some x) (hy : ys[k2]? = some y)
    (hQ : ∀ g h' tk, ZTurn s.heap g z TI TO i1 i2 l1 l2 k1 k2 x y → IsEnumOut h' e z ((i : Int) + 1) (.ref s.heap.objs.size) (s.heap.objs.size + 1) → h'.get? (s.heap.objs.size + 1) = some { cls := .type "tuple", data := .seq #[.int i tk, .ref s.heap.objs.size] } →
      (∀ b o, b ≠ e → g.get? b = some o → h'.get? b = some o) → Q (some (.ref (s.heap.objs.size + 1))) { s with heap := h', toks := tk + 1 }) : wpAny (model prog w) A (pyNext (.ref e)) Q E s := by
  have hT : s.TypeIs (.ref e) "enumerate" := ⟨_, he, rfl⟩
  have hZ : s.TypeIs (.ref z) "zip" := ⟨_, hz, rfl⟩
  unfold pyNext
  refine wpAny_bind (wpAny_attempt (wpAny_callSpecial?_slot (name := Str.ofString "__next__") hT F.slot_enumerate_next (wpAny_call_entry F.slot_enumerate_next hT F.entry_enumerate_next ?_ (F.args_enumerate_next_1 _))))
  show wpAny _ _ (field (.ref e) 2 >>= _) _ _ _
  refine wpAny_bind (wpAny_field he rfl (x := .ref z) rfl ?_)
  unfold Builtin.SmallTypes.nextOf
  refine wpAny_bind (wpAny_bind (wpAny_callSpecial?_slot (name := Str.ofString "__next__") hZ F.slot_zip_next (wpAny_call_entry F.slot_zip_next hZ F.entry_zip_next (znext D hz hv hTI hTO h1 h2 hl1 hl2 hx hy fun g t => ?_) (F.args_zip_next_1 _))))
  refine wpAny_pure ?_
  have e1 : IsEnum g e z i old := t.keep _ _ ne.1 ne.2.1 ne.2.2.1 ne.2.2.2 he
  show wpAny _ _ (field (.ref e) 3 >>= _) _ _ _
  refine wpAny_bind (wpAny_field e1 rfl (x := rawInt i) rfl ?_)
  show wpAny _ _ (field (.ref e) 4 >>= _) _ _ _
  refine wpAny_bind (wpAny_field e1 rfl (x := .none) rfl ?_)
  show wpAny _ _ (mkInt i >>= _) _ _ _
  refine wpAny_bind (wpAny_mkInt ?_)
  show wpAny _ _ (setField (.ref e) 3 (rawInt ((i : Int) + 1)) >>= _) _ _ _
  refine wpAny_bind (wpAny_setField_rec e1 (by simp) fun g2 e2 s2 => ?_)
  replace e2 : IsEnum g2 e z ((i : Int) + 1) old := e2
  show wpAny _ _ (setField (.ref e) 4 .none >>= _) _ _ _
  refine wpAny_bind (wpAny_setField_rec e2 (by simp) fun g3 e3 s3 => ?_)
  replace e3 : IsEnum g3 e z ((i : Int) + 1) old := e3
  show wpAny _ _ (newTuple [.int i s.toks, .ref s.heap.objs.size] >>= _) _ _ _
  refine wpAny_bind (wpAny_newTuple ?_)
  have size3 : g3.objs.size = s.heap.objs.size + 1 := by rw [s3.1, s2.1, t.size]
  have lt : e < g3.objs.size := Heap.lt_size e3
  have e4 : IsEnum (g3.push { cls := .type "tuple", data := .seq #[.int i s.toks, .ref s.heap.objs.size] }) e z ((i : Int) + 1) old := Heap.get?_push_of_some _ e3
  have p4 : (g3.push { cls := .type "tuple", data := .seq #[.int i s.toks, .ref s.heap.objs.size] }).get? g3.objs.size = some { cls := .type "tuple", data := .seq #[.int i s.toks, .ref s.heap.objs.size] } := Heap.get?_push_size _ rfl
  have keep4 : ∀ b o, b ≠ e → g.get? b = some o → (g3.push { cls := .type "tuple", data := .seq #[.int i s.toks, .ref s.heap.objs.size] }).get? b = some o := fun b o hb q => Heap.get?_push_of_some _ (s3.extBut b o hb (s2.extBut b o hb q))
  generalize g3.push { cls := .type "tuple", data := .seq #[.int i s.toks, .ref s.heap.objs.size] } = g4 at e4 p4 keep4 ⊢
  show wpAny _ _ (Builtin.SmallTypes.ownedTupleIsFree (.ref e) >>= _) _ _ _
  refine wpAny_bind ?_
  unfold Builtin.SmallTypes.ownedTupleIsFree
  refine wpAny_bind (wpAny_field e4 rfl (x := .none) rfl (wpAny_pure ?_))
  simp only [if_true]
  refine wpAny_bind (wpAny_rule ?_)
  refine wpAny_bind (wpAny_field e4 rfl (x := old) rfl ?_)
  refine wpAny_bind (wpAny_setField_rec e4 (by simp) fun g5 e5 s5 => ?_)
  replace e5 : IsEnum g5 e z ((i : Int) + 1) (.ref s.heap.objs.size) := e5
  show wpAny _ _ (Builtin.SmallTypes.ownedTupleHandOut (.ref e) (.ref g3.objs.size) >>= _) _ _ _
  refine wpAny_bind ?_
  unfold Builtin.SmallTypes.ownedTupleHandOut
  refine wpAny_bind (wpAny_setField_rec e5 (by simp) fun g6 e6 s6 => ?_)
  replace e6 : IsEnumOut g6 e z ((i : Int) + 1) (.ref s.heap.objs.size) g3.objs.size := e6
  refine wpAny_setField_rec e6 (by simp) fun g7 e7 s7 => ?_
  replace e7 : IsEnumOut g7 e z ((i : Int) + 1) (.ref s.heap.objs.size) g3.objs.size := e7
  have ne3 : g3.objs.size ≠ e := Nat.ne_of_gt lt
  have p7 := s7.extBut _ _ ne3 (s6.extBut _ _ ne3 (s5.extBut _ _ ne3 p4))
  rw [size3] at e7 p7 ⊢
  exact wpAny_bind (wpAny_letGo (wpAny_pure ⟨_, rfl, wpAny_pure (hQ g g7 s.toks t e7 p7 fun b o hb q => s7.extBut b o hb (s6.extBut b o hb (s5.extBut b o hb (keep4 b o hb q))))⟩))
theorem enext_end {Q : Option Value → Shared → Prop} (hh : A.handled = none) (D : ZipApart z TI TO i1 i2 l1 l2) (he : IsEnum s.heap e z i old) (hz : ZipG s.heap z TI TO v f) (hv : ZMark v) (hTI : IsPair s.heap TI (.ref i1) (.ref i2)) (hTO : IsPair s.heap TO a b)
    (h1 : s.heap.IsListIter i1 l1 k1) (h2 : s.heap.IsListIter i2 l2 k2) (hl1 : s.heap.IsList l1 xs) (hl2 : s.heap.IsList l2 ys) (hend : xs[k1]? = none ∨ ys[k2]? = none)
    (hQ : ∀ h', (∀ c o, c ≠ z → c ≠ TO → c ≠ i1 → c ≠ i2 → s.heap.get? c = some o → h'.get? c = some o) → Q none { s with heap := h' }) : wpAny (model prog w) A (pyNext (.ref e)) Q E s := by
  have hT : s.TypeIs (.ref e) "enumerate" := ⟨_, he, rfl⟩
  have hZ : s.TypeIs (.ref z) "zip" := ⟨_, hz, rfl⟩
  unfold pyNext
  refine wpAny_bind (wpAny_attempt (wpAny_callSpecial?_slot (name := Str.ofString "__next__") hT F.slot_enumerate_next (wpAny_call_entry F.slot_enumerate_next hT F.entry_enumerate_next ?_ (F.args_enumerate_next_1 _))))
  show wpAny _ _ (field (.ref e) 2 >>= _) _ _ _
  refine wpAny_bind (wpAny_field he rfl (x := .ref z) rfl ?_)
  unfold Builtin.SmallTypes.nextOf
  refine wpAny_bind (wpAny_bind (wpAny_callSpecial?_slot (name := Str.ofString "__next__") hZ F.slot_zip_next (wpAny_call_entry F.slot_zip_next hZ F.entry_zip_next (znext_end hh D hz hv hTI hTO h1 h2 hl1 hl2 hend fun h' x he' hx' => ?_) (F.args_zip_next_1 _))))
  obtain ⟨o, ho, hc⟩ := hx'
  exact wpAny_bind (wpAny_isInstance (T := "StopIteration") (b := true) ⟨o, ho, hc⟩ isSubtype_stop (wpAny_pure (hQ _ he')))
end
end Dx

namespace Dx
open PySem PySem.Spec PyProof.Rows L2
/-- the lists at a and b, their items in numbered pairs -/
def Itez (K : PySem.W.Frag) (a b : Addr) : It where
  go i H := ∃ (xs ys : List V) (x y : V), SqL K H a xs ∧ SqL K H b ys ∧ xs[i]? = some x ∧ ys[i]? = some y
  yld i H v H' := ∃ T U x y, v = .ref U ∧ H T = none ∧ upd H T (.tup [x, y]) U = none ∧ H' = upd (upd H T (.tup [x, y])) U (.tup [.int (i : Nat), .ref T]) ∧ (∀ xs, SqL K H a xs → xs[i]? = some x) ∧ ∀ ys, SqL K H b ys → ys[i]? = some y
  stop i H := ∃ xs ys : List V, SqL K H a xs ∧ SqL K H b ys ∧ (xs.length ≤ i ∨ ys.length ≤ i)
theorem turn_ez {P : Program} {w : World} {K : PySem.W.Frag} {elts : List Expr} {kk : Nat} {tpos : Pos} {a b e z TI TO i1 i2 : Addr} (D : ZipApart z TI TO i1 i2 a b) (ne : e ≠ z ∧ e ≠ TO ∧ e ≠ i1 ∧ e ≠ i2 ∧ e ≠ TI) :
    Turn P w K (.Tuple elts kk tpos) (Itez K a b) [e, z, TI, TO, i1, i2] e (fun i h => (∃ old, IsEnum h e z ((i : Nat) : Int) old) ∧ (∃ v f, ZMark v ∧ ZipG h z TI TO v f) ∧ IsPair h TI (.ref i1) (.ref i2) ∧ (∃ x y, IsPair h TO x y) ∧ h.IsListIter i1 a i ∧ h.IsListIter i2 b i) where
  mem := by simp
  obj := fun i h st c hc => by
    obtain ⟨⟨old, he⟩, ⟨v, f, _, hz⟩, hTI, ⟨x, y, hTO⟩, ⟨o1, e1, _, d1⟩, ⟨o2, e2, _, d2⟩⟩ := st
    simp only [List.mem_cons, List.not_mem_nil, or_false] at hc
    rcases hc with rfl | rfl | rfl | rfl | rfl | rfl
    · exact ⟨_, he, fun _ q => nomatch q⟩
    · exact ⟨_, hz, fun _ q => nomatch q⟩
    · exact ⟨_, hTI, fun _ q => nomatch q⟩
    · exact ⟨_, hTO, fun _ q => nomatch q⟩
    · exact ⟨o1, e1, fun _ q => by rw [d1] at q; cases q⟩
    · exact ⟨o2, e2, fun _ q => by rw [d2] at q; cases q⟩
  keep := fun i h h' st k => by
    obtain ⟨⟨old, he⟩, ⟨v, f, hv, hz⟩, hTI, ⟨x, y, hTO⟩, h1, h2⟩ := st
    exact ⟨⟨old, k e (by simp) _ he⟩, ⟨v, f, hv, k z (by simp) _ hz⟩, k TI (by simp) _ hTI, ⟨x, y, k TO (by simp) _ hTO⟩, h1.at fun o q => k i1 (by simp) o q, h2.at fun o q => k i2 (by simp) o q⟩
  item := by
    intro X hP hw hK hc i pins s σ H E I hf st hg
    subst hP hw hK
    obtain ⟨⟨old, he⟩, ⟨v, f, hv, hz⟩, hTI, ⟨x0, y0, hTO⟩, h1, h2⟩ := st
    obtain ⟨xs, ys, x, y, qx, qy, hx, hy⟩ := hg
    obtain ⟨js, rv, p, _⟩ := I.list qx
    obtain ⟨ks, rv2, p2, _⟩ := I.list qy
    obtain ⟨u, hu, ru⟩ := rv.get hx
    obtain ⟨u2, hu2, ru2⟩ := rv2.get hy
    have le : e < s.heap.objs.size := Heap.lt_size he
    have lz : z < s.heap.objs.size := Heap.lt_size hz
    have lTI : TI < s.heap.objs.size := Heap.lt_size hTI
    have lTO : TO < s.heap.objs.size := Heap.lt_size hTO
    have li1 : i1 < s.heap.objs.size := by obtain ⟨_, q, _⟩ := h1; exact Heap.lt_size q
    have li2 : i2 < s.heap.objs.size := by obtain ⟨_, q, _⟩ := h2; exact Heap.lt_size q
    refine enext D he ⟨ne.1, ne.2.1, ne.2.2.1, ne.2.2.2.1⟩ hz hv hTI hTO h1 h2 p.isList p2.isList (x := u) (y := u2) (by simpa using hu) (by simpa using hu2) fun g h' tk t ho hT hk => ?_
    refine ⟨_, rfl, wpAny_letOwnedTupleGo_enum (s := { s with heap := h', toks := tk + 1 }) ho fun h'' he' sb => ?_⟩
    have lt : ∀ c ∈ [e, z, TI, TO, i1, i2], c < s.heap.objs.size := fun c hcm => by
      simp only [List.mem_cons, List.not_mem_nil, or_false] at hcm
      rcases hcm with rfl | rfl | rfl | rfl | rfl | rfl <;> assumption
    have ok1 : ObjOk X.prog X.w (upd H s.heap.objs.size (.tup [x, y])) g s.heap.objs.size (.tup [x, y]) := ⟨by show 2 ≤ sizeLine; decide, [u, u2], .cons ru (.cons ru2 .nil), ⟨_, t.pair, rfl, _, rfl⟩⟩
    have I1 : Inv X pins σ (upd H s.heap.objs.size (.tup [x, y])) { s with heap := g } :=
      I.turnedNew (t' := s.toks) (ch := [e, z, TI, TO, i1, i2]) (fun c o hb q => t.keep c o (fun q' => hb (by simp [q'])) (fun q' => hb (by simp [q'])) (fun q' => hb (by simp [q'])) (fun q' => hb (by simp [q'])) q) hf (Nat.le_refl _) ok1
    have hf1 : ∀ c ∈ [e, z, TI, TO, i1, i2], FpOk X pins (upd H s.heap.objs.size (.tup [x, y])) c := fun c hcm => ⟨by rw [upd_ne (Nat.ne_of_lt (lt c hcm))]; exact (hf c hcm).1, (hf c hcm).2⟩
    have up : ∀ c o, c ≠ e → g.get? c = some o → h''.get? c = some o := fun c o n q => (sb.2 c n).trans (hk c o n q)
    have hT2 : h''.get? (s.heap.objs.size + 1) = some { cls := .type "tuple", data := .seq #[.int i tk, .ref s.heap.objs.size] } := (sb.2 _ (Nat.ne_of_gt (Nat.lt_succ_of_lt le))).trans hT
    have ok2 : ObjOk X.prog X.w (upd (upd H s.heap.objs.size (.tup [x, y])) (s.heap.objs.size + 1) (.tup [.int (i : Nat), .ref s.heap.objs.size])) h'' (s.heap.objs.size + 1) (.tup [.int (i : Nat), .ref s.heap.objs.size]) :=
      ⟨by show 2 ≤ sizeLine; decide, [.int i tk, .ref s.heap.objs.size], .cons ⟨_, rfl⟩ (.cons rfl .nil), ⟨_, hT2, rfl, _, rfl⟩⟩
    have I2 : Inv X pins σ (upd (upd H s.heap.objs.size (.tup [x, y])) (s.heap.objs.size + 1) (.tup [.int (i : Nat), .ref s.heap.objs.size])) { s with heap := h'', toks := tk + 1 } :=
      I1.turnedNew (t' := tk + 1) (ch := [e, z, TI, TO, i1, i2]) (fun c o hb q => up c o (fun q' => hb (by simp [q'])) q) hf1 (show g.objs.size ≤ s.heap.objs.size + 1 by rw [t.size]; exact Nat.le_refl _) ok2
    have c1 : ∀ l, SqL X.K H a l → l[i]? = some x := fun l hl => by rw [I.list_inj hl qx]; exact hx
    have c2 : ∀ l, SqL X.K H b l → l[i]? = some y := fun l hl => by rw [I.list_inj hl qy]; exact hy
    have f0 : H s.heap.objs.size = none := I.hok.fresh (Nat.le_refl _)
    have f1 : H (s.heap.objs.size + 1) = none := I.hok.fresh (Nat.le_add_right _ _)
    have f2 : upd H s.heap.objs.size (.tup [x, y]) (s.heap.objs.size + 1) = none := by
      rw [upd_ne (Nat.succ_ne_self _)]
      exact f1
    obtain ⟨v', f', hv', z'⟩ := t.zp
    obtain ⟨x1, y1, o'⟩ := t.out
    refine ⟨.ref (s.heap.objs.size + 1), _, I2, rfl, ⟨s.heap.objs.size, s.heap.objs.size + 1, x, y, rfl, f0, f2, rfl, c1, c2⟩, ⟨⟨.ref s.heap.objs.size, ?_⟩, ⟨v', f', hv', up _ _ ne.1.symm z'⟩, ?_, ⟨x1, y1, up _ _ ne.2.1.symm o'⟩, t.one.at fun o q => up _ _ ne.2.2.1.symm q, t.two.at fun o q => up _ _ ne.2.2.2.1.symm q⟩, fun c hcm => ?_⟩
    · have e1 : ((i + 1 : Nat) : Int) = (i : Int) + 1 := by omega
      rw [e1]
      exact he'
    · exact up _ _ ne.2.2.2.2.symm (t.keep _ _ D.TIz D.TITO D.TIi1 D.TIi2 hTI)
    · have l := lt c hcm
      rw [upd_ne (Nat.ne_of_lt (Nat.lt_succ_of_lt l)), upd_ne (Nat.ne_of_lt l)]
      exact (hf c hcm).1
  done := by
    intro X hP hw hK hc i pins s σ H E I hf st hg
    subst hP hw hK
    obtain ⟨⟨old, he⟩, ⟨v, f, hv, hz⟩, hTI, ⟨x0, y0, hTO⟩, h1, h2⟩ := st
    obtain ⟨xs, ys, qx, qy, hend⟩ := hg
    obtain ⟨js, rv, p, _⟩ := I.list qx
    obtain ⟨ks, rv2, p2, _⟩ := I.list qy
    have l1 := rv.length
    have l2 := rv2.length
    have hn : js.toArray[i]? = none ∨ ks.toArray[i]? = none := by
      rcases hend with q | q
      · exact .inl (by simp; omega)
      · exact .inr (by simp; omega)
    exact enext_end (I.ok.hd hc) D he hz hv hTI hTO h1 h2 p.isList p2.isList hn fun h' hk => ⟨rfl, I.turnedL (t' := s.toks) (ch := [e, z, TI, TO, i1, i2]) (fun c o hb q =>
      hk c o (fun q' => hb (by simp [q'])) (fun q' => hb (by simp [q'])) (fun q' => hb (by simp [q'])) (fun q' => hb (by simp [q'])) q) hf⟩
  self := fun A i s Q E st h => let ⟨⟨_, he⟩, _⟩ := st; wpAny_pyIter_enum he h
/-! enumerate of a zip -/
theorem meets_enum_zip (z TI TO : Addr) : Meets (Builtin.«enumerate.__new__» ⟨[.type "enumerate", .ref z], []⟩) (fun _ R s => IsZip s.heap z TI TO .none ∧
      R (.ok (.ret (.ref s.heap.objs.size))) { s with heap := s.heap.push { cls := .type "enumerate", data := .fields #[.none, .bool false, .ref z, rawInt 0, .none, .none] } }) :=
  .of_wp fun prog w A R s h => by
    obtain ⟨hp, g, d, tk, os⟩ := s
    obtain ⟨hz, h⟩ := h
    have hsub := sub_enumerate
    have hZ : IsZip (Shared.heap ⟨hp, g, d, tk, os⟩) z TI TO .none := hz
    wp_walk using wpAny_pyIter_zip hZ
    refine wpAny_stack_any fun st => wpAny_pure ?_
    split
    · rename_i c _ _ _ _ _
      cases (c == Value.type "enumerate")
      · wp_walk using wpAny_pyIter_zip hZ
        exact ⟨_, rfl, h⟩
      · wp_walk using wpAny_pyIter_zip hZ
        exact ⟨_, rfl, h⟩
    · wp_walk using wpAny_pyIter_zip hZ
      exact ⟨_, rfl, h⟩
end Dx

namespace Dx
open PySem PySem.Spec PyProof.Rows L2
section
variable {prog : Program} {w : World} {A : Around} {E : Value → Shared → Prop} {s : Shared} {z TI TO : Addr}
theorem call_enum_zip {Q : Value → Shared → Prop} (hz : IsZip s.heap z TI TO .none)
    (h : ∀ h', IsEnum h' s.heap.objs.size z 0 .none → (∀ b o, s.heap.get? b = some o → h'.get? b = some o) → Q (.ref s.heap.objs.size) { s with heap := h' }) : wpAny (model prog w) A (call (.type "enumerate") [.ref z]) Q E s := by
  refine callType_new F.called_enumerate (by decide) (F.typeCall_enumerate_1 _) (F.newCall_enumerate_1 _) (fun obj => F.args_object_init_2 obj _) F.entry_enumerate_new (meets_enum_zip z TI TO) ⟨hz, ?_⟩
  have he : IsEnum (s.heap.push { cls := .type "enumerate", data := .fields #[.none, .bool false, .ref z, rawInt 0, .none, .none] }) s.heap.objs.size z 0 .none := Heap.get?_push_size _ rfl
  exact ⟨⟨_, he, rfl⟩, h _ he fun b o x => Heap.get?_push_of_some _ x⟩
end
def iEZip (K : PySem.W.Frag) (ta : TA) : TI := fun σ H R => ta σ H fun vs H1 => ∃ a b xs ys, vs = [.ref a, .ref b] ∧ SqL K H1 a xs ∧ SqL K H1 b ys ∧ R (Itez K a b) H1
theorem pi_ez {X : Cx} {e e2 : Expr} {ta : TA} {p p0 pos pos0 tpos : Pos} {elts : List Expr} {kk : Nat} (hg : Gl X "zip") (hm : X.mg "zip" = none) (hg2 : Gl X "enumerate") (hm2 : X.mg "enumerate" = none) (ha : PA X [e, e2] ta)
    (hs : starEach [e, e2] X.env = (false, eval e X.env) :: starEach [e2] X.env := by rfl) (hpl : (backTo pos (starEach [e2] X.env)).any (·.1) = false := by rfl)
    (hs0 : starEach [Expr.Call (.Name "zip" p) [e, e2] [] pos] X.env = [(false, eval (Expr.Call (.Name "zip" p) [e, e2] [] pos) X.env)] := by rfl) :
    PI X (.Tuple elts kk tpos) (.Call (.Name "enumerate" p0) [.Call (.Name "zip" p) [e, e2] [] pos] [] pos0) (iEZip X.K ta) := by
  refine ⟨fun pins s σ H R I h => ?_⟩
  refine Call_ (ld_blt I hg2 hm2 boot_enumerate (PyProof.Rows.callWith_type1 (args_cons ?_ hs0) hs0 rfl))
  refine Call_ (ld_blt I hg hm PyProof.Rows.boot_zip (PyProof.Rows.callWith_type1 (thn (ha.run pos pins s σ H _ I h) fun us s1 ⟨vs, H1, I1, r1, q1⟩ => ?_) hs hpl))
  obtain ⟨a, b, xs, ys, ex, hqx, hqy, q⟩ := q1
  subst ex
  cases r1 with
  | cons r rr =>
    cases rr with
    | cons r' rr =>
      cases rr
      cases r
      cases r'
      obtain ⟨its, rv, p1, _⟩ := I1.list hqx
      obtain ⟨its2, rv2, p2, _⟩ := I1.list hqy
      have la : a < s1.heap.objs.size := p1.lt
      have lb : b < s1.heap.objs.size := p2.lt
      refine call_zip_2 p1.isList p2.isList fun g hz hTI hTO h1 h2 hsz hk => args_nil ?_
      refine call_enum_zip (s := { s1 with heap := g }) hz fun h' he hk2 => wpAny_pyIter_enum he ?_
      have I2 : Inv X pins σ H1 { s1 with heap := h' } := I1.kept (t' := s1.toks) fun b o e => hk2 b o (hk b o e)
      have se : ({ s1 with heap := g } : Shared).heap.objs.size = s1.heap.objs.size + 5 := hsz
      rw [se] at he ⊢
      refine ⟨s1.heap.objs.size + 5, [s1.heap.objs.size + 5, s1.heap.objs.size + 4, s1.heap.objs.size + 2, s1.heap.objs.size + 3, s1.heap.objs.size, s1.heap.objs.size + 1], _, _, H1, rfl, I2,
        turn_ez (PySem.W.ktu_apart s1.heap.objs.size a b la lb) ⟨by simp, by simp, by simp, by simp, by simp⟩, ⟨⟨_, he⟩, ⟨_, _, .inl rfl, hk2 _ _ hz⟩, hk2 _ _ hTI, ⟨_, _, hk2 _ _ hTO⟩, h1.at fun o q => hk2 _ _ q, h2.at fun o q => hk2 _ _ q⟩, fun c hcm => ?_, q⟩
      have hle : s1.heap.objs.size ≤ c := by
        simp only [List.mem_cons, List.not_mem_nil, or_false] at hcm
        rcases hcm with rfl | rfl | rfl | rfl | rfl | rfl
        · exact Nat.le_add_right _ _
        · exact Nat.le_add_right _ _
        · exact Nat.le_add_right _ _
        · exact Nat.le_add_right _ _
        · exact Nat.le_refl _
        · exact Nat.le_add_right _ _
      exact I1.fpOk hle (I1.hok.fresh hle)
section
variable {X : Cx} {k : Kn} {W : WX} {a b d tg e : Expr} {pos p : Pos}
theorem items_ez {F : Hp} {p q : Addr} {xs ys : List V} {ds es : List PyData} (h : SqL k.K F p xs) (hd : DpAll k.K F xs ds) (h' : SqL k.K F q ys) (hd' : DpAll k.K F ys es) : Items k F (Itez k.K p q) (enumL 0 (zipL ds es)) := fun c F1 H1 r σ e s i => by
  have hq : SqL k.K H1 p xs := s.fh.seq (e.seq h)
  have hq' : SqL k.K H1 q ys := s.fh.seq (e.seq h')
  refine ⟨fun d hd1 => ?_, fun hi => ⟨xs, ys, hq, hq', ?_⟩⟩
  · have hi : i < (zipL ds es).length := by
      have := (List.getElem?_eq_some_iff.mp hd1).1
      rw [enum_len] at this
      exact this
    have hx0 := List.getElem?_eq_getElem hi
    rw [enum_get (zipL ds es) 0 i _ hx0] at hd1
    cases hd1
    obtain ⟨x, y, hx, hy, ee⟩ := zip_get ds es i _ hx0
    rw [ee]
    obtain ⟨v, hv, dv⟩ := DpAll.get hd hx
    obtain ⟨u, hu, du⟩ := DpAll.get hd' hy
    refine ⟨⟨xs, ys, v, u, hq, hq', hv, hu⟩, fun z H' ⟨T, U, z1, z2, e1, nT, nU, e2, hz1, hz2⟩ => ?_⟩
    have e3 := Option.some.inj ((hz1 xs hq).symm.trans hv)
    have e4 := Option.some.inj ((hz2 ys hq').symm.trans hu)
    rw [← e3] at dv
    rw [← e4] at du
    subst e1 e2
    have e5 : (((0 + i : Nat)) : Int) = (i : Int) := by omega
    rw [e5]
    have s1 := s.alloc (o := .tup [z1, z2]) nT
    have g1 := same_new (o := .tup [z1, z2]) (s.nF nT)
    have g2 := same_new (o := .tup [.int (i : Nat), .ref T]) (s1.nF nU)
    have d1 : Dp k.K (upd F1 T (.tup [z1, z2])) (.ref T) (.tuple [x, y]) := Dp.tup (SqT.of upd_same) (DpAll.cons (Dp.up g1 _ _ (Dp.up e _ _ dv)) (DpAll.one (Dp.up g1 _ _ (Dp.up e _ _ du))))
    exact ⟨upd (upd F1 T (.tup [z1, z2])) U (.tup [.int (i : Nat), .ref T]), g1.trans g2, s1.alloc nU, Dp.tup (SqT.of upd_same) (DpAll.cons (Dp.int _) (DpAll.one (Dp.up g2 _ _ d1)))⟩
  · rw [enum_len, zip_len] at hi
    rw [DpAll.len hd, DpAll.len hd']
    omega
def ez1 : List PyData → Option (List PyData)
  | [.list xs, .list ys] => some (enumL 0 (zipL xs ys))
  | _ => none
theorem ez1_inv {ds zs : List PyData} (h : ez1 ds = some zs) : ∃ xs ys, ds = [.list xs, .list ys] ∧ zs = enumL 0 (zipL xs ys) := by
  unfold ez1 at h
  split at h
  · cases h
    exact ⟨_, _, rfl, rfl⟩
  · cases h
def mEZ (m : M (List PyData)) : M (List PyData) := mbind m fun ds => mopt (ez1 ds)
theorem iEZ {m : M (List PyData)} {p p0 pos0 tpos : Pos} {elts : List Expr} {kk : Nat} (hg : Gl X "zip") (hm : X.mg "zip" = none) (hg2 : Gl X "enumerate") (hm2 : X.mg "enumerate" = none) (ha : PA X [a, b] (rL k W m)) (hK : X.K = k.K := by rfl)
    (hs : starEach [a, b] X.env = (false, eval a X.env) :: starEach [b] X.env := by rfl) (hpl : (backTo pos (starEach [b] X.env)).any (·.1) = false := by rfl)
    (hs0 : starEach [Expr.Call (.Name "zip" p) [a, b] [] pos] X.env = [(false, eval (Expr.Call (.Name "zip" p) [a, b] [] pos) X.env)] := by rfl) :
    PI X (.Tuple elts kk tpos) (.Call (.Name "enumerate" p0) [.Call (.Name "zip" p) [a, b] [] pos] [] pos0) (rI k W (mEZ m)) :=
  pi_imp (pi_ez hg hm hg2 hm2 ha hs hpl hs0) fun σ H R q => by
    obtain ⟨c, F, r, s, q⟩ := q
    refine ⟨c, F, r, s, (Run.bind q).imp fun ds r1 F1 H1 e1 _ ⟨s1, _, q1⟩ ys dy => ?_⟩
    obtain ⟨zs, hz, kk⟩ := Run.opt q1
    obtain ⟨xs, us, rfl, rfl⟩ := ez1_inv hz
    obtain ⟨y, y', rfl, d1, d2⟩ := dpAll2 dy
    obtain ⟨p, vs, rfl, p1, p2⟩ := dp_lst d1
    obtain ⟨p', ws, rfl, p3, p4⟩ := dp_lst d2
    rw [hK]
    exact ⟨p, p', vs, ws, rfl, s1.fh.seq p1, s1.fh.seq p3, kk F1 H1 (Same.refl F1) s1 _ (items_ez p1 p2 p3 p4)⟩
end
end Dx

/-! name += e, list[i] += e -/
namespace Dx
open PySem PySem.Spec PyProof.Rows L2
theorem get_list {X : Cx} : PGet X (rIxL X.K) := by
  intro pins s σ H o i ov iv Q I ro ri h
  obtain ⟨p, xs, k, z, rfl, rfl, hq, he, q⟩ := h
  cases ro
  obtain ⟨t, rfl⟩ := ri
  obtain ⟨its, r, pl, hz⟩ := I.list hq
  obtain ⟨j, h1, h2, h3, h4, h5⟩ := atI_get he
  obtain ⟨u, eu, ru⟩ := r.get h2
  have hl := r.length
  have hn := line63
  by_cases h0 : 0 ≤ k
  · have hj : k.toNat = j := by
      rw [seqIndex_of h0 h5] at h1
      exact Option.some.inj h1
    exact wpAny_getItem_list pl.isList h0 (by omega) (by rw [hj]; simpa using eu) ⟨z, H, I, ru, q⟩
  · have hj : (k + (its.toArray.size : Int)).toNat = j := by
      rw [seqIndex_neg (by omega) h4] at h1
      rw [List.size_toArray, ← hl]
      exact Option.some.inj h1
    exact wpAny_getItem_list_neg pl.isList (by omega) (by rw [List.size_toArray] <;> omega) (by omega) (by rw [hj]; simpa using eu) ⟨z, H, I, ru, q⟩
section
variable {X : Cx} {k : Kn} {W : WX} {a b e : Expr} {pos p : Pos} {x : Str}
def addTo (i : Nat) (u : Int) : PyData → S := fun d r => match d with
  | .int v => if i < r.length then .nx (r.set i (.v (.int (u + v)))) else .no
  | _ => .no
/-- name += e, of whole numbers -/
def sAug (i : Nat) (m : M PyData) : S := fun r => match r[i]? with
  | some (.v (.int u)) => sBind m (addTo i u) r
  | _ => .no
theorem sAugD {i : Nat} {m : M PyData} {pos' : Pos} (hN : X.N.Nodup) (hi : X.N[i]? = some x) (hx : Loc X.env.scope x) (he : PE X e (rD k W m)) (hf : X.fn x = true ∨ X.env.scope.names.lookup x = some .local := by first | exact .inl rfl | exact .inr rfl | assumption) :
    PS X (.AugAssign (.Name x pos') .Add e pos) (rS k W (sAug i m)) := ps_imp (ps_aug hN hi hx he ip_add hf) fun D σ H q => by
  obtain ⟨c, F, r, s, q⟩ := q
  have q1 : SRun k c W F (match r[i]? with
    | some (.v (.int u)) => sBind m (addTo i u) r
    | _ => .no) D := q
  cases hc : r[i]? with
  | none =>
    rw [hc] at q1
    exact q1.elim
  | some y =>
    rw [hc] at q1
    cases y with
    | u => exact q1.elim
    | p _ => exact q1.elim
    | o _ => exact q1.elim
    | io _ _ => exact q1.elim
    | v d =>
      cases d with
      | int u =>
        obtain ⟨z, hz, ok⟩ := s.slot hc
        obtain ⟨v, rfl, dv⟩ := ok
        have ev := dp_int dv
        subst ev
        refine ⟨_, hz, c, F, r, s, (SRun.bind q1).imp fun d r1 F1 H1 e1 _ ⟨s1, _, q2⟩ y dy => ?_⟩
        unfold addTo at q2
        cases d with
        | int w =>
          have ew := dp_int dy
          subst ew
          by_cases hl : i < r1.length
          · have q3 : SRun k c W F1 (if i < r1.length then SR.nx (r1.set i (.v (.int (u + w)))) else .no) D := q2
            rw [if_pos hl] at q3
            exact ⟨u, w, rfl, rfl, q3 F1 H1 _ (Same.refl F1) (s1.put hl (Dp.int _))⟩
          · have q3 : SRun k c W F1 (if i < r1.length then SR.nx (r1.set i (.v (.int (u + w)))) else .no) D := q2
            rw [if_neg hl] at q3
            exact q3.elim
        | none => exact q2.elim
        | str _ => exact q2.elim
        | list _ => exact q2.elim
        | tuple _ => exact q2.elim
        | bool _ => exact q2.elim
        | dict _ => exact q2.elim
      | none => exact q1.elim
      | str _ => exact q1.elim
      | list _ => exact q1.elim
      | tuple _ => exact q1.elim
      | bool _ => exact q1.elim
      | dict _ => exact q1.elim
def numAt (e : PyData) (o : Option Cell) : Option (Int × Int) := match e, o with
  | .int j, some x => (ownL x).bind fun ds => match atI ds j with
    | some (.int u) => some (j, u)
    | _ => none
  | _, _ => none
theorem numAt_inv {e : PyData} {o : Option Cell} {j u : Int} (h : numAt e o = some (j, u)) : ∃ x ds, e = .int j ∧ o = some x ∧ ownL x = some ds ∧ atI ds j = some (.int u) := by
  unfold numAt at h
  split at h
  · rename_i j' x
    cases ho : ownL x with
    | none =>
      rw [ho] at h
      cases h
    | some ds =>
      rw [ho] at h
      have h2 : (match atI ds j' with
        | some (.int u) => some (j', u)
        | _ => none) = some (j, u) := h
      split at h2
      · rename_i u' e
        cases h2
        exact ⟨x, ds, rfl, rfl, ho, e⟩
      · cases h2
  · cases h
def addAt (i : Nat) (j u : Int) : PyData → S := fun d r => match d with
  | .int v => match setOwn (.int j) (.int (u + v)) r[i]? with
    | some x => .nx (r.set i x)
    | none => .no
  | _ => .no
/-- o[n] += e at the owned list at slot i -/
def sAugIx (i : Nat) (n m : M PyData) : S := sBind (mHas i n) fun e => fun r => match numAt e r[i]? with
  | some (j, u) => sBind m (addAt i j u) r
  | none => .no
theorem sAugIxD {i : Nat} {n m : M PyData} {tpos : Pos} (ha : PE X a (tVar i)) (hb : PE X b (rD k W n)) (he : PE X e (rD k W m)) (hK : X.K = k.K := by rfl)
    (hs : ∀ ov iv new, augStore b ov iv new = (do holding [new, ov, iv] (setItem ov iv new); release [new, ov, iv] []; pure .next) := by intros; rfl) : PS X (.AugAssign (.Subscript a b tpos) .Add e pos) (rS k W (sAugIx i n m)) :=
  ps_imp (ps_augS ha hb get_list he ip_add set_list hs) fun D σ H q => by
    obtain ⟨c, F, r, s, q⟩ := q
    obtain ⟨p, hy, q0⟩ := has_inv s (SRun.bind q)
    refine ⟨.ref p, hy, c, F, r, s, q0.imp fun e r1 F1 H1 e1 _ ⟨s1, _, q1⟩ z dz => ?_⟩
    have q2 : SRun k c W F1 (match numAt e r1[i]? with
      | some (j, u) => sBind m (addAt i j u) r1
      | none => .no) D := q1
    cases hn : numAt e r1[i]? with
    | none =>
      rw [hn] at q2
      exact q2.elim
    | some ju =>
      obtain ⟨j, u⟩ := ju
      rw [hn] at q2
      obtain ⟨x0, ds, rfl, hx, ho, hj⟩ := numAt_inv hn
      obtain ⟨vs, _, hH, dd⟩ := own_at s1 hx ho hy
      obtain ⟨v, hv, dv⟩ := dpAll_at dd hj
      have ev := dp_int dv
      subst ev
      refine ⟨p, vs, j, _, rfl, dp_int dz, hK ▸ SqL.of hH, hv, c, F1, r1, s1, (SRun.bind q2).imp fun d r2 F2 H2 e2 _ ⟨s2, _, q3⟩ y dy => ?_⟩
      unfold addAt at q3
      cases d with
      | int w =>
        have ew := dp_int dy
        subst ew
        refine ⟨u, w, rfl, rfl, ?_⟩
        have q4 : SRun k c W F2 (match setOwn (.int j) (.int (u + w)) r2[i]? with
          | some x => .nx (r2.set i x)
          | none => .no) D := q3
        cases h3 : setOwn (.int j) (.int (u + w)) r2[i]? with
        | none =>
          rw [h3] at q4
          exact q4.elim
        | some x' =>
          rw [h3] at q4
          obtain ⟨j', x2, ds2, kk, ej, hx2, hl2, hn2, rfl⟩ := setOwn_inv h3
          cases ej
          obtain ⟨vs2, _, hH2, dd2⟩ := own_at s2 hx2 hl2 hy
          obtain ⟨ok, w', w0⟩ := setL_ok (s2.cell i x2 _ hx2 hy) hl2 (DpAll.set (v := .int (u + w)) (Dp.int _) kk dd2)
          exact ⟨p, vs2, j, kk, rfl, dp_int (Dp.up e2 _ _ dz), hH2, by rw [DpAll.len dd2]; exact hn2, q4 F2 _ σ (Same.refl F2) (s2.write hx2 hy w0 w' ok)⟩
      | none => exact q3.elim
      | str _ => exact q3.elim
      | list _ => exact q3.elim
      | tuple _ => exact q3.elim
      | bool _ => exact q3.elim
      | dict _ => exact q3.elim
end
end Dx

/-! min of a list of pairs; a, b = x, y where one of the names is a cell -/
namespace Dx
open PySem PySem.Spec PyProof.Rows L2
def ltP (y a : Int × Int) : Bool := decide (y.1 < a.1 ∨ (y.1 = a.1 ∧ y.2 < a.2))
abbrev prI (z : Int × Int) : PyData := .tuple [.int z.1, .int z.2]
theorem dataLt_pair (y a : Int × Int) : PySem.W.dataLt (prI y) (prI a) = ltP y a := by
  obtain ⟨y1, y2⟩ := y
  obtain ⟨a1, a2⟩ := a
  have i1 : ∀ b c : Int, itemOrd.blt (Sum.inl b) (Sum.inl c) = decide (b < c) := fun _ _ => rfl
  show PyProof.Rows.lexLt itemOrd [.inl 1, .inl y1, .inl 1, .inl y2, .inl 0] [.inl 1, .inl a1, .inl 1, .inl a2, .inl 0] = _
  rw [lex_self, lex_cons, lex_self, lex_cons, lex_self]
  have z : PyProof.Rows.lexLt itemOrd [] [] = false := rfl
  rw [z]
  simp only [i1, ltP]
  rw [Bool.eq_iff_iff]
  simp only [Bool.or_eq_true, Bool.and_eq_true, Bool.not_eq_true', decide_eq_true_eq, decide_eq_false_iff_not, Bool.false_eq_true, and_false, or_false]
  have i2 : ∀ b c : Int, itemLt (Sum.inl b) (Sum.inl c) = decide (b < c) := fun _ _ => rfl
  rw [i2, i2, i2]
  simp only [decide_eq_true_eq, decide_eq_false_iff_not]
  omega
def minP (z : Int × Int) (zs : List (Int × Int)) : Int × Int := zs.foldl (fun a y => if ltP y a then y else a) z
theorem minD_pairs (z : Int × Int) (zs : List (Int × Int)) : PySem.W.minD (prI z) (zs.map prI) = prI (minP z zs) := by
  unfold PySem.W.minD minP
  induction zs generalizing z with
  | nil => rfl
  | cons y zs ih =>
    rw [List.map_cons, List.foldl_cons, List.foldl_cons, ← ih, dataLt_pair]
    cases ltP y z <;> rfl
theorem alike_pairs (zs : List (Int × Int)) : PySem.W.AlikeAll (zs.map prI) := by
  refine ⟨fun x hx y hy => ?_, fun x hx => ?_⟩
  · rw [List.mem_map] at hx hy
    obtain ⟨a, _, rfl⟩ := hx
    obtain ⟨b, _, rfl⟩ := hy
    rfl
  · rw [List.mem_map] at hx
    obtain ⟨a, _, rfl⟩ := hx
    exact fun h => by cases h
theorem depth_pairs : ∀ zs : List (Int × Int), PyData.depthAll (zs.map prI) ≤ 2
  | [] => by simp [PyData.depthAll]
  | z :: zs => by
    have := depth_pairs zs
    simp only [List.map_cons, PyData.depthAll, PyData.depth]
    omega
def pairsOf : List PyData → Option (List (Int × Int))
  | [] => some []
  | .tuple [.int a, .int b] :: ds => (pairsOf ds).map fun zs => (a, b) :: zs
  | _ :: _ => none
theorem pairsOf_eq : ∀ {ds : List PyData} {zs : List (Int × Int)}, pairsOf ds = some zs → ds = zs.map prI := fun {ds} => by
  induction ds with
  | nil =>
    intro zs h
    cases h
    rfl
  | cons d ds ih =>
    intro zs h
    unfold pairsOf at h
    split at h
    · rename_i e
      cases e
    · rename_i a b ds' e
      cases e
      cases q : pairsOf ds with
      | none =>
        rw [q] at h
        cases h
      | some ys =>
        rw [q] at h
        cases h
        rw [ih q]
        rfl
    · cases h
theorem pairsOf_map (zs : List (Int × Int)) : pairsOf (zs.map prI) = some zs := by
  induction zs with
  | nil => rfl
  | cons z zs ih =>
    show (pairsOf (zs.map prI)).map _ = _
    rw [ih]
    rfl
section
variable {X : Cx} {k : Kn} {W : WX} {a b d tg e : Expr} {pos p : Pos} {es : List Expr} {x : Str}
def fMinP : List PyData → Option PyData
  | [.list ds] => match pairsOf ds with
    | some (z :: zs) => some (prI (minP z zs))
    | _ => none
  | _ => none
theorem fMinP_inv {ds : List PyData} {y : PyData} (h : fMinP ds = some y) : ∃ z zs, ds = [.list ((z :: zs).map prI)] ∧ y = prI (minP z zs) := by
  unfold fMinP at h
  split at h
  · rename_i es
    split at h
    · rename_i z zs q
      cases h
      exact ⟨z, zs, by rw [pairsOf_eq q], rfl⟩
    · cases h
  · cases h
theorem call_minP (hc : X.calm = true) (hu : X.A.units + 66 < cLine) : CallR X (.builtin "min") (fun xs H Q => ∃ p vs z zs, xs = [.ref p] ∧ SqL X.K H p vs ∧ DpAll X.K H vs ((z :: zs).map prI) ∧ ∀ (i : Nat) v, vs[i]? = some v → ((z :: zs).map prI)[i]? = some (prI (minP z zs)) → Q v H) := by
  intro pins s σ H xs us Q I r h
  obtain ⟨p, vs, z, zs, rfl, hs, hd, q⟩ := h
  obtain ⟨its, rv, hl, _⟩ := I.list hs
  rw [Vals.ref1 r]
  obtain ⟨as, ra⟩ := Dp.readsAll I _ vs its hd rv
  have ra' : ReadsAll s.heap its.toArray.toList (prI z :: zs.map prI) as := by simpa using ra
  refine PySem.W.min_list_data (I.ok.hd hc) hl.isList ra' (alike_pairs (z :: zs)) (by have := depth_pairs (z :: zs); simp only [List.map_cons] at this; omega) fun i u h' tk bs hi hr hk => ?_
  have hi' : its[i]? = some u := by simpa using hi
  obtain ⟨v, hv, rvu⟩ : ∃ v, vs[i]? = some v ∧ RelV v u := by
    have hl1 := rv.length
    have hlt : i < its.length := (List.getElem?_eq_some_iff.mp hi').1
    obtain ⟨u', e1, e2⟩ := rv.get (List.getElem?_eq_getElem (by omega : i < vs.length))
    rw [hi'] at e1
    cases e1
    exact ⟨_, List.getElem?_eq_getElem (by omega), e2⟩
  obtain ⟨dd, hdd, dv⟩ := DpAll.getV hd hv
  obtain ⟨cs, rr⟩ := Dp.reads I dd v u dv rvu
  obtain ⟨e1, _⟩ := reads_det (fun b o e _ => hk b o e) rr hr
  rw [minD_pairs] at e1
  subst e1
  exact ⟨v, H, I.kept hk, rvu, q i v hv hdd⟩
theorem bMinP (hc : X.calm = true) (hu : X.A.units + 66 < cLine) (hK : X.K = k.K := by rfl) : BtD X k (.builtin "min") fMinP := ⟨_, hK ▸ call_minP hc hu, fun c F H r σ xs ds y Q s dx hz kk => by
  obtain ⟨z, zs, rfl, rfl⟩ := fMinP_inv hz
  obtain ⟨w, rfl, d1⟩ := dpAll1 dx
  obtain ⟨p, vs, rfl, p1, p2⟩ := dp_lst d1
  refine ⟨p, vs, z, zs, rfl, s.fh.seq p1, DpAll.up s.fh _ _ p2, fun i v hv hi => ?_⟩
  obtain ⟨dd, hdd, dv⟩ := DpAll.getV p2 hv
  rw [hi] at hdd
  cases hdd
  exact kk F H _ (Same.refl F) s dv⟩
theorem sParC_od {i j : Nat} {y : Str} {m : M (List PyData)} {n : M PyData} {px py pt : Pos} {kt k2 pt2} (hc : X.calm = true) (hN : X.N.Nodup) (hi : X.N[i]? = some x) (hj : X.N[j]? = some y) (hij : i ≠ j) (hx : Loc X.env.scope x) (hy : Loc X.env.scope y)
    (ha : PE X a (rO k W m)) (hb : PE X b (rD k W n)) (hK : X.K = k.K := by rfl) (hw : swappedStores [.Tuple [.Name x px, .Name y py] kt pt] (.Tuple [a, b] k2 pt2) X.env = pure none := by rfl)
    (hs : swapsWithSole [.Tuple [.Name x px, .Name y py] kt pt] (.Tuple [a, b] k2 pt2) pos.line X.env = pure false := by rfl) (h0 : (assignEach [Expr.Tuple [.Name x px, .Name y py] kt pt] X.env).map (·.2) = [assign (.Tuple [.Name x px, .Name y py] kt pt) X.env] := by rfl)
    (h1 : starEach [a, b] X.env = (false, eval a X.env) :: starEach [b] X.env := by rfl) (h2 : starEach [b] X.env = (false, eval b X.env) :: starEach [] X.env := by rfl)
    (hn : (assignEach [Expr.Name x px, .Name y py] X.env).length = 2 := by rfl) (hst : (assignEach [Expr.Name x px, .Name y py] X.env).findIdx? (·.1) = none := by rfl)
    (hfx : X.fn x = true ∨ X.env.scope.names.lookup x = some .local := by first | exact .inl rfl | exact .inr rfl | assumption) (hfy : X.fn y = true ∨ X.env.scope.names.lookup y = some .local := by first | exact .inl rfl | exact .inr rfl | assumption)
    (g1 : (assignEach [Expr.Name x px, .Name y py] X.env).map (·.2) = assign (.Name x px) X.env :: (assignEach [Expr.Name y py] X.env).map (·.2) := by rfl) (g2 : (assignEach [Expr.Name y py] X.env).map (·.2) = assign (.Name y py) X.env :: (assignEach [] X.env).map (·.2) := by rfl) :
    PS X (.Assign [.Tuple [.Name x px, .Name y py] kt pt] (.Tuple [a, b] k2 pt2) pos) (rS k W (sParOD i j m n)) :=
  ps_imp (ps_asg (pe_tup (pa_cons ha (pa_cons hb pa_nil h2) h1)) (pg_tup hc (pgs_cons (pg_name hN hi hx hfx) (pgs_cons (pg_name hN hj hy hfy) pgs_nil g2) g1) hn hst) hs hw h0) fun D σ H q => by
  obtain ⟨c, F, r, s, q⟩ := q
  refine ⟨c, F, r, s, (SRun.bind q).imp fun ds r1 F1 H1 e1 _ ⟨s1, _, q1⟩ l vs f => ?_⟩
  refine ⟨_, F1, r1, s1.hold f, (Run.under s1 f (Same.refl F1) (SRun.bind q1)).imp fun e r2 F2 H2 e2 _ ⟨s2, f2, _, _, q2⟩ u du => ?_⟩
  refine ⟨by show 2 ≤ sizeLine; decide, fun T hT => ⟨T, [.ref l, u], rfl, SqT.of upd_same, rfl, .ref l, [u], rfl, u, [], rfl, rfl, ?_⟩⟩
  have nl : l ≠ T := fun z => by
    have h3 := f2.2.2.1
    rw [z, hT] at h3
    cases h3
  have f3 : Fresh k c F2 (upd H2 T (.tup [.ref l, u])) r2 σ l vs ds := ⟨f2.1, f2.2.1, by rw [upd_ne nl]; exact f2.2.2.1, f2.2.2.2.1, f2.2.2.2.2⟩
  by_cases hl : i < r2.length ∧ j < r2.length
  · rw [if_pos hl] at q2
    exact q2 F2 _ _ (Same.refl F2) (((s2.fresh hT).putO hl.1 f3).put (by rw [List.length_set]; exact hl.2) du)
  · rw [if_neg hl] at q2
    exact q2.elim
/-- o[n] as a target, o the owned list at slot i -/
def gIx (i : Nat) (n : M PyData) : G1 := fun d r => match mHas i n r with
  | .ok e r1 => (match setOwn e d r1[i]? with
    | some x => .ok () (r1.set i x)
    | none => .no)
  | _ => .no
theorem gIx_d {i : Nat} {n : M PyData} (hg : PG X tg (gSub (tVar i) (rD k W n) rSetL)) : PG X tg (rG k [] (gIx i n)) := pg_imp hg fun v σ H Q q => by
  obtain ⟨c, F, r, d, s, dv, q⟩ := q
  unfold gIx at q
  cases hm : mHas i n r with
  | ex x r1 =>
    rw [hm] at q
    exact q.elim
  | no =>
    rw [hm] at q
    exact q.elim
  | ok e r1 =>
    rw [hm] at q
    have q0 : GRun k c F σ [] (match setOwn e d r1[i]? with
      | some x => .ok () (r1.set i x)
      | none => .no) Q := q
    have h0 : Run k c W σ F (mHas i n r) fun a r' F' H' => a = e ∧ r' = r1 := by
      rw [hm]
      exact fun F' H' _ _ => ⟨rfl, rfl⟩
    obtain ⟨p, hy, h1⟩ := has_inv s h0
    refine ⟨.ref p, hy, c, F, r, s, h1.imp fun e' r2 F2 H2 e2 s2 q2 z dz => ?_⟩
    obtain ⟨rfl, rfl⟩ := q2
    have q3 := GRun.up q0 e2
    cases ho : setOwn e' d r2[i]? with
    | none =>
      rw [ho] at q3
      exact q3.elim
    | some x' =>
      rw [ho] at q3
      obtain ⟨j, x0, ds, nn, rfl, hx, hl, hn, rfl⟩ := setOwn_inv ho
      obtain ⟨vs, _, hH, dd⟩ := own_at s2 hx hl hy
      obtain ⟨ok, w', w⟩ := setL_ok (s2.cell i x0 _ hx hy) hl (DpAll.set (Dp.up e2 _ _ dv) nn dd)
      exact ⟨p, vs, j, nn, rfl, dp_int dz, hH, by rw [DpAll.len dd]; exact hn, q3 F2 _ σ (Keep.refl _ _) (Same.refl F2) (s2.write hx hy w w' ok)⟩
end
end Dx

/-! divmod; a star in a display; sorted whole numbers -/
namespace Dx
open PySem PySem.Spec PyProof.Rows L2
section
variable {X : Cx} {k : Kn}
def fDivmod : List PyData → Option PyData
  | [.int i, .int j] => if 0 < j ∧ j < 1073741824 then some (.tuple [.int (i / j), .int (i % j)]) else none
  | _ => none
theorem fDivmod_inv {ds : List PyData} {z : PyData} (h : fDivmod ds = some z) : ∃ i j : Int, ds = [.int i, .int j] ∧ (0 < j ∧ j < 1073741824) ∧ z = .tuple [.int (i / j), .int (i % j)] := by
  unfold fDivmod at h
  split at h
  · rename_i i j
    split at h
    · rename_i c
      cases h
      exact ⟨i, j, rfl, c, rfl⟩
    · cases h
  · cases h
theorem bDivmod : BtD X k (.builtin "divmod") fDivmod := ⟨_, call_divmod, fun c F H r σ xs ds z Q s dx hz kk => by
  obtain ⟨i, j, rfl, hc, rfl⟩ := fDivmod_inv hz
  obtain ⟨y, w, rfl, d1, d2⟩ := dpAll2 dx
  refine ⟨i, j, by rw [dp_int d1, dp_int d2], hc, fun p np => ?_⟩
  exact kk _ _ _ (same_new (s.nF np)) (s.alloc np) (Dp.tup (SqT.of upd_same) (DpAll.cons (Dp.int _) (DpAll.one (Dp.int _))))⟩
variable {W : WX} {e : Expr} {es : List Expr} {p : Pos}
def mStar (m : M PyData) (ms : M (List PyData)) : M (List PyData) := mbind m fun d => match d with
  | .list ds => mbind ms fun xs => mpure (ds ++ xs)
  | .tuple ds => mbind ms fun xs => mpure (ds ++ xs)
  | _ => mno
theorem lStar {m : M PyData} {ms : M (List PyData)} (ha : PE X e (rD k W m)) (hr : PA X es (rL k W ms)) (hK : X.K = k.K := by rfl) (hs : starEach (.Starred e p :: es) X.env = (true, eval e X.env) :: starEach es X.env := by rfl) : PA X (.Starred e p :: es) (rL k W (mStar m ms)) :=
  pa_imp (StX.pa_star ha hr hs) fun σ H Q q => by
    obtain ⟨c, F, r, s, q⟩ := q
    refine ⟨c, F, r, s, (Run.bind q).imp fun d r1 F1 H1 e1 _ ⟨s1, _, q1⟩ x dx => ?_⟩
    cases d with
    | list ds =>
      obtain ⟨a, vs, rfl, p1, p2⟩ := dp_lst dx
      refine ⟨a, vs, rfl, .inr (hK ▸ s1.fh.seq p1), c, F1, r1, s1, (Run.bind q1).imp fun xs r2 F2 H2 e2 _ ⟨s2, _, q2⟩ ys dy => ?_⟩
      exact q2 F2 H2 (Same.refl F2) s2 _ (DpAll.append (DpAll.up e2 _ _ p2) dy)
    | tuple ds =>
      obtain ⟨a, vs, rfl, p1, p2⟩ := dp_tup dx
      refine ⟨a, vs, rfl, .inl (hK ▸ sameT s1.fh p1), c, F1, r1, s1, (Run.bind q1).imp fun xs r2 F2 H2 e2 _ ⟨s2, _, q2⟩ ys dy => ?_⟩
      exact q2 F2 H2 (Same.refl F2) s2 _ (DpAll.append (DpAll.up e2 _ _ p2) dy)
    | none => exact q1.elim
    | bool b => exact q1.elim
    | int i => exact q1.elim
    | str t => exact q1.elim
    | dict t => exact q1.elim
def sortI (ns : List Int) : List Int := ns.mergeSort fun a b => decide (a ≤ b)
theorem sortI_perm (ns : List Int) : (sortI ns).Perm ns := List.mergeSort_perm _ _
theorem sortI_up (ns : List Int) : (sortI ns).Pairwise (· ≤ ·) := by
  have h := List.pairwise_mergeSort (le := fun a b : Int => decide (a ≤ b)) (fun a b c h1 h2 => by
    have h1' := of_decide_eq_true h1
    have h2' := of_decide_eq_true h2
    exact decide_eq_true (by omega)) (fun a b => by
    by_cases q : a ≤ b
    · simp [q]
    · have : b ≤ a := by omega
      simp [this]) ns
  exact h.imp fun h => of_decide_eq_true h
theorem sortI_eq {ns ms : List Int} (hp : ms.Perm ns) (hs : ms.Pairwise (· ≤ ·)) : ms = sortI ns :=
  List.Perm.eq_of_pairwise (fun a b _ _ h1 h2 => by omega) hs (sortI_up ns) (hp.trans (sortI_perm ns).symm)
/-- sorted(xs) of whole numbers: a list of its own -/
def mSorted (m : M PyData) : M (List PyData) := mbind m fun d => match d with
  | .list ds => (match intsOf ds with
    | some ns => mpure ((sortI ns).map .int)
    | none => mno)
  | _ => mno
theorem oSorted {q pos : Pos} {m : M PyData} (ha : PE X e (rD k W m)) (hg : Gl X "sorted") (hm : X.mg "sorted" = none) (hv : bootBuiltins "sorted" = some (.builtin "sorted")) (hK : X.K = k.K := by rfl) (h1 : starEach [e] X.env = (false, eval e X.env) :: starEach [] X.env := by rfl) (hpl : (backTo pos (starEach [] X.env)).any (·.1) = false := by rfl) :
    PE X (.Call (.Name "sorted" q) [e] [] pos) (rO k W (mSorted m)) := pe_imp (pe_callB cr_sortedI hg hm hv (pa_cons ha pa_nil h1) (he := h1) (hpl := hpl)) fun σ H Q q => by
  obtain ⟨c, F, r, s, q⟩ := q
  refine ⟨c, F, r, s, (Run.bind q).imp fun d r1 F1 H1 e1 _ ⟨s1, _, q1⟩ x dx => ?_⟩
  cases d with
  | list ds =>
    obtain ⟨a, vs, rfl, p1, p2⟩ := dp_lst dx
    have q2 : Run k c W σ F1 ((match intsOf ds with
      | some ns => mpure ((sortI ns).map PyData.int)
      | none => mno) r1) fun ds r' F' H' => ∀ a vs, Fresh k c F' H' r' σ a vs ds → Q (.ref a) H' := q1
    cases hi : intsOf ds with
    | none =>
      rw [hi] at q2
      exact q2.elim
    | some ns =>
      rw [hi] at q2
      have ed := intsOf_eq hi
      subst ed
      have ev := ints_dp p2
      subst ev
      refine ⟨a, ns, rfl, hK ▸ s1.fh.seq p1, fun ns' p hp hs np => ?_⟩
      have en := sortI_eq hp hs
      subst en
      have dd : DpAll k.K F1 ((sortI ns).map V.int) ((sortI ns).map PyData.int) := by
        generalize sortI ns = ms
        induction ms with
        | nil => exact .nil
        | cons m ms ih => exact .cons (Dp.int _) ih
      exact q2 F1 _ (Same.refl F1) (s1.fresh np) p _ (s1.freshL np dd)
  | none => exact q1.elim
  | bool b => exact q1.elim
  | int i => exact q1.elim
  | str t => exact q1.elim
  | tuple t => exact q1.elim
  | dict t => exact q1.elim
end
end Dx

/-! min of a list of pairs, with a default -/
namespace Dx
open PySem PySem.Spec PyProof.Rows L2
section
variable {X : Cx} {k : Kn} {W : WX} {e : Expr} {es : List Expr} {kws : List Keyword} {pos p : Pos}
def fMinD : List PyData → List PyData → Option PyData
  | [.list ds], [d] => match pairsOf ds with
    | some [] => some d
    | some (z :: zs) => some (prI (minP z zs))
    | none => none
  | _, _ => none
theorem fMinD_inv {ds es : List PyData} {y : PyData} (h : fMinD ds es = some y) : ∃ zz d, ds = [.list (zz.map prI)] ∧ es = [d] ∧ ((zz = [] ∧ y = d) ∨ ∃ z zs, zz = z :: zs ∧ y = prI (minP z zs)) := by
  unfold fMinD at h
  split at h
  · rename_i ds d
    split at h
    · rename_i q
      cases h
      exact ⟨[], _, by rw [pairsOf_eq q], rfl, .inl ⟨rfl, rfl⟩⟩
    · rename_i z zs q
      cases h
      exact ⟨z :: zs, d, by rw [pairsOf_eq q], rfl, .inr ⟨z, zs, rfl, rfl⟩⟩
    · cases h
  · cases h
theorem call_minD (hc : X.calm = true) (hu : X.A.units + 66 < cLine) : CallRK X (.builtin "min") [("default" : Str)] (fun xs ys H Q => ∃ p vs zz d, xs = [.ref p] ∧ ys = [d] ∧ SqL X.K H p vs ∧ DpAll X.K H vs (zz.map prI) ∧ (zz = [] → Q d H) ∧ ∀ z zs, zz = z :: zs → ∀ (i : Nat) v, vs[i]? = some v → (zz.map prI)[i]? = some (prI (minP z zs)) → Q v H) := by
  intro pins s σ H xs ys us ws Q I r r2 h
  obtain ⟨p, vs, zz, d, rfl, rfl, hs, hd, q0, q1⟩ := h
  obtain ⟨its, rv, hl, _⟩ := I.list hs
  rw [Vals.ref1 r]
  obtain ⟨w, hw, rw1⟩ : ∃ w, ws = [w] ∧ RelV d w := by
    cases r2 with
    | cons a b =>
      cases b
      exact ⟨_, rfl, a⟩
  subst hw
  obtain ⟨as, ra⟩ := Dp.readsAll I _ vs its hd rv
  have ra' : ReadsAll s.heap its.toArray.toList (zz.map prI) as := by simpa using ra
  have al : PySem.W.AlikeAll (zz.map prI) := alike_pairs zz
  have dl := depth_pairs zz
  refine PySem.W.min_list_default (I.ok.hd hc) hl.isList ra' al (by omega) (fun e0 h' tk kp => ?_) fun y ys i u h' tk bs hz hi hr hk => ?_
  · have ez : zz = [] := by simpa using e0
    exact ⟨d, H, I.kept kp, rw1, q0 ez⟩
  · cases zz with
    | nil => simp at hz
    | cons z zs =>
      have hz' : prI z = y ∧ zs.map prI = ys := by simpa using hz
      obtain ⟨rfl, rfl⟩ := hz'
      have hi' : its[i]? = some u := by simpa using hi
      obtain ⟨v, hv, rvu⟩ : ∃ v, vs[i]? = some v ∧ RelV v u := by
        have hl1 := rv.length
        have hlt : i < its.length := (List.getElem?_eq_some_iff.mp hi').1
        obtain ⟨u', e1, e2⟩ := rv.get (List.getElem?_eq_getElem (by omega : i < vs.length))
        rw [hi'] at e1
        cases e1
        exact ⟨_, List.getElem?_eq_getElem (by omega), e2⟩
      obtain ⟨dd, hdd, dv⟩ := DpAll.getV hd hv
      obtain ⟨cs, rr⟩ := Dp.reads I dd v u dv rvu
      obtain ⟨e1, _⟩ := reads_det (fun b o e _ => hk b o e) rr hr
      rw [minD_pairs] at e1
      subst e1
      exact ⟨v, H, I.kept hk, rvu, q1 z zs rfl i v hv hdd⟩
def mClK (f : List PyData → List PyData → Option PyData) (m n : M (List PyData)) : M PyData := mbind m fun ds => mbind n fun es => mopt (f ds es)
theorem dMinD {m n : M (List PyData)} (hc : X.calm = true) (hu : X.A.units + 66 < cLine) (hg : Gl X "min") (hm : X.mg "min" = none) (hv : bootBuiltins "min" = some (.builtin "min")) (ha : PA X (e :: es) (rL k W m)) (hkw : PK X kws (rL k W n)) (hK : X.K = k.K := by rfl)
    (he : backTo pos (starEach (e :: es) X.env) = (false, eval e X.env) :: backTo pos (starEach es X.env) := by rfl) (h1 : ((backTo pos (starEach (e :: es) X.env)).any (·.1)) = false := by rfl) (h2 : ((backToKw pos (keywordEach kws X.env)).all (·.1.isSome)) = true := by rfl)
    (h3 : ((backToKw pos (keywordEach kws X.env)).any (·.1.isNone)) = false := by rfl) (h4 : (backToKw pos (keywordEach kws X.env)).filterMap (·.1) = [("default" : Str)] := by rfl) :
    PE X (.Call (.Name "min" p) (e :: es) kws pos) (rD k W (mClK fMinD m n)) :=
  pe_imp (pe_callBK (call_minD hc hu) hg hm hv ha hkw (by decide) (by decide) he h1 h2 h3 h4) fun σ H Q q => by
    obtain ⟨c, F, r, s, q⟩ := q
    refine ⟨c, F, r, s, (Run.bind q).imp fun ds r1 F1 H1 e1 _ ⟨s1, _, q1⟩ xs dx => ?_⟩
    refine ⟨c, F1, r1, s1, (Run.bind q1).imp fun es r2 F2 H2 e2 _ ⟨s2, _, q2⟩ ys dy => ?_⟩
    obtain ⟨y, hy, kk⟩ := Run.opt q2
    obtain ⟨zz, d, rfl, rfl, alt⟩ := fMinD_inv hy
    obtain ⟨w, rfl, d1⟩ := dpAll1 dx
    obtain ⟨u, rfl, d2⟩ := dpAll1 dy
    obtain ⟨q, vs, rfl, p1, p2⟩ := dp_lst d1
    have m2 := e2
    refine ⟨q, vs, zz, u, rfl, rfl, hK ▸ s2.fh.seq ((e2).seq p1), hK ▸ DpAll.up s2.fh _ _ (DpAll.up e2 _ _ p2), fun hz => ?_, fun z zs hz i v hv hi => ?_⟩
    · rcases alt with ⟨_, rfl⟩ | ⟨z, zs, h, _⟩
      · exact kk F2 H2 (Same.refl F2) s2 u d2
      · rw [hz] at h
        cases h
    · rcases alt with ⟨h, _⟩ | ⟨z', zs', h, rfl⟩
      · rw [h] at hz
        cases hz
      · rw [hz] at h
        cases h
        obtain ⟨dd, hdd, dv⟩ := DpAll.getV (DpAll.up e2 _ _ p2) hv
        rw [hi] at hdd
        cases hdd
        exact kk F2 H2 (Same.refl F2) s2 v dv
end
end Dx

/-! a def whose body ends in `return (a, b, [..])`: the tuple and its list are new -/
namespace Dx
open PySem PySem.Spec PyProof.Rows L2
abbrev Tri := PyData × PyData × List PyData
/-- a tuple (a, b, list) just made: it and its list are nobody's -/
structure FreshT (k : Kn) (c : Cn) (F H : Hp) (r : Ev) (σ : List (Option V)) (T l : Addr) (u v : V) (vs : List V) (t : Tri) : Prop where
  li : Fresh k c F H r σ l vs t.2.2
  ft : F T = none
  gt : c.G T = none
  ht : H T = some (.tup [u, v, .ref l])
  d1 : Dp k.K F u t.1
  d2 : Dp k.K F v t.2.1
  nt : ∀ (i : Nat) (x : Cell) (y : Option V), r[i]? = some x → σ[i]? = some y → ¬ Own x y T
section
variable {X : Cx} {k : Kn} {W : WX} {a b d : Expr} {es : List Expr} {st : Stmt} {sts : List Stmt} {pos p : Pos}
def mTri (m n : M PyData) (o : M (List PyData)) : M Tri := mbind m fun d => mbind n fun e => mbind o fun ds => mpure (d, e, ds)
/-- the statements ahead of the return, and what it returns -/
def SRunT (k : Kn) (c : Cn) (W : WX) (F : Hp) (q : SR) (mt : M Tri) (D : Ends) : Prop := match q with
  | .nx r => ∀ F' H' σ, Same F F' → Sta k c F' H' r σ → Run k c W σ F' (mt r) fun t r' F2 H2 => ∀ T l u v vs, FreshT k c F2 H2 r' σ T l u v vs t → D.rt (.ref T) H2
  | .ex x r => ∀ F' H' σ cls dd, Same F F' → Sta k c F' H' r σ → ExRep k F' H' x cls dd → W cls dd σ H'
  | _ => False
theorem SRunT.up {c : Cn} {F F' : Hp} {q : SR} {mt : M Tri} {D : Ends} (h : SRunT k c W F q mt D) (e : Same F F') : SRunT k c W F' q mt D := by
  cases q with
  | nx r => exact fun F2 H2 σ e2 s => h F2 H2 σ (e.trans e2) s
  | ex x r => exact fun F2 H2 σ cls dd e2 s => h F2 H2 σ cls dd (e.trans e2) s
  | rt d r => exact h
  | ro d r => exact h
  | bk r => exact h
  | ct r => exact h
  | no => exact h
def rTT (k : Kn) (W : WX) (m : S) (mt : M Tri) : TS := fun D σ H => ∃ c F r, Sta k c F H r σ ∧ SRunT k c W F (m r) mt D
theorem tCons {m n : S} {mt : M Tri} (h1 : PS X st (rS k W m)) (h2 : PSs X sts (rTT k W n mt)) : PSs X (st :: sts) (rTT k W (sSeq m n) mt) := pss_imp (pss_cons h1 h2) fun D σ H q => by
  obtain ⟨c, F, r, s, q⟩ := q
  refine ⟨c, F, r, s, ?_⟩
  have q2 : SRunT k c W F (match m r with
    | .nx r1 => n r1
    | q => q) mt D := q
  revert q2
  cases m r with
  | nx r1 => exact fun q2 F1 H1 σ1 e1 s1 => ⟨c, F1, r1, s1, SRunT.up q2 e1⟩
  | rt d r1 => exact fun q2 => q2.elim
  | ro d r1 => exact fun q2 => q2.elim
  | bk r1 => exact fun q2 => q2.elim
  | ct r1 => exact fun q2 => q2.elim
  | ex x r1 => exact fun q2 => q2
  | no => exact fun q2 => q2.elim
theorem tRetTri {m n : M PyData} {o : M (List PyData)} {x1} {tp : Pos} (ha : PE X a (rD k W m)) (hb : PE X b (rD k W n)) (hd : PE X d (rO k W o))
    (h1 : starEach [a, b, d] X.env = (false, eval a X.env) :: starEach [b, d] X.env := by rfl) (h2 : starEach [b, d] X.env = (false, eval b X.env) :: starEach [d] X.env := by rfl) (h3 : starEach [d] X.env = (false, eval d X.env) :: starEach [] X.env := by rfl) :
    PSs X [.Return (some (.Tuple [a, b, d] x1 tp)) pos] (rTT k W .nx (mTri m n o)) := pss_imp (pss_one (ps_ret (pe_tup (pa_cons ha (pa_cons hb (pa_cons hd pa_nil h3) h2) h1)))) fun D σ H q => by
  obtain ⟨c, F, r, s, q⟩ := q
  have q0 := q F H σ (Same.refl F) s
  refine ⟨c, F, r, s, (Run.bind q0).imp fun d1 r1 F1 H1 e1 _ ⟨s1, _, q1⟩ x dx => ?_⟩
  refine ⟨c, F1, r1, s1, (Run.bind q1).imp fun d2 r2 F2 H2 e2 _ ⟨s2, _, q2⟩ y dy => ?_⟩
  refine ⟨c, F2, r2, s2, (Run.bind q2).imp fun ds r3 F3 H3 e3 _ ⟨s3, _, q3⟩ l vs f => ?_⟩
  refine ⟨by show 3 ≤ sizeLine; decide, fun T np => ?_⟩
  have q4 := q3 F3 (upd H3 T (.tup [x, y, .ref l])) (Same.refl F3) (s3.fresh np)
  have nl : l ≠ T := fun z => by
    have h3 := f.2.2.1
    rw [z, np] at h3
    cases h3
  refine q4 T l x y vs ⟨⟨f.1, f.2.1, by rw [upd_ne nl]; exact f.2.2.1, f.2.2.2.1, f.2.2.2.2⟩, s3.nF np, s3.nG np, upd_same, Dp.up (e2.trans e3) _ _ dx, Dp.up e3 _ _ dy, fun i z w h1 h2 ow => ?_⟩
  obtain ⟨_, _, us, z⟩ := (s3.cell i z w h1 h2).own ow
  rw [np] at z
  cases z
end
end Dx

/-! the promise of such a def; its call -/
namespace Dx
open PySem PySem.Spec PyProof.Rows L2
def outT (cs : List Cell) (q : R Tri) : R Tri := match q with
  | .ok t r => match outC cs r with
    | some l => .ok t l
    | none => .no
  | .ex x r => match outC cs r with
    | some l => .ex x l
    | none => .no
  | .no => .no
def bodyT (m : S) (mt : M Tri) (r : Ev) : R Tri := match m r with
  | .nx r1 => mt r1
  | .ex x r1 => .ex x r1
  | _ => .no
def runT (n : Nat) (m : S) (mt : M Tri) (cs : List Cell) : R Tri := outT cs (bodyT m mt (cs ++ List.replicate n .u))
def FRunT (k : Kn) (c : Cn) (F : Hp) (vs : List V) (q : R Tri) (Q : VK) (E : XK) : Prop := match q with
  | .ok t cs => ∀ F' H' T l u v us, Same F F' → Sta k c F' H' cs (svs vs) → FreshT k c F' H' cs (svs vs) T l u v us t → Q (.ref T) H'
  | .ex x cs => ∀ F' H' cls dd, Same F F' → Sta k c F' H' cs (svs vs) → ExRep k F' H' x cls dd → E cls dd H'
  | .no => False
def spT (k : Kn) (n : Nat) (f : List Cell → R Tri) : Sp := fun vs H Q E => ∃ F cs, vs.length = n ∧ Sta k (cOf F H cs vs) F H cs (svs vs) ∧ FRunT k (cOf F H cs vs) F vs (f cs) Q E
section
variable {k : Kn} {c : Cn} {F H F' H' : Hp} {cs l : List Cell} {r : Ev} {σ : List (Option V)} {vs : List V}
theorem FreshT.out {T a : Addr} {u v : V} {us : List V} {t : Tri} (f : FreshT k (cOf F H cs vs) F' H' r σ T a u v us t)
    (ho : ∀ (i : Nat) (x : Cell) (y : Option V), l[i]? = some x → (svs vs)[i]? = some y → ∀ b, Own x y b → ∃ z y', r[i]? = some z ∧ σ[i]? = some y' ∧ Own z y' b) : FreshT k (cOf F H cs vs) F' H' l (svs vs) T a u v us t :=
  ⟨f.li.out ho, f.ft, f.gt, f.ht, f.d1, f.d2, fun i x y e1 e2 w => by
    obtain ⟨z, y', h1, h2, h3⟩ := ho i x y e1 e2 T w
    exact f.nt i z y' h1 h2 h3⟩
end
section
variable {P : Program} {w : World} {mg : Str → Option Value} {base : Heap} {f : Addr} {fd : FuncData} {ps N : List Str} {lv n : Nat} {x qual : Str} {st : Stmt} {k : Kn} {body : S} {mt : M Tri}
theorem okFT (D : Fun k.K x qual st f fd) (S : FnScope N ps (defScope st)) (hn : N.length = ps.length + n)
    (hb : ∀ (cdv : Value) (A : Around) (outer : List Env) (s : Shared) (H : Hp) (E : XK), Room lv (A.deeper (envOfC qual (defScope st) s.heap.objs.size f cdv)) → A.guards = some [] →
      PSs (cxOf (L2.CX P w) P w k.K mg base N qual (defScope st) f cdv A outer s H E) (defBody st) (rTT k (fun cls d _ H => E cls d H) body mt)) :
    FnG P w k.K mg base (lv + 1) f fd ps (spT k ps.length (runT n body mt)) := by
  refine fnG_of D S (fun vs H Q E h => ?_) fun cdv A outer s H vs Q E hr hgd h => ⟨_, hb cdv A outer s H E hr hgd, ?_⟩
  · obtain ⟨F, cs, hl, _⟩ := h
    exact hl
  · obtain ⟨F, cs, hl, s0, q⟩ := h
    have hlc : vs.length = cs.length := by
      have := s0.len
      rw [List.length_map] at this
      exact this.symm
    have hst : L2.start N vs = svs vs ++ List.replicate n none := by
      unfold L2.start
      rw [hn, hl, Nat.add_sub_cancel_left]
    rw [hst]
    refine ⟨_, F, _, s0.pad n, ?_⟩
    unfold runT bodyT at q
    revert q
    cases body (cs ++ List.replicate n .u) with
    | nx r =>
      intro q F' H' σ e s'
      have q1 : FRunT k (cOf F H cs vs) F vs (outT cs (mt r)) Q E := q
      revert q1
      cases mt r with
      | ok t r' =>
        intro q1 F2 H2 e2 s2 T l u v us ft
        have q2 : FRunT k (cOf F H cs vs) F vs (match outC cs r' with
          | some l => .ok t l
          | none => .no) Q E := q1
        cases ho : outC cs r' with
        | none =>
          rw [ho] at q2
          exact q2.elim
        | some l' =>
          rw [ho] at q2
          exact q2 F2 H2 T l u v us (e.trans e2) (s2.out hlc s0 ho).1 (ft.out (s2.out hlc s0 ho).2)
      | ex z r' =>
        intro q1 F2 H2 cls dd e2 s2 xr
        have q2 : FRunT k (cOf F H cs vs) F vs (match outC cs r' with
          | some l => .ex z l
          | none => .no) Q E := q1
        cases ho : outC cs r' with
        | none =>
          rw [ho] at q2
          exact q2.elim
        | some l' =>
          rw [ho] at q2
          exact q2 F2 H2 cls dd (e.trans e2) (s2.out hlc s0 ho).1 xr
      | no => exact fun q1 => q1.elim
    | ex z r =>
      intro q F' H' σ cls dd e s' xr
      cases ho : outC cs r with
      | none =>
        have q2 : FRunT k (cOf F H cs vs) F vs (match outC cs r with
          | some l => .ex z l
          | none => .no) Q E := q
        rw [ho] at q2
        exact q2.elim
      | some l =>
        have q2 : FRunT k (cOf F H cs vs) F vs (match outC cs r with
          | some l => .ex z l
          | none => .no) Q E := q
        rw [ho] at q2
        exact q2 F' H' cls dd e (s'.out hlc s0 ho).1 xr
    | rt d r => exact fun q => q.elim
    | ro d r => exact fun q => q.elim
    | bk r => exact fun q => q.elim
    | ct r => exact fun q => q.elim
    | no => exact fun q => q.elim
end
section
variable {k : Kn} {c : Cn} {W : WX}
/-- the call, of data alone -/
def callT (n : Nat) (f : List Cell → R Tri) (as : List Arg) : M Tri := fun r => match argC r as 0 with
  | none => .no
  | some cs => if as.length = n ∧ slotsOf as = [] then (match f cs with
      | .ok t l => putR r as l fun r' => .ok t r'
      | .ex x l => putR r as l fun r' => .ex x r'
      | .no => .no) else .no
theorem callT_sp {n : Nat} {f : List Cell → R Tri} {F H : Hp} {r : Ev} {σ : List (Option V)} {as : List Arg} {ys : List V} {Q : VK} (s : Sta k c F H r σ) (ha : ArgsOk k F σ ys as)
    (q : Run k c W σ F (callT n f as r) fun t r' F' H' => ∀ T l u v us, FreshT k c F' H' r' σ T l u v us t → Q (.ref T) H') : spT k n f ys H Q (WE W σ) := by
  unfold callT at q
  cases hc : argC r as 0 with
  | none =>
    rw [hc] at q
    exact q.elim
  | some cs =>
    rw [hc] at q
    have q1 : Run k c W σ F (if as.length = n ∧ slotsOf as = [] then (match f cs with
      | .ok t l => putR r as l fun r' => .ok t r'
      | .ex x l => putR r as l fun r' => .ex x r'
      | .no => .no) else .no) (fun t r' F' H' => ∀ T l u v us, FreshT k c F' H' r' σ T l u v us t → Q (.ref T) H') := q
    by_cases hn : as.length = n ∧ slotsOf as = []
    · rw [if_pos hn] at q1
      have nd : (slotsOf as).Nodup := by
        rw [hn.2]
        exact List.nodup_nil
      have nown : ∀ b, ¬ OwnAt cs ys b := fun b h => by
        obtain ⟨m, i, x, h1, _⟩ := ownAt_iff s ha hc h
        have := mem_slots h1
        rw [hn.2] at this
        cases this
      have hG : ∀ b z, H b = some z → (cOf F H cs ys).G b = some z := fun b z h => (cOf_not (nown b)).trans h
      refine ⟨F, cs, (args_len ha).trans hn.1, call_in s ha hc nd, ?_⟩
      revert q1
      cases f cs with
      | ok t l =>
        intro q1 F' H' T a u v us e s' ft
        have q2 : Run k c W σ F (putR r as l fun r' => .ok t r') (fun t r' F' H' => ∀ T l u v us, FreshT k c F' H' r' σ T l u v us t → Q (.ref T) H') := q1
        unfold putR at q2
        cases hp : putC r as l with
        | none =>
          rw [hp] at q2
          exact q2.elim
        | some r' =>
          rw [hp] at q2
          obtain ⟨s2, fo⟩ := call_out s ha hc nd e s' hp
          obtain ⟨_, p2, _⟩ := putC_at nd hp
          refine q2 F' H' e s2 T a u v us ⟨fo a us _ ft.li, ft.ft, ?_, ft.ht, ft.d1, ft.d2, fun i x y e1 e2 w => ?_⟩
          · cases q : c.G T with
            | none => rfl
            | some o =>
              have z := ft.gt
              rw [hG T o (s.gh T o q)] at z
              cases z
          · rw [p2 i (by rw [hn.2]; exact List.not_mem_nil)] at e1
            obtain ⟨_, _, us0, g3⟩ := (s.cell i x y e1 e2).own w
            have z := ft.gt
            rw [hG T _ g3] at z
            cases z
      | ex x l =>
        intro q1 F' H' cls dd e s' xr
        have q2 : Run k c W σ F (putR r as l fun r' => .ex x r') (fun t r' F' H' => ∀ T l u v us, FreshT k c F' H' r' σ T l u v us t → Q (.ref T) H') := q1
        unfold putR at q2
        cases hp : putC r as l with
        | none =>
          rw [hp] at q2
          exact q2.elim
        | some r' =>
          rw [hp] at q2
          exact q2 F' H' cls dd e (call_out s ha hc nd e s' hp).1 xr
      | no => exact fun q1 => q1.elim
    · rw [if_neg hn] at q1
      exact q1.elim
end
end Dx

/-! what nobody knows is locked, and one slot holds its address -/
namespace Dx
open PySem PySem.Spec PyProof.Rows L2
section
variable {k : Kn} {c : Cn} {F H : Hp} {r : Ev} {σ : List (Option V)}
def withG (G L : Hp) : Hp := fun b => match L b with
  | some o => some o
  | none => G b
theorem withG_in {G L : Hp} {b : Addr} {o : HO} (h : L b = some o) : withG G L b = some o := by
  unfold withG
  rw [h]
theorem withG_out {G L : Hp} {b : Addr} (h : L b = none) : withG G L b = G b := by
  unfold withG
  rw [h]
/-- objects of the heap that are no data and owned by nobody -/
structure Loose (k : Kn) (c : Cn) (F H : Hp) (r : Ev) (σ : List (Option V)) (L : Hp) : Prop where
  h : ∀ b o, L b = some o → H b = some o
  f : ∀ b o, L b = some o → F b = none
  g : ∀ b o, L b = some o → c.G b = none
  w : ∀ b o, L b = some o → ¬ Owned r σ b
theorem Sta.pin (s : Sta k c F H r σ) {L : Hp} (l : Loose k c F H r σ L) {i : Nat} {p : Addr} (hi : i < r.length) (hp : σ[i]? = some (some (.ref p))) (hA : ∀ (j : Nat) (ds : List PyData), r[i]? ≠ some (Cell.io j ds)) (hO : ∀ ds : List PyData, r[i]? ≠ some (Cell.o ds)) (hP : ∀ (j m : Nat), r[j]? ≠ some (Cell.p m)) :
    Sta k ⟨withG c.G L, F, c.A ++ [some p]⟩ F H (r.set i (.p 0)) σ where
  len := by
    rw [List.length_set]
    exact s.len
  fh := s.fh
  gh := fun b z e => by
    have e' : withG c.G L b = some z := e
    cases q : L b with
    | none =>
      rw [withG_out q] at e'
      exact s.gh b z e'
    | some o =>
      rw [withG_in q] at e'
      cases e'
      exact l.h b _ q
  f0 := Same.refl F
  fg := fun b z e _ => by
    show F b ≠ none
    rw [e]
    simp
  cell := fun j x y e1 e2 => by
    by_cases q : i = j
    · subst q
      rw [List.getElem?_set_self hi] at e1
      cases e1
      rw [hp] at e2
      cases e2
      exact ⟨p, rfl, by show (c.A ++ [some p]).getLast? = _; simp⟩
    · rw [List.getElem?_set_ne q] at e1
      have o := s.cell j x y e1 e2
      have key : ∀ b, Own x y b → withG c.G L b = none := fun b w => by
        cases q2 : L b with
        | none =>
          rw [withG_out q2]
          exact (o.own w).2.1
        | some z => exact absurd ⟨j, x, y, e1, e2, w⟩ (l.w b z q2)
      cases x with
      | u => trivial
      | p m => exact absurd e1 (hP j m)
      | v d => exact o
      | o ds =>
        obtain ⟨b, us, q, f1, g1, z, t⟩ := o
        exact ⟨b, us, q, f1, key b q, z, t⟩
      | io m ds =>
        obtain ⟨b, us, q, a, f1, g1, z, t⟩ := o
        have hm : m < c.A.length := (List.getElem?_eq_some_iff.mp a).1
        exact ⟨b, us, q, by show (c.A ++ [some p])[m]? = _; rw [List.getElem?_append_left hm]; exact a, f1, key b q, z, t⟩
  dis := fun a b x y x' y' d e1 e2 e3 e4 w w' => by
    have key : ∀ (j : Nat) (x : Cell) (y : Option V), (r.set i (.p 0))[j]? = some x → Own x y d → r[j]? = some x := fun j x y e w => by
      by_cases q : i = j
      · subst q
        rw [List.getElem?_set_self hi] at e
        cases e
        exact w.elim
      · rw [List.getElem?_set_ne q] at e
        exact e
    exact s.dis a b x y x' y' d (key a x y e1 w) e2 (key b x' y' e3 w') e4 w w'
theorem Sta.unpin {L F' H' : Hp} {r' : Ev} {σ' : List (Option V)} {p : Addr} {i : Nat} (s : Sta k c F H r σ) (l : Loose k c F H r σ L) (lp : L p ≠ none) (s' : Sta k ⟨withG c.G L, F, c.A ++ [some p]⟩ F' H' r' σ') (hr : r'[i]? = some (.p 0)) (hP : ∀ (j m : Nat), j ≠ i → r'[j]? ≠ some (Cell.p m)) :
    Sta k c F' H' (r'.set i .u) σ' ∧ σ'[i]? = some (some (.ref p)) ∧ Loose k c F' H' (r'.set i .u) σ' L := by
  have hi : i < r'.length := (List.getElem?_eq_some_iff.mp hr).1
  have gL : ∀ b o, L b = some o → withG c.G L b = some o := fun b o e => withG_in e
  have gG : ∀ b o, c.G b = some o → withG c.G L b = some o := fun b o e => by
    cases q : L b with
    | none =>
      rw [withG_out q]
      exact e
    | some z =>
      have := l.g b z q
      rw [e] at this
      cases this
  have nG : ∀ b, withG c.G L b = none → c.G b = none ∧ L b = none := fun b e => by
    cases q : L b with
    | none =>
      rw [withG_out q] at e
      exact ⟨e, rfl⟩
    | some z =>
      rw [withG_in q] at e
      cases e
  have back : ∀ (j : Nat) (x : Cell) (y : Option V) (b : Addr), (r'.set i .u)[j]? = some x → Own x y b → r'[j]? = some x := fun j x y b e w => by
    by_cases q : i = j
    · subst q
      rw [List.getElem?_set_self hi] at e
      cases e
      exact w.elim
    · rw [List.getElem?_set_ne q] at e
      exact e
  obtain ⟨y0, hy0, ok0⟩ := s'.slot hr
  obtain ⟨a0, rfl, ha0⟩ := ok0
  have ea : a0 = p := by
    have h2 : (c.A ++ [some p]).getLast? = some (some a0) := ha0
    simp at h2
    exact h2.symm
  subst ea
  refine ⟨⟨?_, s'.fh, fun b z e => s'.gh b z (gG b z e), s.f0.trans s'.f0, fun b z e g => ?_, fun j x y e1 e2 => ?_, fun j m x y x' y' d e1 e2 e3 e4 w w' => s'.dis j m x y x' y' d (back j x y d e1 w) e2 (back m x' y' d e3 w') e4 w w'⟩, hy0, ⟨fun b o e => s'.gh b o (gL b o e), fun b o e => ?_, l.g, fun b o e ⟨j, x, y, e1, e2, w⟩ => ?_⟩⟩
  · rw [List.length_set]
    exact s'.len
  · cases q : c.G b with
    | none => exact absurd q g
    | some o =>
      have z1 : F b ≠ none := s'.fg b z e (by
        show withG c.G L b ≠ none
        rw [gG b o q]
        simp)
      cases q2 : F b with
      | none => exact absurd q2 z1
      | some o2 => exact s.fg b o2 q2 g
  · by_cases q : i = j
    · subst q
      rw [List.getElem?_set_self hi] at e1
      cases e1
      trivial
    · rw [List.getElem?_set_ne q] at e1
      have o := s'.cell j x y e1 e2
      cases x with
      | u => trivial
      | p m => exact absurd e1 (hP j m (Ne.symm q))
      | v d => exact o
      | o ds =>
        obtain ⟨b, us, q, f1, g1, z, t⟩ := o
        exact ⟨b, us, q, f1, (nG b g1).1, z, t⟩
      | io m ds =>
        obtain ⟨b, us, q, a, f1, g1, z, t⟩ := o
        have a' : (c.A ++ [some a0])[m]? = some (some b) := a
        by_cases hm : m < c.A.length
        · rw [List.getElem?_append_left hm] at a'
          exact ⟨b, us, q, a', f1, (nG b g1).1, z, t⟩
        · rw [List.getElem?_append_right (by omega)] at a'
          have e : b = a0 := by
            cases hq : m - c.A.length with
            | zero =>
              rw [hq] at a'
              simp at a'
              exact a'.symm
            | succ n =>
              rw [hq] at a'
              simp at a'
          subst e
          exact absurd (nG b g1).2 lp
  · cases q : F' b with
    | none => rfl
    | some z =>
      have z1 : F b ≠ none := s'.fg b z q (by
        show withG c.G L b ≠ none
        rw [gL b o e]
        simp)
      exact absurd (l.f b o e) z1
  · have z1 := ((s'.cell j x y (back j x y b e1 w) e2).own w).2.1
    have z2 : withG c.G L b = none := z1
    rw [gL b o e] at z2
    cases z2
end
end Dx

/-! objects that nobody knows: held over a piece of work, or made data -/
namespace Dx
open PySem PySem.Spec PyProof.Rows L2
section
variable {k : Kn} {c : Cn} {W : WX} {F H : Hp} {r : Ev} {σ : List (Option V)} {L : Hp}
theorem Loose.gL (l : Loose k c F H r σ L) {b : Addr} {o : HO} (e : c.G b = some o) : withG c.G L b = some o := by
  cases q : L b with
  | none =>
    rw [withG_out q]
    exact e
  | some z =>
    have := l.g b z q
    rw [e] at this
    cases this
theorem withG_none {G L : Hp} {b : Addr} (e : withG G L b = none) : G b = none ∧ L b = none := by
  cases q : L b with
  | none =>
    rw [withG_out q] at e
    exact ⟨e, rfl⟩
  | some z =>
    rw [withG_in q] at e
    cases e
theorem Sta.holdL (s : Sta k c F H r σ) (l : Loose k c F H r σ L) : Sta k ⟨withG c.G L, F, c.A⟩ F H r σ where
  len := s.len
  fh := s.fh
  gh := fun b z e => by
    have e' : withG c.G L b = some z := e
    cases q : L b with
    | none =>
      rw [withG_out q] at e'
      exact s.gh b z e'
    | some o =>
      rw [withG_in q] at e'
      cases e'
      exact l.h b _ q
  f0 := Same.refl F
  fg := fun b z e _ => by
    show F b ≠ none
    rw [e]
    simp
  cell := fun j x y e1 e2 => by
    have o := s.cell j x y e1 e2
    have key : ∀ b, Own x y b → withG c.G L b = none := fun b w => by
      cases q2 : L b with
      | none =>
        rw [withG_out q2]
        exact (o.own w).2.1
      | some z => exact absurd ⟨j, x, y, e1, e2, w⟩ (l.w b z q2)
    cases x with
    | u => trivial
    | p m => exact o
    | v d => exact o
    | o ds =>
      obtain ⟨b, us, q, f1, g1, z, t⟩ := o
      exact ⟨b, us, q, f1, key b q, z, t⟩
    | io m ds =>
      obtain ⟨b, us, q, a, f1, g1, z, t⟩ := o
      exact ⟨b, us, q, a, f1, key b q, z, t⟩
  dis := s.dis
theorem Sta.unholdL {F' H' : Hp} {r' : Ev} {σ' : List (Option V)} (s : Sta k c F H r σ) (l : Loose k c F H r σ L) (s' : Sta k ⟨withG c.G L, F, c.A⟩ F' H' r' σ') : Sta k c F' H' r' σ' ∧ Loose k c F' H' r' σ' L := by
  refine ⟨⟨s'.len, s'.fh, fun b z e => s'.gh b z (l.gL e), s.f0.trans s'.f0, fun b z e g => ?_, fun j x y e1 e2 => ?_, s'.dis⟩, ⟨fun b o e => s'.gh b o (withG_in e), fun b o e => ?_, l.g, fun b o e ⟨j, x, y, e1, e2, w⟩ => ?_⟩⟩
  · cases q : c.G b with
    | none => exact absurd q g
    | some o =>
      have z1 : F b ≠ none := s'.fg b z e (by
        show withG c.G L b ≠ none
        rw [l.gL q]
        simp)
      cases q2 : F b with
      | none => exact absurd q2 z1
      | some o2 => exact s.fg b o2 q2 g
  · have o := s'.cell j x y e1 e2
    cases x with
    | u => trivial
    | p m => exact o
    | v d => exact o
    | o ds =>
      obtain ⟨b, us, q, f1, g1, z, t⟩ := o
      exact ⟨b, us, q, f1, (withG_none g1).1, z, t⟩
    | io m ds =>
      obtain ⟨b, us, q, a, f1, g1, z, t⟩ := o
      exact ⟨b, us, q, a, f1, (withG_none g1).1, z, t⟩
  · cases q : F' b with
    | none => rfl
    | some z =>
      have z1 : F b ≠ none := s'.fg b z q (by
        show withG c.G L b ≠ none
        rw [withG_in e]
        simp)
      exact absurd (l.f b o e) z1
  · have z1 : withG c.G L b = none := ((s'.cell j x y e1 e2).own w).2.1
    rw [withG_in e] at z1
    cases z1
theorem Run.underL {F1 : Hp} {A : Type} {q : R A} {P : A → Ev → Hp → Hp → Prop} (s : Sta k c F H r σ) (l : Loose k c F H r σ L) (h : Run k c W σ F1 q P) :
    Run k ⟨withG c.G L, F, c.A⟩ W σ F1 q fun z r' F' H' => Sta k c F' H' r' σ ∧ Loose k c F' H' r' σ L ∧ P z r' F' H' := by
  cases q with
  | ok z r' =>
    intro F' H' e1 s1
    obtain ⟨s2, f2⟩ := s.unholdL l s1
    exact ⟨s2, f2, h F' H' e1 s2⟩
  | ex x r' => exact fun F' H' cls dd e1 s1 xr => h F' H' cls dd e1 (s.unholdL l s1).1 xr
  | no => exact h
/-- they become data -/
theorem Sta.adoptL (s : Sta k c F H r σ) (l : Loose k c F H r σ L) : Sta k c (withG F L) H r σ := by
  have m : Same F (withG F L) := fun b z e => by
    cases q : L b with
    | none =>
      rw [withG_out q]
      exact e
    | some o =>
      have := l.f b o q
      rw [e] at this
      cases this
  refine ⟨s.len, fun b z e => ?_, s.gh, s.f0.trans m, fun b z e g => ?_, fun j x y e1 e2 => ?_, s.dis⟩
  · cases q : L b with
    | none =>
      rw [withG_out q] at e
      exact s.fh b z e
    | some o =>
      rw [withG_in q] at e
      cases e
      exact l.h b _ q
  · cases q : L b with
    | none =>
      rw [withG_out q] at e
      exact s.fg b z e g
    | some o => exact absurd (l.g b o q) g
  · refine (s.cell j x y e1 e2).stay m (fun _ _ _ e => e) fun b w => ?_
    cases q : L b with
    | none =>
      rw [withG_out q]
      exact ((s.cell j x y e1 e2).own w).1
    | some o => exact absurd ⟨j, x, y, e1, e2, w⟩ (l.w b o q)
/-- a few more of them -/
theorem Loose.add (l : Loose k c F H r σ L) {b : Addr} {o : HO} (h : H b = some o) (f : F b = none) (g : c.G b = none) (w : ¬ Owned r σ b) : Loose k c F H r σ (upd L b o) where
  h := fun a z e => by
    by_cases q : a = b
    · subst q
      rw [upd_same] at e
      rw [h]
      exact e
    · rw [upd_ne q] at e
      exact l.h a z e
  f := fun a z e => by
    by_cases q : a = b
    · subst q
      exact f
    · rw [upd_ne q] at e
      exact l.f a z e
  g := fun a z e => by
    by_cases q : a = b
    · subst q
      exact g
    · rw [upd_ne q] at e
      exact l.g a z e
  w := fun a z e => by
    by_cases q : a = b
    · subst q
      exact w
    · rw [upd_ne q] at e
      exact l.w a z e
theorem Loose.zero : Loose k c F H r σ fun _ => Option.none := ⟨fun _ _ e => (by cases e), fun _ _ e => (by cases e), fun _ _ e => (by cases e), fun _ _ e => (by cases e)⟩
/-- a new tuple and its list are such -/
theorem FreshT.loose {T a : Addr} {u v : V} {us : List V} {t : Tri} (f : FreshT k c F H r σ T a u v us t) : Loose k c F H r σ (upd (upd (fun _ => Option.none) a (.lst us)) T (.tup [u, v, .ref a])) :=
  (Loose.zero.add f.li.2.2.1 f.li.1 f.li.2.1 fun ⟨i, x, y, e1, e2, w⟩ => f.li.2.2.2.2 i x y e1 e2 w).add f.ht f.ft f.gt fun ⟨i, x, y, e1, e2, w⟩ => f.nt i x y e1 e2 w
end
end Dx

/-! told = [f(..), f(..)] of new tuples; a test of it; work beside it; told[0][2].append(None); told[1][2].clear() -/
namespace Dx
open PySem PySem.Spec PyProof.Rows L2
def triD (t : Tri) : PyData := .tuple [t.1, t.2.1, .list t.2.2]
def rTri (k : Kn) (W : WX) (m : M Tri) : TE := fun σ H Q => ∃ c F r, Sta k c F H r σ ∧ Run k c W σ F (m r) fun t r' F' H' => ∀ T l u v vs, FreshT k c F' H' r' σ T l u v vs t → Q (.ref T) H'
def noPin (r : Ev) : Bool := r.all fun x => match x with
  | .p _ => false
  | _ => true
theorem noPin_at {r : Ev} (h : noPin r = true) (j m : Nat) : r[j]? ≠ some (Cell.p m) := fun e => by
  have := List.all_eq_true.1 h _ (List.mem_of_getElem? e)
  cases this
open Classical in
noncomputable def sTri (i : Nat) (mA mB : M Tri) (t : M Bool) (mid n : S) : S := sBind mA fun ta => sBind mB fun tb => fun r =>
  if i < r.length ∧ flatR (r.set i .u) = true ∧ noPin (r.set i .u) = true ∧ ta.2.2.length < sizeLine ∧ t (r.set i (.v (.list [triD ta, triD tb]))) = .ok false (r.set i (.v (.list [triD ta, triD tb]))) then
    (match mid (r.set i (.p 0)) with
      | .nx r3 => if r3[i]? = some (.p 0) ∧ noPin (r3.set i .u) = true then n (r3.set i .u) else .no
      | _ => .no) else .no
section
variable {k : Kn} {c : Cn} {F H : Hp} {r : Ev} {σ : List (Option V)} {L : Hp}
theorem Loose.fresh (l : Loose k c F H r σ L) {p : Addr} {o : HO} (h : H p = none) : Loose k c F (upd H p o) r σ L := ⟨fun b z e => by
  rw [upd_ne (ne_of_none (l.h b z e) h)]
  exact l.h b z e, l.f, l.g, l.w⟩
theorem Loose.free (l : Loose k c F H r σ L) {p : Addr} (h : H p = none) : L p = none := by
  cases q : L p with
  | none => rfl
  | some z =>
    have := l.h p z q
    rw [h] at this
    cases this
theorem Loose.change (l : Loose k c F H r σ L) {b : Addr} {z o : HO} (e : L b = some z) : Loose k c F (upd H b o) r σ (upd L b o) where
  h := fun a y h => by
    by_cases q : a = b
    · subst q
      rw [upd_same] at h ⊢
      exact h
    · rw [upd_ne q] at h ⊢
      exact l.h a y h
  f := fun a y h => by
    by_cases q : a = b
    · subst q
      exact l.f a z e
    · rw [upd_ne q] at h
      exact l.f a y h
  g := fun a y h => by
    by_cases q : a = b
    · subst q
      exact l.g a z e
    · rw [upd_ne q] at h
      exact l.g a y h
  w := fun a y h => by
    by_cases q : a = b
    · subst q
      exact l.w a z e
    · rw [upd_ne q] at h
      exact l.w a y h
theorem more {L : Hp} {a b : Addr} {o z : HO} (e : L a = some z) (h : L b = none) : upd L b o a = some z := by
  rw [upd_ne (ne_of_none e h)]
  exact e
end
section
variable {X : Cx} {k : Kn} {W : WX} {eA eB cnd ix0 ix1 ix2 ix3 e oe of : Expr} {as rest : List Stmt} {md : Stmt} {p1 p2 p3 p4 p5 p6 p7 : Pos}
open Classical in
theorem sTri_ok {i : Nat} {x : Str} {mA mB : M Tri} {t : M Bool} {m mid n : S} {apos cpos spos spos2 apos' cpos' spos' spos2' : Pos} (hN : X.N.Nodup) (hi : X.N[i]? = some x) (hx : Loc X.env.scope x) (hA : PE X eA (rTri k W mA)) (hB : PE X eB (rTri k W mB)) (ht : PT X cnd (rT k W t)) (hm : PSs X as (rS k W m)) (hmid : PS X md (rS k W mid))
    (ho : PE X oe (tVar i)) (hix0 : PE X ix0 (rD k W (mpure (.int 0)))) (hix2 : PE X ix2 (rD k W (mpure (.int 2)))) (he : PE X e (rD k W (mpure .none)))
    (ho' : PE X of (tVar i)) (hix1 : PE X ix1 (rD k W (mpure (.int 1)))) (hix3 : PE X ix3 (rD k W (mpure (.int 2)))) (hrest : PSs X rest (rS k W n)) (hK : X.K = k.K := by rfl)
    (nA : starEach [eA, eB] X.env = (false, eval eA X.env) :: starEach [eB] X.env := by rfl) (nB : starEach [eB] X.env = (false, eval eB X.env) :: starEach [] X.env := by rfl)
    (hs1 : swapsWith (.List [eA, eB] p2) (some (.Name x p1)) p3.line X.env = pure false := by rfl) (hf : X.fn x = true ∨ X.env.scope.names.lookup x = some .local := by first | exact .inl rfl | exact .inr rfl | assumption)
    (h0 : PlainIx ix0 := by exact fun _ _ => rfl) (h1 : PlainIx ix1 := by exact fun _ _ => rfl) (h2 : PlainIx ix2 := by exact fun _ _ => rfl) (h3 : PlainIx ix3 := by exact fun _ _ => rfl)
    (hbase : attributeBase (.Subscript (.Subscript oe ix0 spos) ix2 spos2) "append" X.env (eval (.Subscript (.Subscript oe ix0 spos) ix2 spos2) X.env) = eval (.Subscript (.Subscript oe ix0 spos) ix2 spos2) X.env := by rfl)
    (hfew : ((backTo cpos (starEach [e] X.env)).all (fun x => !x.1) && (backToKw cpos (keywordEach [] X.env)).all (fun x => x.1.isSome) && decide ([e].length + ([] : List Keyword).length + (if ([] : List Keyword).isEmpty then 0 else 1) < 30)) = true := by rfl)
    (hline : (apos.endLine == cpos.line) = true := by rfl) (hs : starEach [e] X.env = (false, eval e X.env) :: starEach [] X.env := by rfl) (hplain : (backTo cpos (starEach [] X.env)).any (·.1) = false := by rfl)
    (hsw : swapsWith (.Call (.Attribute (.Subscript (.Subscript oe ix0 spos) ix2 spos2) "append" apos) [e] [] cpos) none p6.line X.env = pure false := by rfl)
    (hbase' : attributeBase (.Subscript (.Subscript of ix1 spos') ix3 spos2') "clear" X.env (eval (.Subscript (.Subscript of ix1 spos') ix3 spos2') X.env) = eval (.Subscript (.Subscript of ix1 spos') ix3 spos2') X.env := by rfl)
    (hline' : (apos'.endLine == cpos'.line) = true := by rfl)
    (hsw' : swapsWith (.Call (.Attribute (.Subscript (.Subscript of ix1 spos') ix3 spos2') "clear" apos') [] [] cpos') none p7.line X.env = pure false := by rfl) :
    PSs X (.Assign [.Name x p1] (.List [eA, eB] p2) p3 :: .If cnd as [] p4 :: md :: .Expr (.Call (.Attribute (.Subscript (.Subscript oe ix0 spos) ix2 spos2) "append" apos) [e] [] cpos) p6 :: .Expr (.Call (.Attribute (.Subscript (.Subscript of ix1 spos') ix3 spos2') "clear" apos') [] [] cpos') p7 :: rest) (rS k W (sTri i mA mB t mid n)) := by
  refine pss_imp (pss_cons (ps_set hN hi hx (pe_lst (pa_cons hA (pa_cons hB pa_nil nB) nA)) hs1 hf) (pss_cons (ps_if ht hm pss_nil) (pss_cons hmid
    (pss_cons (ps_expr (pe_bm PySem.F.plainAttrs_list PySem.F.slot_list_append PySem.F.type_list_append mt_append (pe_ix (hK ▸ ix_tup) (pe_ix (hK ▸ ix_list) ho hix0 h0) hix2 h2) (pa_cons he pa_nil hs) hbase hfew hline hs hplain) hsw)
    (pss_cons (ps_expr (pe_bm0 PySem.F.plainAttrs_list PySem.F.slot_list_clear PySem.F.type_list_clear mt_clear (pe_ix (hK ▸ ix_tup) (pe_ix (hK ▸ ix_list) ho' hix1 h1) hix3 h3) hbase' hline') hsw') hrest))))) fun D σ H q => ?_
  obtain ⟨c, F, r, s, q⟩ := q
  refine ⟨c, F, r, s, (SRun.bind q).imp fun ta r1 F1 H1 e1 _ ⟨s1, _, q1⟩ T1 l1 u1 v1 vs1 f1 => ?_⟩
  have L1 := f1.loose
  refine ⟨_, F1, r1, s1.holdL L1, (Run.underL s1 L1 (SRun.bind q1)).imp fun tb r2 F2 H2 e2 sh ⟨s2, L2, _, _, q2⟩ T2 l2 u2 v2 vs2 g2 => ?_⟩
  refine ⟨by show 2 ≤ sizeLine; decide, fun p np => ?_⟩
  by_cases hc : i < r2.length ∧ flatR (r2.set i .u) = true ∧ noPin (r2.set i .u) = true ∧ ta.2.2.length < sizeLine ∧ t (r2.set i (.v (.list [triD ta, triD tb]))) = .ok false (r2.set i (.v (.list [triD ta, triD tb])))
  case neg =>
    rw [if_neg hc] at q2
    exact q2.elim
  rw [if_pos hc] at q2
  obtain ⟨hl, hfl, hnp, hsz, hte⟩ := hc
  -- the objects that nobody knows
  have lf2 := g2.li.1
  have lg2 := withG_none g2.li.2.1
  have tg2 := withG_none g2.gt
  have n1 : T1 ≠ l1 := fun w => by
    have z := f1.ht
    rw [w, f1.li.2.2.1] at z
    cases z
  have n2 : T2 ≠ l2 := fun w => by
    have z := g2.ht
    rw [w, g2.li.2.2.1] at z
    cases z
  generalize hLa : upd (upd (fun _ => Option.none) l1 (.lst vs1)) T1 (.tup [u1, v1, .ref l1]) = La at L1 L2 sh g2 lg2 tg2
  have a1 : La T1 = some (.tup [u1, v1, .ref l1]) := by
    rw [← hLa]
    exact upd_same
  have b1 : La l1 = some (.lst vs1) := by
    rw [← hLa, upd_ne (Ne.symm n1)]
    exact upd_same
  have L3 := (L2.add g2.li.2.2.1 lf2 lg2.1 fun ⟨j, x, y, o1, o2, w⟩ => g2.li.2.2.2.2 j x y o1 o2 w).add g2.ht g2.ft tg2.1 fun ⟨j, x, y, o1, o2, w⟩ => g2.nt j x y o1 o2 w
  have c1 := more (o := .lst vs2) a1 lg2.2
  have c2 := more (o := .lst vs2) b1 lg2.2
  have tn : upd La l2 (.lst vs2) T2 = none := by
    rw [upd_ne n2]
    exact tg2.2
  have d1 := more (o := .tup [u2, v2, .ref l2]) c1 tn
  have d2 := more (o := .tup [u2, v2, .ref l2]) c2 tn
  have d3 : upd (upd La l2 (.lst vs2)) T2 (.tup [u2, v2, .ref l2]) l2 = some (.lst vs2) := by
    rw [upd_ne (Ne.symm n2)]
    exact upd_same
  have d4 : upd (upd La l2 (.lst vs2)) T2 (.tup [u2, v2, .ref l2]) T2 = some (.tup [u2, v2, .ref l2]) := upd_same
  generalize upd (upd La l2 (.lst vs2)) T2 (.tup [u2, v2, .ref l2]) = Lb at L3 d1 d2 d3 d4
  have s3 := s2.fresh (o := .lst [.ref T1, .ref T2]) np
  have lp0 := L3.free np
  have L4 := (L3.fresh (o := .lst [.ref T1, .ref T2]) np).add upd_same (s2.nF np) (s2.nG np) fun ⟨j, x, y, o1, o2, w⟩ => by
    obtain ⟨_, _, us, z⟩ := (s2.cell j x y o1 o2).own w
    rw [np] at z
    cases z
  have e1' := more (o := .lst [.ref T1, .ref T2]) d1 lp0
  have e2' := more (o := .lst [.ref T1, .ref T2]) d2 lp0
  have e3' := more (o := .lst [.ref T1, .ref T2]) d3 lp0
  have e4' := more (o := .lst [.ref T1, .ref T2]) d4 lp0
  have e5' : upd Lb p (.lst [.ref T1, .ref T2]) p = some (.lst [.ref T1, .ref T2]) := upd_same
  have m1 : p ≠ l1 := fun w => by
    rw [w, d2] at lp0
    cases lp0
  have m2 : T2 ≠ l1 := fun w => by
    rw [w, d2] at d4
    cases d4
  have m3 : l2 ≠ l1 := fun w => by
    have z := lg2.2
    rw [w, b1] at z
    cases z
  generalize upd Lb p (.lst [.ref T1, .ref T2]) = L at L4 e1' e2' e3' e4' e5'
  have sB := s3.adoptL L4
  have mF : Same F2 (withG F2 L) := fun b z e => by
    cases q : L b with
    | none =>
      rw [withG_out q]
      exact e
    | some o =>
      have := L4.f b o q
      rw [e] at this
      cases this
  have dv : Dp k.K (withG F2 L) (.ref p) (.list [triD ta, triD tb]) :=
    Dp.lst (SqL.of (withG_in e5')) (DpAll.cons (Dp.tup (SqT.of (withG_in e1')) (DpAll.cons (Dp.up (e2.trans mF) _ _ f1.d1) (DpAll.cons (Dp.up (e2.trans mF) _ _ f1.d2) (DpAll.one (Dp.lst (SqL.of (withG_in e2')) (DpAll.up (e2.trans mF) _ _ f1.li.2.2.2.1))))))
      (DpAll.one (Dp.tup (SqT.of (withG_in e4')) (DpAll.cons (Dp.up mF _ _ g2.d1) (DpAll.cons (Dp.up mF _ _ g2.d2) (DpAll.one (Dp.lst (SqL.of (withG_in e3')) (DpAll.up mF _ _ g2.li.2.2.2.1))))))))
  have s4 := sB.put hl dv
  have s3f := s3.forget (i := i) (y := some (.ref p))
  have own : ∀ b, Owned (r2.set i (.v (.list [triD ta, triD tb]))) (σ.set i (some (.ref p))) b → Owned (r2.set i .u) (σ.set i (some (.ref p))) b := fun b ⟨j, x, y, o1, o2, w⟩ => by
    by_cases z : i = j
    · subst z
      rw [List.getElem?_set_self hl] at o1
      cases o1
      exact w.elim
    · rw [List.getElem?_set_ne z] at o1
      exact ⟨j, x, y, by rw [List.getElem?_set_ne z]; exact o1, o2, w⟩
  have own2 : ∀ b, Owned (r2.set i .u) (σ.set i (some (.ref p))) b → Owned r2 σ b := fun b ⟨j, x, y, o1, o2, w⟩ => by
    by_cases z : i = j
    · subst z
      rw [List.getElem?_set_self hl] at o1
      cases o1
      exact w.elim
    · rw [List.getElem?_set_ne z] at o1 o2
      exact ⟨j, x, y, o1, o2, w⟩
  have hy : (σ.set i (some (.ref p)))[i]? = some (some (V.ref p)) := List.getElem?_set_self (by rw [← s2.len]; exact hl)
  refine ⟨_, _, _, s4.lock, ?_⟩
  rw [hte]
  intro F5 H5 e5 s5
  show tNext _ _ _
  have keep : ∀ b o, upd H2 p (.lst [.ref T1, .ref T2]) b = some o → ¬ Owned (r2.set i .u) (σ.set i (some (.ref p))) b → H5 b = some o := fun b o w no => s5.gh b o (by
    show restG _ _ _ b = some o
    rw [restG_not fun w2 => no (own b w2)]
    exact w)
  have sP := s3f.past s5 keep (fun j x y b o1 o2 w => by
      by_cases z : i = j
      · subst z
        rw [List.getElem?_set_self hl] at o1
        cases o1
        exact w.elim
      · rw [List.getElem?_set_ne z] at o1 ⊢
        exact o1) hfl
  have L5 : Loose k c F2 H5 (r2.set i .u) (σ.set i (some (.ref p))) L := ⟨fun b o e => keep b o (L4.h b o e) fun w => L4.w b o e (own2 b w), L4.f, L4.g, fun b o e w => L4.w b o e (own2 b w)⟩
  have hlu : i < (r2.set i Cell.u).length := by rw [List.length_set]; exact hl
  have hself : (r2.set i Cell.u)[i]? = some .u := List.getElem?_set_self hl
  have sQ := sP.pin L5 hlu hy (fun j ds h => by rw [hself] at h; cases h) (fun ds h => by rw [hself] at h; cases h) (noPin_at hnp)
  rw [List.set_set] at sQ
  refine ⟨_, F2, _, sQ, ?_⟩
  revert q2
  cases hm3 : mid (r2.set i (.p 0)) with
  | nx r3 =>
    intro q2 F6 H6 σ6 e6 s6
    by_cases hc3 : r3[i]? = some (.p 0) ∧ noPin (r3.set i .u) = true
    case neg =>
      have q3 : SRun k c W F2 (if r3[i]? = some (.p 0) ∧ noPin (r3.set i .u) = true then n (r3.set i .u) else .no) D := q2
      rw [if_neg hc3] at q3
      exact q3.elim
    have q3 : SRun k c W F2 (if r3[i]? = some (.p 0) ∧ noPin (r3.set i .u) = true then n (r3.set i .u) else .no) D := q2
    rw [if_pos hc3] at q3
    obtain ⟨s7, hy7, L7⟩ := sP.unpin L5 (by rw [e5']; simp) s6 hc3.1 fun j m hj h => noPin_at hc3.2 j m (by rw [List.getElem?_set_ne (Ne.symm hj)]; exact h)
    refine ⟨.ref p, hy7, _, F6, _, s7.holdL L7, fun F8 H8 e8 s8 z dz => ?_⟩
    obtain ⟨s9, L9⟩ := s7.unholdL L7 s8
    refine ⟨p, [.ref T1, .ref T2], 0, .ref T1, rfl, dp_int dz, SqL.of (L9.h p _ e5'), rfl, ?_⟩
    refine ⟨_, F8, _, s9.holdL L9, fun F10 H10 e10 s10 z2 dz2 => ?_⟩
    obtain ⟨s11, L11⟩ := s9.unholdL L9 s10
    refine ⟨T1, [u1, v1, .ref l1], 2, .ref l1, rfl, dp_int dz2, SqT.of (L11.h T1 _ e1'), rfl, ?_⟩
    refine ⟨.inl ⟨rfl, vs1, SqL.of (L11.h l1 _ e2')⟩, _, F10, _, s11.holdL L11, fun F12 H12 e12 s12 y dy => ?_⟩
    obtain ⟨s13, L13⟩ := s11.unholdL L11 s12
    refine ⟨l1, vs1, y, rfl, rfl, L13.h l1 _ e2', by rw [DpAll.len f1.li.2.2.2.1]; exact hsz, ?_⟩
    have s14 := s13.touch (o := .lst (vs1 ++ [y])) (L13.f l1 _ e2') (L13.g l1 _ e2') (L13.w l1 _ e2')
    have L14 := L13.change (o := .lst (vs1 ++ [y])) e2'
    have k5 : upd L l1 (.lst (vs1 ++ [y])) p = some (.lst [.ref T1, .ref T2]) := by rw [upd_ne m1]; exact e5'
    have k4 : upd L l1 (.lst (vs1 ++ [y])) T2 = some (.tup [u2, v2, .ref l2]) := by rw [upd_ne m2]; exact e4'
    have k3 : upd L l1 (.lst (vs1 ++ [y])) l2 = some (.lst vs2) := by rw [upd_ne m3]; exact e3'
    refine ⟨.ref p, hy7, _, F12, _, s14.holdL L14, fun F16 H16 e16 s16 z3 dz3 => ?_⟩
    obtain ⟨s17, L17⟩ := s14.unholdL L14 s16
    refine ⟨p, [.ref T1, .ref T2], 1, .ref T2, rfl, dp_int dz3, SqL.of (L17.h p _ k5), rfl, ?_⟩
    refine ⟨_, F16, _, s17.holdL L17, fun F18 H18 e18 s18 z4 dz4 => ?_⟩
    obtain ⟨s19, L19⟩ := s17.unholdL L17 s18
    refine ⟨T2, [u2, v2, .ref l2], 2, .ref l2, rfl, dp_int dz4, SqT.of (L19.h T2 _ k4), rfl, ?_⟩
    refine ⟨.inl ⟨rfl, vs2, SqL.of (L19.h l2 _ k3)⟩, l2, vs2, rfl, rfl, L19.h l2 _ k3, ?_⟩
    have s20 := s19.touch (o := .lst []) (L19.f l2 _ k3) (L19.g l2 _ k3) (L19.w l2 _ k3)
    exact ⟨c, F18, _, s20, SRun.up q3 (e6.trans (e8.trans (e10.trans (e12.trans (e16.trans e18)))))⟩
  | rt d r3 => exact fun q2 => q2.elim
  | ro d r3 => exact fun q2 => q2.elim
  | bk r3 => exact fun q2 => q2.elim
  | ct r3 => exact fun q2 => q2.elim
  | ex x r3 => exact fun q2 => q2.elim
  | no => exact fun q2 => q2.elim
end
end Dx

/-! a def whose answer is a new tuple, as it is called -/
namespace Dx
open PySem PySem.Spec PyProof.Rows L2
structure DefT (P : Program) (w : World) (K : PySem.W.Frag) (mg : Str → Option Value) (base : Heap) (k : Kn) (x : Str) (st : Stmt) (ps : List Str) (lv : Nat) (f : List Cell → R Tri) : Prop where
  ex : ∃ (fa : Addr) (fd : FuncData), mg x = some (.ref fa) ∧ Fun K x x st fa fd ∧ FnG P w K mg base lv fa fd ps (spT k ps.length f)
  bnd : ∀ (kV doc pm : Value) (an : Option Addr) (cdv ct : Value) (us : List Value), us.length = ps.length → bindArgs (PySem.W.fnOf x x (defArgs st) (defBody st) (defScope st) .none kV doc pm an cdv ct) ⟨us, []⟩ = pure (ps.zip us)
def mCallT (n : Nat) (f : List Cell → R Tri) (m : M (List Arg)) : M Tri := mbind m (callT n f)
def mCallTK (n j : Nat) (is : List Nat) (f : List Cell → R Tri) (m : M (List Arg)) (mk : M (List PyData)) (l : Nat) : M Tri := mbind m fun as => mbind mk fun ds => if as.length = j ∧ ds.length = l then callT n f (pick is as (ds.map Arg.d)) else fun _ => .no
section
variable {X : Cx} {k : Kn} {W : WX} {e : Expr} {pos p : Pos} {es : List Expr} {x : Str} {kws : List Keyword} {st : Stmt} {ps : List Str} {lv : Nat} {f : List Cell → R Tri}
theorem tCallT {m : M (List Arg)} (D : DefT X.prog X.w X.K X.mg X.base k x st ps lv f) (hr : Room lv X.A) (hgd : X.A.guards = some []) (hg : Gl X x) (tk : Takes X W) (ha : PA X (e :: es) (rA k W m)) (hdb : (x == ("__debug__" : Str)) = false := by decide)
    (he : starEach (e :: es) X.env = (false, eval e X.env) :: starEach es X.env := by rfl) (hpl : (backTo pos (starEach es X.env)).any (·.1) = false := by rfl) : PE X (.Call (.Name x p) (e :: es) [] pos) (rTri k W (mCallT ps.length f m)) := by
  obtain ⟨fa, fd, hm, fu, F⟩ := D.ex
  have hk := fu.kp
  have hb := fu.binds D.bnd
  refine pe_imp (pe_g (E := WE W) F hr hgd hg hm hk hb (passAt tk) ha hdb he hpl) fun σ H Q q => ?_
  obtain ⟨c, F, r, s, q⟩ := q
  exact ⟨c, F, r, s, (Run.bind q).imp fun as r1 F1 H1 e1 _ ⟨s1, _, q1⟩ ys dy => callT_sp s1 dy q1⟩
theorem tCallTK0 {mk : M (List PyData)} {ks : List Str} {is : List Nat} (D : DefT X.prog X.w X.K X.mg X.base k x st ps lv f)
    (h : ∀ (kV doc pm : Value) (an : Option Addr) (cdv ct : Value) (us ws : List Value), us.length = 0 → ws.length = ks.length → bindArgs (PySem.W.fnOf x x (defArgs st) (defBody st) (defScope st) .none kV doc pm an cdv ct) ⟨us, ks.zip ws⟩ = pure (ps.zip (pick is us ws)))
    (hr : Room lv X.A) (hgd : X.A.guards = some []) (hg : Gl X x) (tk : Takes X W) (hkw : PK X kws (rL k W mk)) (hall : (backToKw pos (keywordEach kws X.env)).all (·.1.isSome) = true := by rfl) (hks : (backToKw pos (keywordEach kws X.env)).filterMap (·.1) = ks := by rfl)
    (hdb : (x == ("__debug__" : Str)) = false := by decide) (hpl : ((backTo pos (starEach [] X.env)).any (·.1) || (backToKw pos (keywordEach kws X.env)).any (·.1.isNone)) = false := by rfl) : PE X (.Call (.Name x p) [] kws pos) (rTri k W (mCallTK ps.length 0 is f (mpure []) mk ks.length)) := by
  obtain ⟨fa, fd, hm, fu, F⟩ := D.ex
  refine pe_imp (pe_gk0 (E := WE W) F hr hgd hg hm fu.kp (kwb_of fu h) (passAt tk) hkw hall hks hdb hpl) fun σ H Q q => ?_
  obtain ⟨c, F, r, s, q⟩ := q
  have q0 := (Run.bind q) F H (Same.refl F) s
  obtain ⟨s1, _, q1⟩ := q0
  refine ⟨c, F, r, s1, (Run.bind q1).imp fun ds r2 F2 H2 e2 _ ⟨s2, _, q2⟩ zs dz => ?_⟩
  by_cases hl : ([] : List Arg).length = 0 ∧ ds.length = ks.length
  · rw [if_pos hl] at q2
    exact ⟨rfl, (DpAll.len dz).trans hl.2, callT_sp s2 (pick_rel .nil (args_data dz) is) q2⟩
  · rw [if_neg hl] at q2
    exact q2.elim
end
end Dx

/-! name -= e; a call with keywords of a def with defaults; a, b, c = [..], e, [..] -/
namespace Dx
open PySem PySem.Spec PyProof.Rows L2
section
variable {X : Cx} {k : Kn} {W : WX} {a b d tg e : Expr} {pos p : Pos} {es : List Expr} {x : Str} {kws : List Keyword}
def subTo (i : Nat) (u : Int) : PyData → S := fun d r => match d with
  | .int v => if i < r.length then .nx (r.set i (.v (.int (u - v)))) else .no
  | _ => .no
/-- name -= e, of whole numbers -/
def sAugM (i : Nat) (m : M PyData) : S := fun r => match r[i]? with
  | some (.v (.int u)) => sBind m (subTo i u) r
  | _ => .no
theorem sAugMD {i : Nat} {m : M PyData} {pos' : Pos} (hN : X.N.Nodup) (hi : X.N[i]? = some x) (hx : Loc X.env.scope x) (he : PE X e (rD k W m)) (hf : X.fn x = true ∨ X.env.scope.names.lookup x = some .local := by first | exact .inl rfl | exact .inr rfl | assumption) :
    PS X (.AugAssign (.Name x pos') .Sub e pos) (rS k W (sAugM i m)) := ps_imp (ps_aug hN hi hx he ip_sub hf) fun D σ H q => by
  obtain ⟨c, F, r, s, q⟩ := q
  have q1 : SRun k c W F (match r[i]? with
    | some (.v (.int u)) => sBind m (subTo i u) r
    | _ => .no) D := q
  cases hc : r[i]? with
  | none =>
    rw [hc] at q1
    exact q1.elim
  | some y =>
    rw [hc] at q1
    cases y with
    | u => exact q1.elim
    | p _ => exact q1.elim
    | o _ => exact q1.elim
    | io _ _ => exact q1.elim
    | v d =>
      cases d with
      | int u =>
        obtain ⟨z, hz, ok⟩ := s.slot hc
        obtain ⟨v, rfl, dv⟩ := ok
        have ev := dp_int dv
        subst ev
        refine ⟨_, hz, c, F, r, s, (SRun.bind q1).imp fun d r1 F1 H1 e1 _ ⟨s1, _, q2⟩ y dy => ?_⟩
        unfold subTo at q2
        cases d with
        | int w =>
          have ew := dp_int dy
          subst ew
          by_cases hl : i < r1.length
          · have q3 : SRun k c W F1 (if i < r1.length then SR.nx (r1.set i (.v (.int (u - w)))) else .no) D := q2
            rw [if_pos hl] at q3
            exact ⟨u, w, rfl, rfl, q3 F1 H1 _ (Same.refl F1) (s1.put hl (Dp.int _))⟩
          · have q3 : SRun k c W F1 (if i < r1.length then SR.nx (r1.set i (.v (.int (u - w)))) else .no) D := q2
            rw [if_neg hl] at q3
            exact q3.elim
        | none => exact q2.elim
        | str _ => exact q2.elim
        | list _ => exact q2.elim
        | tuple _ => exact q2.elim
        | bool _ => exact q2.elim
        | dict _ => exact q2.elim
      | none => exact q1.elim
      | str _ => exact q1.elim
      | list _ => exact q1.elim
      | tuple _ => exact q1.elim
      | bool _ => exact q1.elim
      | dict _ => exact q1.elim
end
/-! ### f(e, .., k = v) where f has defaults, all of them written -/
structure KwN (K : PySem.W.Frag) (fd : FuncData) (ps ks : List Str) (n : Nat) (g : {A : Type} → List A → List A → List A) : Prop where
  to : ∀ (s : Shared) (us ws : List Value), K.In s.heap → us.length = n → ws.length = ks.length → BindsTo s fd ⟨us, ks.zip ws⟩ (ps.zip (g us ws))
  rel : ∀ {vs : List V} {us : List Value} {zs : List V} {ws : List Value}, Vals vs us → Vals zs ws → vs.length = n → zs.length = ks.length → Vals (g vs zs) (g us ws)
section
variable {X : Cx} {k : Kn} {W : WX} {f : Addr} {fd : FuncData} {ps ks : List Str} {sp : Sp} {lv : Nat} {x : Str} {e : Expr} {es : List Expr} {t tk : TA} {p pos : Pos} {E : L2.St → XK} {kws : List Keyword} {st : Stmt} {dvs : List V} {g : List Cell → SR}
theorem pe_gkN {n : Nat} {g : {A : Type} → List A → List A → List A} (F : FnG X.prog X.w X.K X.mg X.base lv f fd ps sp) (hr : Room lv X.A) (hgd : X.A.guards = some []) (hg : Gl X x) (hm : X.mg x = some (.ref f)) (hk : PySem.W.keepIn X.K (.ref f) = true) (hb : KwN X.K fd ps ks n g)
    (hx : ∀ σ, PassesAt (L2.CX X.prog X.w) X σ (E σ)) (ha : PA X (e :: es) t) (hkw : PK X kws tk) (hall : (backToKw pos (keywordEach kws X.env)).all (·.1.isSome) = true := by rfl) (hks : (backToKw pos (keywordEach kws X.env)).filterMap (·.1) = ks := by rfl)
    (hdb : (x == ("__debug__" : Str)) = false := by decide) (he : starEach (e :: es) X.env = (false, eval e X.env) :: starEach es X.env := by rfl)
    (hpl : ((backTo pos (starEach (e :: es) X.env)).any (·.1) || (backToKw pos (keywordEach kws X.env)).any (·.1.isNone)) = false := by rfl) : PE X (.Call (.Name x p) (e :: es) kws pos) (tCallG sp n ks.length g E t tk) := ⟨fun pins s σ H Q I h => by
  refine wpAny_Call_Name_kw (ld_glob I hg hm (PySem.W.callWith_KW (h₀ := X.base) I.ok.mod.kin hk hall (thn (ha.run pos pins s σ H _ I h) fun us s1 hA => ?_) hpl he) hdb)
  obtain ⟨vs, H1, I1, r, q⟩ := hA
  refine thn (hkw.run pos pins s1 σ H1 _ I1 q) fun ws s2 hB => ?_
  obtain ⟨zs, H2, I2, rz, l1, l2, q2⟩ := hB
  rw [hks]
  refine ⟨I2.kIn, wpAny_call (codeAny_mono (goG (E := E) F hr hgd (fun _ => hb.to s2 us ws I2.kIn (by rw [← r.length]; exact l1) (by rw [← rz.length]; exact l2)) (hx σ) I2 (hb.rel r rz l1 l2) q2) fun r s' z => ?_)⟩
  cases r with
  | error e => exact z
  | ok fl => cases fl <;> first | exact z | exact z.elim⟩
theorem kwn_of {K : PySem.W.Frag} {fa : Addr} {fd : FuncData} {ks : List Str} {n : Nat} {is : List Nat} (fu : FunD K x x (defArgs st) (defBody st) (defScope st) dvs [] fa fd) (hd : dvs ≠ [])
    (h : ∀ (T : Addr) (kV doc pm : Value) (an : Option Addr) (cdv ct : Value) (us its ws : List Value), us.length = n → its.length = dvs.length → ws.length = ks.length →
      ∃ k', bindArgs (PySem.W.fnOf x x (defArgs st) (defBody st) (defScope st) (.ref T) kV doc pm an cdv ct) ⟨us, ks.zip ws⟩ = seqItems? (.ref T) >>= k' ∧ k' (some its.toArray) = pure (ps.zip (pick is us ws))) :
    KwN K fd ps ks n (fun us ws => pick is us ws) := by
  obtain ⟨oc, od, dV, kV, doc, pm, an, cdv, ct, osl, rfl, lk, hcd, hD, hK⟩ := fu.ex
  rcases hD with ⟨e, _⟩ | ⟨_, T, o, its, m, rfl, lT, oT, rT⟩
  · exact absurd e hd
  · refine ⟨fun s us ws X hu hw => ?_, fun r z _ _ => pick_rel r z is⟩
    obtain ⟨k', e1, e2⟩ := h T kV doc pm an cdv ct us its ws hu rT.length.symm hw
    refine BindsTo.of_looks fun M => ?_
    rw [e1]
    exact looks_items X lT oT (.of_pure e2)
theorem dCallWK {m : M (List Arg)} {mk : M (List PyData)} {n : Nat} {is : List Nat} (D : DefD X.prog X.w X.K X.mg X.base k x st ps dvs lv g) (hd : dvs ≠ [])
    (h : ∀ (T : Addr) (kV doc pm : Value) (an : Option Addr) (cdv ct : Value) (us its ws : List Value), us.length = n → its.length = dvs.length → ws.length = ks.length →
      ∃ k', bindArgs (PySem.W.fnOf x x (defArgs st) (defBody st) (defScope st) (.ref T) kV doc pm an cdv ct) ⟨us, ks.zip ws⟩ = seqItems? (.ref T) >>= k' ∧ k' (some its.toArray) = pure (ps.zip (pick is us ws)))
    (hr : Room lv X.A) (hgd : X.A.guards = some []) (hg : Gl X x) (tk : Takes X W) (ha : PA X (e :: es) (rA k W m)) (hkw : PK X kws (rL k W mk)) (hall : (backToKw pos (keywordEach kws X.env)).all (·.1.isSome) = true := by rfl) (hks : (backToKw pos (keywordEach kws X.env)).filterMap (·.1) = ks := by rfl)
    (hdb : (x == ("__debug__" : Str)) = false := by decide) (he : starEach (e :: es) X.env = (false, eval e X.env) :: starEach es X.env := by rfl)
    (hpl : ((backTo pos (starEach (e :: es) X.env)).any (·.1) || (backToKw pos (keywordEach kws X.env)).any (·.1.isNone)) = false := by rfl) : PE X (.Call (.Name x p) (e :: es) kws pos) (rD k W (mCallK ps.length n is g m mk ks.length)) := by
  obtain ⟨fa, fd, hm, fu, F⟩ := D.ex
  refine pe_imp (pe_gkN (E := WE W) F hr hgd hg hm fu.kp (kwn_of fu hd h) (passAt tk) ha hkw hall hks hdb he hpl) fun σ H Q q => ?_
  obtain ⟨c, F, r, s, q⟩ := q
  refine ⟨c, F, r, s, (Run.bind q).imp fun as r1 F1 H1 e1 _ ⟨s1, _, q1⟩ ys dy => ?_⟩
  refine ⟨c, F1, r1, s1, (Run.bind q1).imp fun ds r2 F2 H2 e2 _ ⟨s2, _, q2⟩ zs dz => ?_⟩
  by_cases hl : as.length = n ∧ ds.length = ks.length
  · rw [if_pos hl] at q2
    exact ⟨(args_len dy).trans hl.1, (DpAll.len dz).trans hl.2, callD_sp s2 (pick_rel (argsOk_up e2 dy) (args_data dz) is) q2⟩
  · rw [if_neg hl] at q2
    exact q2.elim
end
/-! ### a, b, c = [..], e, [..] -/
section
variable {X : Cx} {k : Kn} {W : WX} {a b d tg e : Expr} {pos p : Pos} {es : List Expr} {x : Str} {kws : List Keyword}
def sPar3 (i j l : Nat) (m : M (List PyData)) (n : M PyData) (o : M (List PyData)) : S := sBind m fun d => sBind n fun e => sBind o fun f => fun r => if i ≠ l ∧ j ≠ l ∧ i < r.length ∧ j < r.length ∧ l < r.length then .nx (((r.set i (.o d)).set j (.v e)).set l (.o f)) else .no
theorem fresh_putO {c : Cn} {F H : Hp} {r : Ev} {σ : List (Option V)} {i : Nat} {ds es : List PyData} {a b : Addr} {vs us : List V} (f : Fresh k c F H r σ a vs ds) (hb : b ≠ a) : Fresh k c F H (r.set i (.o es)) (σ.set i (some (.ref b))) a vs ds :=
  ⟨f.1, f.2.1, f.2.2.1, f.2.2.2.1, fun l x y e1 e2 w => by
    by_cases q : i = l
    · subst q
      by_cases hi : i < r.length
      · rw [List.getElem?_set_self hi] at e1
        cases e1
        have w' : y = some (.ref a) := w
        subst w'
        by_cases hs : i < σ.length
        · rw [List.getElem?_set_self hs] at e2
          cases e2
          exact hb rfl
        · rw [List.getElem?_eq_none (by rw [List.length_set]; omega)] at e2
          cases e2
      · rw [List.getElem?_eq_none (by rw [List.length_set]; omega)] at e1
        cases e1
    · rw [List.getElem?_set_ne q] at e1 e2
      exact f.2.2.2.2 l x y e1 e2 w⟩
theorem sPar3D {i j l : Nat} {y z : Str} {m o : M (List PyData)} {n : M PyData} {px py pz pt : Pos} {kt k2 pt2} (hc : X.calm = true) (hN : X.N.Nodup) (hi : X.N[i]? = some x) (hj : X.N[j]? = some y) (hl : X.N[l]? = some z) (hij : i ≠ j) (hil : i ≠ l) (hjl : j ≠ l)
    (hx : X.env.scope.names.lookup x = some .local) (hy : X.env.scope.names.lookup y = some .local) (hz : X.env.scope.names.lookup z = some .local)
    (ha : PE X a (rO k W m)) (hb : PE X b (rD k W n)) (hd : PE X d (rO k W o)) (hw : swappedStores [.Tuple [.Name x px, .Name y py, .Name z pz] kt pt] (.Tuple [a, b, d] k2 pt2) X.env = pure (some [x, y, z]) := by rfl)
    (hs : swapsWithSole [.Tuple [.Name x px, .Name y py, .Name z pz] kt pt] (.Tuple [a, b, d] k2 pt2) pos.line X.env = pure false := by rfl)
    (h1 : starEach [a, b, d] X.env = (false, eval a X.env) :: starEach [b, d] X.env := by rfl) (h2 : starEach [b, d] X.env = (false, eval b X.env) :: starEach [d] X.env := by rfl) (h3 : starEach [d] X.env = (false, eval d X.env) :: starEach [] X.env := by rfl) :
    PS X (.Assign [.Tuple [.Name x px, .Name y py, .Name z pz] kt pt] (.Tuple [a, b, d] k2 pt2) pos) (rS k W (sPar3 i j l m n o)) :=
  ps_imp (ps_par3 hc hN hi hj hl hij hil hjl hx hy hz (pa_cons ha (pa_cons hb (pa_cons hd pa_nil h3) h2) h1) hw hs) fun D σ H q => by
  obtain ⟨c, F, r, s, q⟩ := q
  refine ⟨c, F, r, s, (SRun.bind q).imp fun ds r1 F1 H1 e1 _ ⟨s1, _, q1⟩ A vs f => ?_⟩
  refine ⟨_, F1, r1, s1.hold f, (Run.under s1 f (Same.refl F1) (SRun.bind q1)).imp fun e r2 F2 H2 e2 _ ⟨s2, f2, _, _, q2⟩ u du => ?_⟩
  refine ⟨_, F2, r2, s2.hold f2, (Run.under s2 f2 (Same.refl F2) (SRun.bind q2)).imp fun es r3 F3 H3 e3 _ ⟨s3, f3, _, _, q3⟩ B us f4 => ?_⟩
  have nAB : B ≠ A := fun zz => by
    have h := f4.2.1
    rw [zz] at h
    have h' : upd c.G A (.lst vs) A = none := h
    rw [upd_same] at h'
    cases h'
  have fB : Fresh k c F3 H3 r3 σ B us es := ⟨f4.1, by
    have h := f4.2.1
    have h' : upd c.G A (.lst vs) B = none := h
    rw [upd_ne nAB] at h'
    exact h', f4.2.2⟩
  refine ⟨_, u, _, rfl, ?_⟩
  by_cases hh : i ≠ l ∧ j ≠ l ∧ i < r3.length ∧ j < r3.length ∧ l < r3.length
  · have q4 : SRun k c W F3 (if i ≠ l ∧ j ≠ l ∧ i < r3.length ∧ j < r3.length ∧ l < r3.length then SR.nx (((r3.set i (.o ds)).set j (.v e)).set l (.o es)) else .no) D := q3
    rw [if_pos hh] at q4
    exact q4 F3 _ _ (Same.refl F3) (((s3.putO hh.2.2.1 f3).put (by rw [List.length_set]; exact hh.2.2.2.1) (Dp.up e3 _ _ du)).putO (by rw [List.length_set, List.length_set]; exact hh.2.2.2.2) (fresh_put (fresh_putO (us := vs) fB (Ne.symm nAB))))
  · have q4 : SRun k c W F3 (if i ≠ l ∧ j ≠ l ∧ i < r3.length ∧ j < r3.length ∧ l < r3.length then SR.nx (((r3.set i (.o ds)).set j (.v e)).set l (.o es)) else .no) D := q3
    rw [if_neg hh] at q4
    exact q4.elim
def sPar3V (i j l : Nat) (m n o : M PyData) : S := sBind m fun d => sBind n fun e => sBind o fun f => fun r => if i < r.length ∧ j < r.length ∧ l < r.length then .nx (((r.set i (.v d)).set j (.v e)).set l (.v f)) else .no
theorem sPar3VD {i j l : Nat} {y z : Str} {m n o : M PyData} {px py pz pt : Pos} {kt k2 pt2} (hc : X.calm = true) (hN : X.N.Nodup) (hi : X.N[i]? = some x) (hj : X.N[j]? = some y) (hl : X.N[l]? = some z) (hij : i ≠ j) (hil : i ≠ l) (hjl : j ≠ l)
    (hx : X.env.scope.names.lookup x = some .local) (hy : X.env.scope.names.lookup y = some .local) (hz : X.env.scope.names.lookup z = some .local)
    (ha : PE X a (rD k W m)) (hb : PE X b (rD k W n)) (hd : PE X d (rD k W o)) (hw : swappedStores [.Tuple [.Name x px, .Name y py, .Name z pz] kt pt] (.Tuple [a, b, d] k2 pt2) X.env = pure (some [x, y, z]) := by rfl)
    (hs : swapsWithSole [.Tuple [.Name x px, .Name y py, .Name z pz] kt pt] (.Tuple [a, b, d] k2 pt2) pos.line X.env = pure false := by rfl)
    (h1 : starEach [a, b, d] X.env = (false, eval a X.env) :: starEach [b, d] X.env := by rfl) (h2 : starEach [b, d] X.env = (false, eval b X.env) :: starEach [d] X.env := by rfl) (h3 : starEach [d] X.env = (false, eval d X.env) :: starEach [] X.env := by rfl) :
    PS X (.Assign [.Tuple [.Name x px, .Name y py, .Name z pz] kt pt] (.Tuple [a, b, d] k2 pt2) pos) (rS k W (sPar3V i j l m n o)) :=
  ps_imp (ps_par3 hc hN hi hj hl hij hil hjl hx hy hz (pa_cons ha (pa_cons hb (pa_cons hd pa_nil h3) h2) h1) hw hs) fun D σ H q => by
  obtain ⟨c, F, r, s, q⟩ := q
  refine ⟨c, F, r, s, (SRun.bind q).imp fun d r1 F1 H1 e1 _ ⟨s1, _, q1⟩ v dv => ?_⟩
  refine ⟨c, F1, r1, s1, (SRun.bind q1).imp fun e r2 F2 H2 e2 _ ⟨s2, _, q2⟩ u du => ?_⟩
  refine ⟨c, F2, r2, s2, (SRun.bind q2).imp fun f r3 F3 H3 e3 _ ⟨s3, _, q3⟩ w dw => ?_⟩
  refine ⟨v, u, w, rfl, ?_⟩
  by_cases hh : i < r3.length ∧ j < r3.length ∧ l < r3.length
  · have q4 : SRun k c W F3 (if i < r3.length ∧ j < r3.length ∧ l < r3.length then SR.nx (((r3.set i (.v d)).set j (.v e)).set l (.v f)) else .no) D := q3
    rw [if_pos hh] at q4
    exact q4 F3 _ _ (Same.refl F3) (((s3.put hh.1 (Dp.up e3 _ _ (Dp.up e2 _ _ dv))).put (by rw [List.length_set]; exact hh.2.1) (Dp.up e3 _ _ du)).put (by rw [List.length_set, List.length_set]; exact hh.2.2) dw)
  · have q4 : SRun k c W F3 (if i < r3.length ∧ j < r3.length ∧ l < r3.length then SR.nx (((r3.set i (.v d)).set j (.v e)).set l (.v f)) else .no) D := q3
    rw [if_neg hh] at q4
    exact q4.elim
end
end Dx

/-! enumerate(xs, start=1) -/
namespace Dx
open PySem PySem.Spec PyProof.Rows L2
/-- the list at a as it stands at each turn, each item in a new pair, counted from 1 -/
def Ite1 (K : PySem.W.Frag) (a : Addr) : It :=
  ⟨fun i H => ∃ (xs : List V) (x : V), SqL K H a xs ∧ xs[i]? = some x, fun i H v H' => ∃ T x, v = .ref T ∧ H T = none ∧ H' = upd H T (.tup [.int ((i + 1 : Nat) : Int), x]) ∧ ∀ xs, SqL K H a xs → xs[i]? = some x, fun i H => ∃ xs : List V, SqL K H a xs ∧ xs.length ≤ i⟩
theorem nat_list {h : Heap} {it a : Addr} {i : Nat} {its : Array Value} (hit : h.IsListIter it a i) (hl : h.IsList a its) : a ≠ it := fun e => by
  subst e
  obtain ⟨o, e1, _, e2⟩ := hit
  obtain ⟨o2, e3, _, n, e4⟩ := hl
  rw [e1] at e3
  cases e3
  rw [e2] at e4
  cases e4
theorem enum_list {h : Heap} {e it a : Addr} {c : Int} {old : Value} {its : Array Value} (he : IsEnum h e it c old) (hl : h.IsList a its) : e ≠ a := fun q => by
  subst q
  obtain ⟨o2, e3, _, n, e4⟩ := hl
  have he' : h.get? e = _ := he
  rw [he'] at e3
  cases e3
  cases e4
theorem Draws.end1 {prog : Program} {w : World} {A : Around} (hh : A.handled = none) (it l : Addr) (items : Array Value) (i : Nat) (hi : items[i]? = none) :
    Draws prog w A it [it, l] i (fun _ _ => True) (fun j h => j = i ∧ h.IsListIter it l i ∧ h.IsList l items) where
  live := fun _ _ st => let ⟨o, ho, _⟩ := st.2.1; ⟨o, ho⟩
  frame := fun _ _ _ st hk => ⟨st.1, st.2.1.at fun o e => hk it (by simp) o e, st.2.2.at fun o e => hk l (by simp) o e⟩
  item := fun j s Q E hj st hQ => absurd st.1 (by omega)
  done := fun s Q E st hE => wpAny_nextOf_list_end hh st.2.1 st.2.2 hi hE
theorem turn_enum1 {P : Program} {w : World} {K : PySem.W.Frag} {elts : List Expr} {kk : Nat} {tpos : Pos} (a e it : Addr) :
    Turn P w K (.Tuple elts kk tpos) (Ite1 K a) [e, it] e (fun i h => (∃ old, IsEnum h e it ((i + 1 : Nat) : Int) old) ∧ h.IsListIter it a i ∧ e ≠ it) where
  mem := by simp
  obj := fun i h st b hb => by
    obtain ⟨⟨old, he⟩, ⟨o, ho, hc, hd⟩, _⟩ := st
    have e' : b = e ∨ b = it := by simpa using hb
    rcases e' with z | z
    · rw [z]; exact ⟨_, he, fun v q => nomatch q⟩
    · rw [z]; exact ⟨o, ho, fun v q => by rw [hd] at q; cases q⟩
  keep := fun i h h' st k => let ⟨⟨old, he⟩, hi, hne⟩ := st; ⟨⟨old, k e (by simp) _ he⟩, hi.at fun o q => k it (by simp) o q, hne⟩
  item := by
    intro X hP hw hK hc i pins s σ H E I hf st hg
    subst hP hw hK
    obtain ⟨⟨old, he⟩, hit, hne⟩ := st
    obtain ⟨xs, x, hq, hx⟩ := hg
    obtain ⟨its, rv, p, hz⟩ := I.list hq
    obtain ⟨u, hu, ru⟩ := rv.get hx
    have hel : e < s.heap.objs.size := Heap.lt_size he
    have hil : it < s.heap.objs.size := by obtain ⟨_, q, _⟩ := hit; exact Heap.lt_size q
    have hh : X.A.handled = none := I.ok.hd hc
    have nl : a ≠ it := nat_list hit p.isList
    have nle : e ≠ a := enum_list he p.isList
    refine wpAny_pyNext_enum_itemC (Draws.list (A := X.A.in1) hh it a nl its.toArray) he ⟨hit, p.isList⟩ (i := i) (by have := (List.getElem?_eq_some_iff.mp hu).1; simpa using this) hne (by simp [hne, nle]) fun u' h' tk hu' ho hst' hT hsz hk => ?_
    have hit' := hst'.1
    have eu : u' = u := by
      have h1 : its.toArray[i]? = some u' := hu'
      have h2 : its[i]? = some u' := by simpa using h1
      rw [hu] at h2
      cases h2
      rfl
    subst eu
    refine ⟨_, rfl, wpAny_letOwnedTupleGo_enum (s := { s with heap := h', toks := tk + 1 }) ho fun h'' he' sb => ?_⟩
    have hT2 : h''.get? s.heap.objs.size = some { cls := .type "tuple", data := .seq #[.int ((i + 1 : Nat) : Int) tk, u'] } := (sb.2 _ (Nat.ne_of_gt hel)).trans hT
    have new : ObjOk X.prog X.w (upd H s.heap.objs.size (.tup [.int ((i + 1 : Nat) : Int), x])) h'' s.heap.objs.size (.tup [.int ((i + 1 : Nat) : Int), x]) :=
      ⟨by show 2 ≤ sizeLine; decide, [.int ((i + 1 : Nat) : Int) tk, u'], .cons ⟨_, rfl⟩ (.cons ru .nil), ⟨_, hT2, rfl, _, rfl⟩⟩
    have I1 : Inv X pins σ (upd H s.heap.objs.size (.tup [.int ((i + 1 : Nat) : Int), x])) { s with heap := h'', toks := tk + 1 } :=
      I.turnedNew (ch := [e, it]) (fun b ob hb q => (sb.2 b (fun z => hb (by simp [z]))).trans (hk b ob (fun z => hb (by simp [z])) (fun z => hb (by simp [z])) q)) hf (Nat.le_refl _) new
    refine ⟨.ref s.heap.objs.size, _, I1, rfl, ⟨_, x, rfl, I.hok.fresh (Nat.le_refl _), rfl, fun ys hy => by rw [I.list_inj hy hq]; exact hx⟩, ⟨⟨u', ?_⟩, hit'.at fun o q => (sb.2 it (Ne.symm hne)).trans q, hne⟩, fun b hb => ?_⟩
    · have e1 : ((i + 1 + 1 : Nat) : Int) = ((i + 1 : Nat) : Int) + 1 := by omega
      rw [e1]; exact he'
    · have hb' : b < s.heap.objs.size := by
        have e' : b = e ∨ b = it := by simpa using hb
        rcases e' with z | z
        · rw [z]; exact hel
        · rw [z]; exact hil
      rw [upd_ne (Nat.ne_of_lt hb')]
      exact (hf b hb).1
  done := by
    intro X hP hw hK hc i pins s σ H E I hf st hg
    subst hP hw hK
    obtain ⟨⟨old, he⟩, hit, hne⟩ := st
    obtain ⟨xs, hq, hx⟩ := hg
    obtain ⟨its, rv, p, hz⟩ := I.list hq
    obtain ⟨f0, f1, f2, f3, f4, f5⟩ := hf it (by simp)
    have hl := rv.length
    exact wpAny_pyNext_enum_endD (Draws.end1 (A := X.A.in1) (I.ok.hd hc) it a its.toArray i (by simp; omega)) he ⟨rfl, hit, p.isList⟩ fun h' eb => ⟨rfl, I.turned (t' := s.toks) (fun b o hb q => eb b o hb q) f0 f1 f3 f4 f5⟩
  self := fun A i s Q E st h => let ⟨⟨_, he⟩, _⟩ := st; wpAny_pyIter_enum he h
section
variable {M : Model} {A : Around} {E : Value → Shared → Prop} {s : Shared} {env : Env}
theorem callWith_typeK {pos : Pos} {T : String} {e : Expr} {rest : List Expr} {kws : List Keyword} {Q : Value → Shared → Prop}
    (h : wpAny M A (spliced (backTo pos (starEach (e :: rest) env))) (fun vs s₁ => wpAny M A (evalAll ((backToKw pos (keywordEach kws env)).map (·.2)))
      (fun kvs s₂ => wpAny M A (call (.type T) vs (((backToKw pos (keywordEach kws env)).filterMap (·.1)).zip kvs)) Q E s₂) E s₁) E s)
    (he : backTo pos (starEach (e :: rest) env) = (false, eval e env) :: backTo pos (starEach rest env))
    (hplain : (backTo pos (starEach (e :: rest) env)).any (·.1) = false)
    (hall : (backToKw pos (keywordEach kws env)).all (·.1.isSome) = true)
    (hkw : (backToKw pos (keywordEach kws env)).any (·.1.isNone) = false) :
    wpAny M A (callWith pos (.type T) [] (backTo pos (starEach (e :: rest) env)) (backToKw pos (keywordEach kws env))) Q E s := by
  have h2 : wpAny M A (evalArgs (.type T) true (backTo pos (starEach (e :: rest) env)) (backToKw pos (keywordEach kws env))) (fun a s₁ => wpAny M A (call (.type T) ([] ++ a.pos) a.kw) Q E s₁) E s := by
    rw [he] at h ⊢
    exact evalArgs_kwB hall h
  unfold callWith
  refine wpAny_bind (wpAny_holding (wpAny_mono h2 (fun a s₁ h₁ => wpAny_bind (wpAny_standAt ?_)) fun _ _ x => x))
  simp only [hplain, hkw, Bool.or_false]
  refine wpAny_bind (wpAny_pure ?_)
  exact wpAny_bind (wpAny_mono h₁ (fun r s₂ hr => wpAny_bind (wpAny_holding (wpAny_point (wpAny_pure hr)))) fun _ _ x => x)
end
section
variable {X : Cx} {k : Kn} {W : WX} {e : Expr} {kws : List Keyword}
def iEnumS (K : PySem.W.Frag) (ta tk : TA) : TI := fun σ H R => ta σ H fun vs H1 => tk σ H1 fun zs H2 => ∃ a xs, vs = [.ref a] ∧ zs = [.int 1] ∧ SqL K H2 a xs ∧ R (Ite1 K a) H2
theorem pi_enumS {ta tk : TA} {p pos tpos : Pos} {elts : List Expr} {kk : Nat} (hg : Gl X "enumerate") (hm : X.mg "enumerate" = none) (ha : PA X [e] ta) (hk : PK X kws tk) (he : backTo pos (starEach [e] X.env) = (false, eval e X.env) :: backTo pos (starEach [] X.env) := by rfl) (h1 : ((backTo pos (starEach [e] X.env)).any (·.1)) = false := by rfl) (h2 : ((backToKw pos (keywordEach kws X.env)).all (·.1.isSome)) = true := by rfl)
    (h3 : ((backToKw pos (keywordEach kws X.env)).any (·.1.isNone)) = false := by rfl) (h4 : (backToKw pos (keywordEach kws X.env)).filterMap (·.1) = [("start" : Str)] := by rfl) :
    PI X (.Tuple elts kk tpos) (.Call (.Name "enumerate" p) [e] kws pos) (iEnumS X.K ta tk) := by
  refine ⟨fun pins s σ H R I h => ?_⟩
  refine wpAny_Call_Name_kw (ld_blt I hg hm boot_enumerate (callWith_typeK (thn (ha.run pos pins s σ H _ I h) fun us s1 hA => ?_) he h1 h2 h3))
  obtain ⟨vs, H1, I1, r1, q1⟩ := hA
  refine thn (hk.run pos pins s1 σ H1 _ I1 q1) fun ws s2 hB => ?_
  obtain ⟨zs, H2, I2, rz, a, xs, ex, ez, hq, q⟩ := hB
  subst ex ez
  rw [h4]
  cases r1 with
  | cons r rr =>
    cases rr
    cases r
    cases rz with
    | cons rz' rr' =>
      cases rr'
      obtain ⟨t1, e1⟩ := rz'
      subst e1
      obtain ⟨its, rv, p', hz⟩ := I2.list hq
      show wpAny _ _ (call (.type "enumerate") [.ref a] [(("start" : Str), .int 1 t1)]) _ _ _
      refine enum_begins_start (begins_list a its.toArray) p'.isList (by omega) (by omega) fun h' he hit hsz hk => wpAny_pyIter_enum he ?_
      have I3 : Inv X pins σ H2 { s2 with heap := h' } := I2.kept (t' := s2.toks) hk
      refine ⟨s2.heap.objs.size + 1, [s2.heap.objs.size + 1, s2.heap.objs.size], _, _, H2, rfl, I3, turn_enum1 a (s2.heap.objs.size + 1) s2.heap.objs.size, ⟨⟨.none, he⟩, ⟨_, hit, rfl, rfl⟩, Nat.succ_ne_self _⟩, fun b hb => ?_, q⟩
      have e' : b = s2.heap.objs.size + 1 ∨ b = s2.heap.objs.size := by simpa using hb
      have hle : s2.heap.objs.size ≤ b := by
        rcases e' with z | z
        · rw [z]; exact Nat.le_add_right _ _
        · rw [z]; exact Nat.le_refl _
      exact I2.fpOk hle (I2.hok.fresh hle)
theorem items_enum1 {F : Hp} {p : Addr} {xs : List V} {ds : List PyData} (h : SqL k.K F p xs) (hd : DpAll k.K F xs ds) : Items k F (Ite1 k.K p) (enumL 1 ds) := fun c F1 H1 r σ e s i => by
  have hq : SqL k.K H1 p xs := s.fh.seq (e.seq h)
  refine ⟨fun d hd1 => ?_, fun hi => ⟨xs, hq, by rw [enum_len] at hi; rw [DpAll.len hd]; exact hi⟩⟩
  have hi : i < ds.length := by
    have := (List.getElem?_eq_some_iff.mp hd1).1
    rw [enum_len] at this
    exact this
  have hx := List.getElem?_eq_getElem hi
  obtain ⟨v, hv, dv⟩ := DpAll.get hd hx
  rw [enum_get ds 1 i _ hx] at hd1
  cases hd1
  refine ⟨⟨xs, v, hq, hv⟩, fun x H' ⟨T, z, e1, nT, e2, hz⟩ => ?_⟩
  have e3 := Option.some.inj ((hz xs hq).symm.trans hv)
  rw [← e3] at dv
  subst e1 e2
  have e4 : (((1 + i : Nat)) : Int) = ((i + 1 : Nat) : Int) := by omega
  rw [e4]
  exact ⟨upd F1 T (.tup [.int ((i + 1 : Nat) : Int), z]), same_new (s.nF nT), s.alloc nT, Dp.tup (SqT.of upd_same) (DpAll.cons (Dp.int _) (DpAll.one (Dp.up (same_new (s.nF nT)) _ _ (Dp.up e _ _ dv))))⟩
def enumS : List PyData → List PyData → Option (List PyData)
  | [.list xs], [.int 1] => some (enumL 1 xs)
  | _, _ => none
theorem enumS_inv {ds es zs : List PyData} (h : enumS ds es = some zs) : ∃ xs, ds = [.list xs] ∧ es = [.int 1] ∧ zs = enumL 1 xs := by
  unfold enumS at h
  split at h
  · cases h
    exact ⟨_, rfl, rfl, rfl⟩
  · cases h
def mEnumS (m n : M (List PyData)) : M (List PyData) := mbind m fun ds => mbind n fun es => mopt (enumS ds es)
theorem iEnum1 {m n : M (List PyData)} {p pos tpos : Pos} {elts : List Expr} {kk : Nat} (hg : Gl X "enumerate") (hm : X.mg "enumerate" = none) (ha : PA X [e] (rL k W m)) (hk : PK X kws (rL k W n)) (hK : X.K = k.K := by rfl) (he : backTo pos (starEach [e] X.env) = (false, eval e X.env) :: backTo pos (starEach [] X.env) := by rfl) (h1 : ((backTo pos (starEach [e] X.env)).any (·.1)) = false := by rfl) (h2 : ((backToKw pos (keywordEach kws X.env)).all (·.1.isSome)) = true := by rfl)
    (h3 : ((backToKw pos (keywordEach kws X.env)).any (·.1.isNone)) = false := by rfl) (h4 : (backToKw pos (keywordEach kws X.env)).filterMap (·.1) = [("start" : Str)] := by rfl) :
    PI X (.Tuple elts kk tpos) (.Call (.Name "enumerate" p) [e] kws pos) (rI k W (mEnumS m n)) :=
  pi_imp (pi_enumS hg hm ha hk he h1 h2 h3 h4) fun σ H R q => by
    obtain ⟨c, F, r, s, q⟩ := q
    refine ⟨c, F, r, s, (Run.bind q).imp fun ds r1 F1 H1 e1 _ ⟨s1, _, q1⟩ ys dy => ?_⟩
    refine ⟨c, F1, r1, s1, (Run.bind q1).imp fun es r2 F2 H2 e2 _ ⟨s2, _, q2⟩ us du => ?_⟩
    obtain ⟨zs, hz, kk⟩ := Run.opt q2
    obtain ⟨xs, rfl, rfl, rfl⟩ := enumS_inv hz
    obtain ⟨y, rfl, d1⟩ := dpAll1 dy
    obtain ⟨u, rfl, d2⟩ := dpAll1 du
    obtain ⟨p, vs, rfl, p1, p2⟩ := dp_lst d1
    have eu := dp_int d2
    subst eu
    rw [hK]
    exact ⟨p, vs, rfl, rfl, s2.fh.seq (e2.seq p1), kk F2 H2 (Same.refl F2) s2 _ (items_enum1 (e2.seq p1) (DpAll.up e2 _ _ p2))⟩
end
end Dx

/-! list[i] -= e -/
namespace Dx
open PySem PySem.Spec PyProof.Rows L2
section
variable {X : Cx} {k : Kn} {W : WX} {a b e : Expr} {pos p : Pos} {x : Str}
def subAt (i : Nat) (j u : Int) : PyData → S := fun d r => match d with
  | .int v => match setOwn (.int j) (.int (u - v)) r[i]? with
    | some x => .nx (r.set i x)
    | none => .no
  | _ => .no
/-- o[n] -= e at the owned list at slot i -/
def sAugIxM (i : Nat) (n m : M PyData) : S := sBind (mHas i n) fun e => fun r => match numAt e r[i]? with
  | some (j, u) => sBind m (subAt i j u) r
  | none => .no
theorem sAugIxMD {i : Nat} {n m : M PyData} {tpos : Pos} (ha : PE X a (tVar i)) (hb : PE X b (rD k W n)) (he : PE X e (rD k W m)) (hK : X.K = k.K := by rfl)
    (hs : ∀ ov iv new, augStore b ov iv new = (do holding [new, ov, iv] (setItem ov iv new); release [new, ov, iv] []; pure .next) := by intros; rfl) : PS X (.AugAssign (.Subscript a b tpos) .Sub e pos) (rS k W (sAugIxM i n m)) :=
  ps_imp (ps_augS ha hb get_list he ip_sub set_list hs) fun D σ H q => by
    obtain ⟨c, F, r, s, q⟩ := q
    obtain ⟨p, hy, q0⟩ := has_inv s (SRun.bind q)
    refine ⟨.ref p, hy, c, F, r, s, q0.imp fun e r1 F1 H1 e1 _ ⟨s1, _, q1⟩ z dz => ?_⟩
    have q2 : SRun k c W F1 (match numAt e r1[i]? with
      | some (j, u) => sBind m (subAt i j u) r1
      | none => .no) D := q1
    cases hn : numAt e r1[i]? with
    | none =>
      rw [hn] at q2
      exact q2.elim
    | some ju =>
      obtain ⟨j, u⟩ := ju
      rw [hn] at q2
      obtain ⟨x0, ds, rfl, hx, ho, hj⟩ := numAt_inv hn
      obtain ⟨vs, _, hH, dd⟩ := own_at s1 hx ho hy
      obtain ⟨v, hv, dv⟩ := dpAll_at dd hj
      have ev := dp_int dv
      subst ev
      refine ⟨p, vs, j, _, rfl, dp_int dz, hK ▸ SqL.of hH, hv, c, F1, r1, s1, (SRun.bind q2).imp fun d r2 F2 H2 e2 _ ⟨s2, _, q3⟩ y dy => ?_⟩
      unfold subAt at q3
      cases d with
      | int w =>
        have ew := dp_int dy
        subst ew
        refine ⟨u, w, rfl, rfl, ?_⟩
        have q4 : SRun k c W F2 (match setOwn (.int j) (.int (u - w)) r2[i]? with
          | some x => .nx (r2.set i x)
          | none => .no) D := q3
        cases h3 : setOwn (.int j) (.int (u - w)) r2[i]? with
        | none =>
          rw [h3] at q4
          exact q4.elim
        | some x' =>
          rw [h3] at q4
          obtain ⟨j', x2, ds2, kk, ej, hx2, hl2, hn2, rfl⟩ := setOwn_inv h3
          cases ej
          obtain ⟨vs2, _, hH2, dd2⟩ := own_at s2 hx2 hl2 hy
          obtain ⟨ok, w', w0⟩ := setL_ok (s2.cell i x2 _ hx2 hy) hl2 (DpAll.set (v := .int (u - w)) (Dp.int _) kk dd2)
          exact ⟨p, vs2, j, kk, rfl, dp_int (Dp.up e2 _ _ dz), hH2, by rw [DpAll.len dd2]; exact hn2, q4 F2 _ σ (Same.refl F2) (s2.write hx2 hy w0 w' ok)⟩
      | none => exact q3.elim
      | str _ => exact q3.elim
      | list _ => exact q3.elim
      | tuple _ => exact q3.elim
      | bool _ => exact q3.elim
      | dict _ => exact q3.elim
@[simp] theorem e_augm (i : Nat) (m : M PyData) (r : Ev) : sAugM i m r = match r[i]? with
  | some (.v (.int u)) => sBind m (subTo i u) r
  | _ => .no := rfl
@[simp] theorem e_subto (i : Nat) (u v : Int) (r : Ev) : subTo i u (.int v) r = if i < r.length then .nx (r.set i (.v (.int (u - v)))) else .no := rfl
end
end Dx

/-! e not in own: the list stays one's own -/
namespace Dx
open PySem PySem.Spec PyProof.Rows L2
def notInB (d : PyData) (ds : List PyData) : Option Bool := if SeqAt.shaped d = true ∧ SeqAt.shaped (.list ds) = true then some (!ds.any fun z => PyData.eqv z d) else none
/-- e not in the owned list at slot i -/
def mNotInO (i : Nat) (m : M PyData) : M Bool := mbind m fun d r => match r[i]?.bind ownL with
  | some ds => mopt (notInB d ds) r
  | none => .no
section
variable {X : Cx} {k : Kn} {W : WX} {a b e : Expr} {pos p : Pos} {x : Str}
theorem tNotInO {i : Nat} {m : M PyData} (hu : X.A.units + 65 < cLine) (ha : PE X a (rD k W m)) (hb : PE X b (tVar i)) (hm : behindInMarks .NotIn b = false) (hK : X.K = k.K := by rfl) :
    PT X (.Compare a [.NotIn] [b] pos) (rT k W (mNotInO i m)) :=
  pt_imp (pt_cmpR (op_notInD hu) ha hb hm) fun σ H Q q => by
    obtain ⟨c, F, r, s, q⟩ := q
    refine ⟨c, F, r, s, (Run.bind q).imp fun d r1 F1 H1 e1 _ ⟨s1, _, q1⟩ x dx => ?_⟩
    cases hx : r1[i]? with
    | none =>
      have q2 : Run k c W σ F1 (match r1[i]?.bind ownL with
        | some ds => mopt (notInB d ds) r1
        | none => .no) fun b _ F' H' => Q b H' := q1
      rw [hx] at q2
      exact q2.elim
    | some z =>
      have q2 : Run k c W σ F1 (match r1[i]?.bind ownL with
        | some ds => mopt (notInB d ds) r1
        | none => .no) fun b _ F' H' => Q b H' := q1
      rw [hx] at q2
      cases ho : ownL z with
      | none =>
        rw [show (some z).bind ownL = none from ho] at q2
        exact q2.elim
      | some ds =>
        rw [show (some z).bind ownL = some ds from ho] at q2
        obtain ⟨bb, hz, kk⟩ := Run.opt q2
        unfold notInB at hz
        split at hz
        · rename_i hc
          cases hz
          obtain ⟨p, hp⟩ : ∃ p, σ[i]? = some (some (.ref p)) := by
            obtain ⟨y, hy, ok⟩ := s1.slot hx
            cases z with
            | u => cases ho
            | v _ => cases ho
            | p _ => cases ho
            | o _ =>
              obtain ⟨a, vs, rfl, _⟩ := ok
              exact ⟨a, hy⟩
            | io _ _ =>
              obtain ⟨a, vs, rfl, _⟩ := ok
              exact ⟨a, hy⟩
          obtain ⟨vs, _, hH, dd⟩ := own_at s1 hx ho hp
          refine ⟨.ref p, hp, ?_⟩
          rw [hK]
          exact ⟨d, ds, Dp.up s1.fh _ _ dx, Dp.lst (SqL.of hH) (DpAll.up s1.fh _ _ dd), hc.1, hc.2, _, rfl, kk F1 H1 (Same.refl F1) s1⟩
        · cases hz
@[simp] theorem e_notino (i : Nat) (m : M PyData) (r : Ev) : mNotInO i m r = mbind m (fun d r => match r[i]?.bind ownL with
  | some ds => mopt (notInB d ds) r
  | none => .no) r := rfl
end
end Dx

namespace Dx
open PySem PySem.Spec PyProof.Rows L2
/-! ### errors of the program's classes without __init__: raised, caught under a name that is kept -/
structure ErrC (K : PySem.W.Frag) (ct : String → Option Value) (mg : Str → Option Value) (n : String) (x : Str) (C : Addr) : Prop where
  g : mg x = some (.ref C)
  x : PySem.W.excIn K C [.type "ValueError", .type "Exception", .type "BaseException", .type "object"] "ValueError.__new__" = true
  k : PySem.W.keepIn K (.ref C) = true
  b : PySem.W.subIn K (.ref C) (.type "BaseException") = some true
  t : PySem.W.typeIn K (.ref C) = some (.type "type")
  e : PySem.W.exmOne K (.ref C) (.ref C) = some true
  c : ct n = some (.ref C)
def ErrF (K : PySem.W.Frag) (ct : String → Option Value) (mg : Str → Option Value) (n : String) (x : Str) : Prop := ∃ C, ErrC K ct mg n x C
def mErr (n : String) : S := fun r => .ex ⟨n, []⟩ r
section
variable {X : Cx} {k : Kn} {W : WX} {n : String} {x e : Str}
theorem sRaiseD {m : Str} {j : Nat} {p p2 pos pos' : Pos} (T : ErrF X.K k.ct X.mg n x) (hc : X.calm = true) (tk : Takes X W) (hg : Gl X x) (hdb : (x == ("__debug__" : Str)) = false := by decide) :
    PS X (.Raise (some (.Call (.Name x p) [.Constant (.str m) j p2] [] pos)) none pos') (rS k W (mErr n)) := by
  obtain ⟨C, T⟩ := T
  refine ps_imp (ps_raise hc tk (pmk_own PySem.F.excBase_ValueError T.x T.g T.k (raises_own T.b T.t) hg hdb)) fun D σ H q => ?_
  obtain ⟨c, F, r, s, q⟩ := q
  exact q F H σ (.ref C) none (Same.refl F) s ⟨T.c, .inl rfl⟩
/-- try: told = .. except X as e: caught = e; return told if caught is None else None -/
def sAsk (n : String) (ic ie : Nat) (mb mret : S) : S := fun r => match mb r with
  | .nx r1 => mret r1
  | .ex x r1 => if ic < r1.length ∧ ie < r1.length ∧ x.cls = n then .rt .none r1 else .no
  | _ => .no
theorem pss_or {X : Cx} {b : List Stmt} {t u : TS} (h1 : PSs X b t) (h2 : PSs X b u) : PSs X b (fun D σ H => t D σ H ∨ u D σ H) := ⟨fun pins s σ H D I q => q.elim (h1.run pins s σ H D I) (h2.run pins s σ H D I)⟩
abbrev rIsNon : R2 := fun x y H Q => y = .non ∧ Q (.bl (decide (x = .non))) H
theorem sAskD {body : List Stmt} {ie ic : Nat} {st ret : Stmt} {tt : TE} {np pos pos' : Pos} {mb mret : S} (T : ErrF X.K k.ct X.mg n x) (hs : X.stack = X.env :: X.outer) (hf : X.env.frame = some X.env.locals)
    (hN : X.N.Nodup) (hie : X.N[ie]? = some e) (hne : ic ≠ ie) (hle : X.env.kindOf e = some .local) (hg : Gl X x) (hdb : (x == ("__debug__" : Str)) = false)
    (hsu : ∀ (a : Addr) (pn : List (Addr × Obj)), PS (X.suite a pn) st (tAsg (tVar ie) (gName ic)))
    (hrr : PS X ret (tRet (tIf (tTest (tOp rIsNon (tVar ic) (tC .non))) tt (tC .non))))
    (hb : ∀ (W : WX) (pn : List (Addr × Obj)) (xe : Value → Shared → Prop), Takes (X.tr pn xe) W → PSs (X.tr pn xe) body (rS k W mb))
    (hr : PSs X [ret] (rS k W mret)) :
    PSs X [.Try body [.ExceptHandler (some (.Name x np)) (some e) [st] pos'] [] [] pos, ret] (rS k W (sAsk n ic ie mb mret)) := by
  obtain ⟨C, T⟩ := T
  have h1 := ps_try_as (np := np) (pos := pos) (pos' := pos') (suite := []) (b₀ := st) (tb := fun W => rS k W mb) (ts := fun _ _ _ => tAsg (tVar ie) (gName ic)) (Wout := fun _ _ _ _ => False) hs hf hN hie hle ⟨hg, hdb, .inl T.g⟩ takes0 (fun W pn xe tk _ => hb W pn xe tk) (fun a oe cls d pn _ _ => pss_one (hsu a _))
  refine pss_imp (pss_cons h1 (pss_or hr (pss_one hrr))) fun D σ H q => ?_
  obtain ⟨c, F, r, s, q⟩ := q
  refine ⟨c, F, r, s, ?_⟩
  have q1 : SRun k c W F (match mb r with
    | .nx r1 => mret r1
    | .ex x r1 => if ic < r1.length ∧ ie < r1.length ∧ x.cls = n then .rt .none r1 else .no
    | _ => .no) D := q
  revert q1
  cases mb r with
  | nx r1 => exact fun q1 F' H' σ' e' s' => Or.inl ⟨c, F', r1, s', q1.up e'⟩
  | ex y r1 =>
    intro q1 F' H' σ' cls dd e' s' xr
    have q2 : SRun k c W F (if ic < r1.length ∧ ie < r1.length ∧ y.cls = n then .rt .none r1 else .no) D := q1
    by_cases hc : ic < r1.length ∧ ie < r1.length ∧ y.cls = n
    · rw [if_pos hc] at q2
      have hcl : cls = .ref C := by
        have := xr.1
        rw [hc.2.2, T.c] at this
        exact (Option.some.inj this).symm
      subst hcl
      have hl : ic < σ'.length := s'.len ▸ hc.1
      have hli : ie < σ'.length := s'.len ▸ hc.2.1
      refine ⟨true, T.e, fun _ a ha => ?_, fun z => nomatch z⟩
      refine ⟨.ref a, ?_, ?_⟩
      · rw [List.getElem?_set_self hli]
      · refine Or.inr ⟨.ref a, ?_, rfl, false, rfl, ?_⟩
        · rw [List.getElem?_set_ne (Ne.symm hne), List.getElem?_set_self (by rw [List.length_set]; exact hl)]
        · exact q2 F' H' σ' .non e' s' Dp.non
    · rw [if_neg hc] at q2
      exact q2.elim
  | rt d r1 => exact fun q1 => q1.elim
  | ro ds r1 => exact fun q1 => q1.elim
  | bk r1 => exact fun q1 => q1.elim
  | ct r1 => exact fun q1 => q1.elim
  | no => exact fun q1 => q1.elim
end
end Dx

/-! repr(own): the list stays one's own -/
namespace Dx
open PySem PySem.Spec PyProof.Rows L2
def repOwn (x : Option Cell) : Option PyData := match x.bind ownL with
  | some ds => fRepr [.list ds]
  | none => none
def mRepO (i : Nat) : M PyData := mHas i fun r => mopt (repOwn r[i]?) r
@[simp] theorem e_repo (i : Nat) (r : Ev) : mRepO i r = mHas i (fun r => mopt (repOwn r[i]?) r) r := rfl
section
variable {X : Cx} {k : Kn} {W : WX} {a : Expr} {pos p : Pos}
theorem dRepO {i : Nat} (hgd : X.A.guards = some []) (hu : X.A.units + 66 < cLine) (ha : PE X a (tVar i)) (hg : Gl X "repr") (hm : X.mg "repr" = none) (hv : bootBuiltins "repr" = some (.builtin "repr")) (hK : X.K = k.K := by rfl)
    (hs : starEach [a] X.env = (false, eval a X.env) :: starEach [] X.env := by rfl) (hpl : (backTo pos (starEach [] X.env)).any (·.1) = false := by rfl) :
    PE X (.Call (.Name "repr" p) [a] [] pos) (rD k W (mRepO i)) := pe_imp (pe_callB (call_reprD hgd hu) hg hm hv (pa_cons ha pa_nil hs) (he := hs) (hpl := hpl)) fun σ H Q q => by
  obtain ⟨c, F, r, s, q⟩ := q
  obtain ⟨p, hy, q0⟩ := has_inv s q
  obtain ⟨z, hz, kk⟩ := Run.opt q0
  unfold repOwn at hz
  cases hx : r[i]? with
  | none =>
    rw [hx] at hz
    cases hz
  | some x =>
    rw [hx] at hz
    cases ho : ownL x with
    | none =>
      rw [show (some x).bind ownL = none from ho] at hz
      cases hz
    | some ds =>
      rw [show (some x).bind ownL = some ds from ho] at hz
      have hz2 : (if reprOk (.list ds) = true then some (PyData.str (PyData.list ds).shown) else none) = some z := hz
      by_cases hc : reprOk (.list ds) = true
      · rw [if_pos hc] at hz2
        cases hz2
        obtain ⟨vs, _, hH, dd⟩ := own_at s hx ho hy
        refine ⟨.ref p, hy, .ref p, .list ds, rfl, ?_, hc, kk F H (Same.refl F) s _ (Dp.str _)⟩
        rw [hK]
        exact Dp.lst (SqL.of hH) (DpAll.up s.fh _ _ dd)
      · rw [if_neg hc] at hz2
        cases hz2
end
end Dx

/-! the top of a law whose defs raise and catch own errors -/
namespace Dx
open PySem PySem.Spec PyProof.Rows L2
/-- the class that a name of the program stands for -/
def ctOf (K : PySem.W.Frag) (n : String) : Option Value := (PySem.W.nsIn K mainGlobals (Str.ofString n)).join
theorem exm_err {K : PySem.W.Frag} {C : Addr} (b : PySem.W.subIn K (.ref C) (.type "BaseException") = some true) (i : PySem.W.isClsIn K C = true) (t : PySem.W.typeIn K (.ref C) = some (.type "type")) (s : PySem.W.subIn K (.ref C) (.ref C) = some true) : PySem.W.exmOne K (.ref C) (.ref C) = some true := by
  have i2 : (PySem.W.clsIn K C).isSome = true := i
  simp [PySem.W.exmOne, PySem.W.kitCls, b, t, s, i2]
theorem err_mk {K : PySem.W.Frag} {h : Heap} {mg : Str → Option Value} (X : K.In h) (G : h.Ns mainGlobals mg) {n : String} {C : Addr} (a : PySem.W.nsIn K mainGlobals (Str.ofString n) = some (some (.ref C)))
    (x : PySem.W.excIn K C [.type "ValueError", .type "Exception", .type "BaseException", .type "object"] "ValueError.__new__" = true) (kp : PySem.W.keepIn K (.ref C) = true) (b : PySem.W.subIn K (.ref C) (.type "BaseException") = some true)
    (t : PySem.W.typeIn K (.ref C) = some (.type "type")) (i : PySem.W.isClsIn K C = true) (s : PySem.W.subIn K (.ref C) (.ref C) = some true) : ErrF K (ctOf K) mg n (Str.ofString n) :=
  ⟨C, PySem.W.mg_of X G a, x, kp, b, t, exm_err b i t s, by
    unfold ctOf
    rw [a]
    rfl⟩
theorem walk_ge {l : PySem.W.OpenLaw} {n lv : Nat} {q : Program} {loose : List Str} {XP : (Str → Option Value) → Heap → Prop} {YP : World → Heap → Prop} {d : DefRec} {K : Params → PySem.W.Frag} {x : Str} {f : List Cell → SR}
    (hn : l.most = some n) (hn2 : n ≤ sizeLine) (hdf : d.params.defaults = []) (hr : Room lv callerA) (hY : ∀ (w : World) (h : Heap), YP w h → (K w.params).In h)
    (F : ∀ (w : World) (mg : Str → Option Value) (fa : Addr) (h : Heap), (K w.params).In h → h.Ns mainGlobals mg → mg d.name = some (.ref fa) →
      ∃ fd : FuncData, (∀ (s : Shared) (u : Value), BindsTo s fd ⟨[u], []⟩ [(x, u)]) ∧
        ∀ base : Heap, (K w.params).In base → base.Ns mainGlobals mg → FnG l.prog w (K w.params) mg base lv fa fd [x] (spF ⟨K w.params, ctOf (K w.params)⟩ 1 f))
    (hf : ∀ ns : List Int, ns.length ≤ n → ∃ cs, f [.v (.list (ns.map PyData.int))] = .rt (.bool true) cs) : PySem.W.WalkO q loose XP YP l.row.toRowW d [] (fun f vs => PySem.call f vs) :=
  walk_g (ct := fun w => ctOf (K w.params)) hn hn2 hdf hr hY F hf
end Dx

/-! work beside a list of new lists that one slot holds and nobody else knows -/
namespace Dx
open PySem PySem.Spec PyProof.Rows L2
/-- a list of lists, all new and nobody's -/
def Rws (k : Kn) (F L : Hp) (p : Addr) (dss : List (List PyData)) : Prop := ∃ as : List Addr, L p = some (.lst (as.map V.ref)) ∧ (p :: as).Nodup ∧ Paired (fun a ds => ∃ vs, L a = some (.lst vs) ∧ DpAll k.K F vs ds) as dss
theorem Rws.up {k : Kn} {F F' L : Hp} {p : Addr} {dss : List (List PyData)} (h : Rws k F L p dss) (e : Same F F') : Rws k F' L p dss := by
  obtain ⟨as, h1, h2, h3⟩ := h
  refine ⟨as, h1, h2, ?_⟩
  clear h1 h2
  induction h3 with
  | nil => exact .nil
  | cons a b ih =>
    obtain ⟨vs, l, d⟩ := a
    exact .cons ⟨vs, l, DpAll.up e _ _ d⟩ ih
structure StaR (k : Kn) (c : Cn) (F H : Hp) (r : Ev) (σ : List (Option V)) (i : Nat) (p : Addr) (dss : List (List PyData)) : Prop where
  s : Sta k c F H r σ
  u : r[i]? = some .u
  hp : σ[i]? = some (some (.ref p))
  np : noPin r = true
  ex : ∃ L, Loose k c F H r σ L ∧ Rws k F L p dss
def isP0 : Option Cell → Bool
  | some (.p 0) => true
  | _ => false
theorem isP0_eq {x : Option Cell} (h : isP0 x = true) : x = some (.p 0) := by
  unfold isP0 at h
  split at h
  · rfl
  · cases h
def isU : Option Cell → Bool
  | some .u => true
  | _ => false
theorem isU_eq {x : Option Cell} (h : isU x = true) : x = some .u := by
  unfold isU at h
  split at h
  · rfl
  · cases h
/-- how a statement ends: the lists, the slots -/
inductive RQ where
  | nx (dss : List (List PyData)) (r : Ev)
  | ct (dss : List (List PyData)) (r : Ev)
  | rt (dss : List (List PyData)) (r : Ev)
  | no
abbrev RS := List (List PyData) → Ev → RQ
def RRun (k : Kn) (c : Cn) (F : Hp) (i : Nat) (p : Addr) (q : RQ) (D : Ends) : Prop := match q with
  | .nx dss r => ∀ F' H' σ', Same F F' → StaR k c F' H' r σ' i p dss → D.nx σ' H'
  | .ct dss r => ∀ F' H' σ', Same F F' → StaR k c F' H' r σ' i p dss → D.ct σ' H'
  | .rt dss r => ∀ F' H' σ' y, Same F F' → Sta k c F' H' r σ' → Dp k.K F' y (.list (dss.map .list)) → D.rt y H'
  | .no => False
theorem RRun.up {k : Kn} {c : Cn} {F F' : Hp} {i : Nat} {p : Addr} {q : RQ} {D : Ends} (h : RRun k c F i p q D) (e : Same F F') : RRun k c F' i p q D := by
  cases q with
  | nx dss r => exact fun F2 H2 σ2 e2 s => h F2 H2 σ2 (e.trans e2) s
  | ct dss r => exact fun F2 H2 σ2 e2 s => h F2 H2 σ2 (e.trans e2) s
  | rt dss r => exact fun F2 H2 σ2 y e2 s => h F2 H2 σ2 y (e.trans e2) s
  | no => exact h
def rR (k : Kn) (_ : WX) (i : Nat) (m : RS) : TS := fun D σ H => ∃ c F r p dss, StaR k c F H r σ i p dss ∧ RRun k c F i p (m dss r) D
section
variable {X : Cx} {k : Kn} {W : WX} {i : Nat} {pos : Pos}
def liftR (i : Nat) (m : S) : RS := fun dss r => match m (r.set i (.p 0)) with
  | .nx r3 => if isP0 r3[i]? = true ∧ noPin (r3.set i .u) = true then .nx dss (r3.set i .u) else .no
  | _ => .no
/-- a statement that doesn't know of it -/
theorem rLift {st : Stmt} {m : S} (h : PS X st (rS k W m)) : PS X st (rR k W i (liftR i m)) := ps_imp h fun D σ H q => by
  obtain ⟨c, F, r, p, dss, ⟨s, u, hp, np, L, l, w⟩, q⟩ := q
  have hl : i < r.length := (List.getElem?_eq_some_iff.mp u).1
  have lp : L p ≠ none := by
    obtain ⟨as, h1, _⟩ := w
    rw [h1]
    simp
  have sQ := s.pin l hl hp (fun j ds h => by rw [u] at h; cases h) (fun ds h => by rw [u] at h; cases h) (noPin_at np)
  refine ⟨_, F, _, sQ, ?_⟩
  unfold liftR at q
  revert q
  cases hm : m (r.set i (.p 0)) with
  | nx r3 =>
    intro q F6 H6 σ6 e6 s6
    have q' : RRun k c F i p (if isP0 r3[i]? = true ∧ noPin (r3.set i .u) = true then .nx dss (r3.set i .u) else .no) D := q
    by_cases hc : isP0 r3[i]? = true ∧ noPin (r3.set i .u) = true
    case neg =>
      rw [if_neg hc] at q'
      exact q'.elim
    rw [if_pos hc] at q'
    obtain ⟨s7, hy7, L7⟩ := s.unpin l lp s6 (isP0_eq hc.1) fun j m hj h => noPin_at hc.2 j m (by rw [List.getElem?_set_ne (Ne.symm hj)]; exact h)
    have h3 : i < r3.length := (List.getElem?_eq_some_iff.mp (isP0_eq hc.1)).1
    exact q' F6 H6 σ6 e6 ⟨s7, List.getElem?_set_self h3, hy7, hc.2, L, L7, w.up e6⟩
  | rt d r3 => exact fun q => q.elim
  | ro d r3 => exact fun q => q.elim
  | bk r3 => exact fun q => q.elim
  | ct r3 => exact fun q => q.elim
  | ex x r3 => exact fun q => q.elim
  | no => exact fun q => q.elim
def seqR (m n : RS) : RS := fun dss r => match m dss r with
  | .nx d r1 => n d r1
  | q => q
theorem rCons {st : Stmt} {sts : List Stmt} {m n : RS} (h1 : PS X st (rR k W i m)) (h2 : PSs X sts (rR k W i n)) : PSs X (st :: sts) (rR k W i (seqR m n)) := pss_imp (pss_cons h1 h2) fun D σ H q => by
  obtain ⟨c, F, r, p, dss, s, q⟩ := q
  refine ⟨c, F, r, p, dss, s, ?_⟩
  unfold seqR at q
  revert q
  cases m dss r with
  | nx d r1 => exact fun q F1 H1 σ1 e1 s1 => ⟨c, F1, r1, p, d, s1, RRun.up q e1⟩
  | ct d r1 => exact fun q => q
  | rt d r1 => exact fun q => q
  | no => exact fun q => q
theorem rOne {st : Stmt} {m : RS} (h1 : PS X st (rR k W i m)) : PSs X [st] (rR k W i m) := pss_one h1
theorem rNil : PSs X [] (rR k W i fun dss r => .nx dss r) := pss_imp pss_nil fun D σ H q => by
  obtain ⟨c, F, r, p, dss, s, q⟩ := q
  exact q F H σ (Same.refl F) s
theorem rCnt : PS X (.Continue pos) (rR k W i fun dss r => .ct dss r) := ps_imp ps_continue fun D σ H q => by
  obtain ⟨c, F, r, p, dss, s, q⟩ := q
  exact q F H σ (Same.refl F) s
theorem rNever {st : Stmt} : PS X st (rR k W i fun _ _ => .no) := ⟨fun pins s σ H D I q => by
  obtain ⟨c, F, r, p, dss, s, q⟩ := q
  exact q.elim⟩
def condR (i : Nat) (t : M Bool) (m n : RS) : RS := fun dss r => match t r with
  | .ok b r1 => if isU r1[i]? = true ∧ noPin r1 = true then (if b = true then m dss r1 else n dss r1) else .no
  | _ => .no
theorem rIf {t : M Bool} {m n : RS} {cnd : Expr} {as bs : List Stmt} (ht : PT X cnd (rT k W t)) (ha : PSs X as (rR k W i m)) (hb : PSs X bs (rR k W i n)) : PS X (.If cnd as bs pos) (rR k W i (condR i t m n)) := ps_imp (ps_if ht ha hb) fun D σ H q => by
  obtain ⟨c, F, r, p, dss, ⟨s, u, hp, np, L, l, w⟩, q⟩ := q
  refine ⟨_, F, r, s.holdL l, ?_⟩
  unfold condR at q
  revert q
  cases ht : t r with
  | ok b r1 =>
    intro q F1 H1 e1 s1
    have q' : RRun k c F i p (if isU r1[i]? = true ∧ noPin r1 = true then (if b = true then m dss r1 else n dss r1) else .no) D := q
    by_cases hc : isU r1[i]? = true ∧ noPin r1 = true
    case neg =>
      rw [if_neg hc] at q'
      exact q'.elim
    rw [if_pos hc] at q'
    obtain ⟨s2, L2⟩ := s.unholdL l s1
    have S2 : StaR k c F1 H1 r1 σ i p dss := ⟨s2, isU_eq hc.1, hp, hc.2, L, L2, w.up e1⟩
    cases b with
    | true =>
      rw [if_pos rfl] at q'
      dsimp only
      rw [if_pos rfl]
      exact ⟨c, F1, r1, p, dss, S2, q'.up e1⟩
    | false =>
      rw [if_neg (by simp)] at q'
      dsimp only
      rw [if_neg (by simp)]
      exact ⟨c, F1, r1, p, dss, S2, q'.up e1⟩
  | ex x r1 => exact fun q => q.elim
  | no => exact fun q => q.elim
end
end Dx

namespace Dx
open PySem PySem.Spec PyProof.Rows L2
section
variable {X : Cx} {k : Kn} {W : WX} {pos : Pos}
def forRL (i : Nat) (g : G1) (body : RS) : List PyData → RS
  | [] => fun dss r => .nx dss r
  | d :: ds => fun dss r => match g d r with
    | .ok _ r1 => if isU r1[i]? = true ∧ noPin r1 = true then (match body dss r1 with
      | .nx d2 r2 => forRL i g body ds d2 r2
      | .ct d2 r2 => forRL i g body ds d2 r2
      | q => q) else .no
    | _ => .no
def forR (i : Nat) (m : M (List PyData)) (g : G1) (body : RS) : RS := fun dss r => match m r with
  | .ok ds r1 => if isU r1[i]? = true ∧ noPin r1 = true then forRL i g body ds dss r1 else .no
  | _ => .no
theorem rFor {v : Nat} {it : Expr} {bs : List Stmt} {m : M (List PyData)} {g : G1} {js : List Nat} {body : RS} (hp : PassesOwn (model X.prog X.w) X.A X.env X.xe) (hc : X.calm = true) (hi : PI X tg it (rI k W m)) (hg : PG X tg (rG k js g)) (hb : PSs X bs (rR k W v body)) (hv : v ∉ js)
    (hs : ∀ x, foldedSetIterable it X.env x = pure x := by intro _; rfl) : PS X (.For tg it bs [] pos) (rR k W v (forR v m g body)) := ps_imp (ps_for hp hc hi hg hb hs) fun D σ H q => by
  obtain ⟨c, F, r, p, dss, ⟨s, u, hp, np, L, l, w⟩, q⟩ := q
  refine ⟨_, F, r, s.holdL l, ?_⟩
  unfold forR at q
  revert q
  cases hm : m r with
  | ex x r1 => exact fun q => q.elim
  | no => exact fun q => q.elim
  | ok ds r1 =>
    intro q F1 H1 e1 s1 J hJ
    have q' : RRun k c F v p (if isU r1[v]? = true ∧ noPin r1 = true then forRL v g body ds dss r1 else .no) D := q
    by_cases hc : isU r1[v]? = true ∧ noPin r1 = true
    case neg =>
      rw [if_neg hc] at q'
      exact q'.elim
    rw [if_pos hc] at q'
    obtain ⟨s2, L2⟩ := s.unholdL l s1
    have S2 : StaR k c F1 H1 r1 σ v p dss := ⟨s2, isU_eq hc.1, hp, hc.2, L, L2, w.up e1⟩
    refine ⟨fun i m σ H => ∃ F r dss, Same F1 F ∧ StaR k c F H r σ v p dss ∧ m = ds.length - i ∧ RRun k c F v p (forRL v g body (ds.drop i) dss r) D, ⟨_, F1, r1, dss, Same.refl F1, S2, rfl, q'.up e1⟩, fun i m σ H hW => ?_⟩
    obtain ⟨F2, r2, dss2, e2, ⟨s3, u3, hp3, np3, L3, l3, w3⟩, rfl, q2⟩ := hW
    obtain ⟨go, stop⟩ := hJ _ F2 H r2 σ e2 (s3.holdL l3) i
    by_cases hi : i < ds.length
    · have hd : ds.drop i = ds[i] :: ds.drop (i + 1) := List.drop_eq_getElem_cons hi
      obtain ⟨g1, g2⟩ := go ds[i] (List.getElem?_eq_getElem hi)
      rw [hd] at q2
      refine .inr ⟨g1, fun σ' H' => ∃ F r dss, Same F1 F ∧ StaR k c F H' r σ' v p dss ∧ RRun k c F v p (forRL v g body (ds.drop (i + 1)) dss r) D, fun σ' H' ⟨F3, r3, dss3, e3, s3, q3⟩ => ⟨ds.length - (i + 1), by omega, F3, r3, dss3, e3, s3, rfl, q3⟩, fun x H' hy => ?_⟩
      obtain ⟨F3, e3, s4, d4⟩ := g2 x H' hy
      refine ⟨_, F3, r2, ds[i], s4, d4, ?_⟩
      have q3 : RRun k c F2 v p (match g ds[i] r2 with
        | .ok _ r1 => if isU r1[v]? = true ∧ noPin r1 = true then (match body dss2 r1 with
          | .nx d2 r2 => forRL v g body (ds.drop (i + 1)) d2 r2
          | .ct d2 r2 => forRL v g body (ds.drop (i + 1)) d2 r2
          | q => q) else .no
        | _ => .no) D := q2
      revert q3
      cases g ds[i] r2 with
      | ex x r3 => exact fun q3 => q3.elim
      | no => exact fun q3 => q3.elim
      | ok u r3 =>
        intro q3 F4 H4 σ4 kp e4 s5
        have q4 : RRun k c F2 v p (if isU r3[v]? = true ∧ noPin r3 = true then (match body dss2 r3 with
          | .nx d2 r2 => forRL v g body (ds.drop (i + 1)) d2 r2
          | .ct d2 r2 => forRL v g body (ds.drop (i + 1)) d2 r2
          | q => q) else .no) D := q3
        by_cases hc4 : isU r3[v]? = true ∧ noPin r3 = true
        case neg =>
          rw [if_neg hc4] at q4
          exact q4.elim
        rw [if_pos hc4] at q4
        obtain ⟨s6, L6⟩ := s3.unholdL l3 s5
        have S6 : StaR k c F4 H4 r3 σ4 v p dss2 := ⟨s6, isU_eq hc4.1, (kp.2 v hv).trans hp3, hc4.2, L3, L6, w3.up (e3.trans e4)⟩
        refine ⟨c, F4, r3, p, dss2, S6, ?_⟩
        have q5 := q4.up (e3.trans e4)
        have e5 : Same F1 F4 := e2.trans (e3.trans e4)
        revert q5
        cases body dss2 r3 with
        | nx d5 r5 => exact fun q5 F5 H5 σ5 e6 s7 => ⟨F5, r5, d5, e5.trans e6, s7, RRun.up q5 e6⟩
        | ct d5 r5 => exact fun q5 F5 H5 σ5 e6 s7 => ⟨F5, r5, d5, e5.trans e6, s7, RRun.up q5 e6⟩
        | rt d5 r5 => exact fun q5 => q5
        | no => exact fun q5 => q5.elim
    · have hd : ds.drop i = [] := List.drop_of_length_le (by omega)
      rw [hd] at q2
      exact .inl ⟨stop (by omega), q2 F2 H σ (Same.refl F2) ⟨s3, u3, hp3, np3, L3, l3, w3⟩⟩
end
end Dx

namespace Dx
open PySem PySem.Spec PyProof.Rows L2
theorem rws_len {A B : Type} {R : A → B → Prop} : ∀ {as : List A} {bs : List B}, Paired R as bs → as.length = bs.length
  | _, _, .nil => rfl
  | _, _, .cons _ h => congrArg (· + 1) (rws_len h)
theorem rws_get {A B : Type} {R : A → B → Prop} : ∀ {as : List A} {bs : List B} {j : Nat} {b : B}, Paired R as bs → bs[j]? = some b → ∃ a, as[j]? = some a ∧ R a b
  | _, _, _, _, .nil, e => by simp at e
  | a :: as, b :: bs, 0, x, .cons h _, e => by
    have e1 : b = x := by simpa using e
    exact ⟨a, rfl, e1 ▸ h⟩
  | a :: as, b :: bs, j + 1, x, .cons _ h, e => by
    have e1 : bs[j]? = some x := by simpa using e
    obtain ⟨y, h1, h2⟩ := rws_get h e1
    exact ⟨y, by simpa using h1, h2⟩
theorem rws_set {A B : Type} {R R' : A → B → Prop} {x : A} {y : B} : ∀ {as : List A} {bs : List B} {j : Nat}, Paired R as bs → as[j]? = some x → as.Nodup → (∀ a b, a ≠ x → R a b → R' a b) → R' x y → Paired R' as (bs.set j y)
  | _, _, _, .nil, e, _, _, _ => by simp at e
  | a :: as, b :: bs, 0, .cons h t, e, nd, k1, k2 => by
    have e1 : a = x := by simpa using e
    subst e1
    obtain ⟨n1, n2⟩ := List.nodup_cons.1 nd
    refine .cons k2 ?_
    have go : ∀ {as : List A} {bs : List B}, Paired R as bs → a ∉ as → Paired R' as bs := fun {as bs} hp => by
      induction hp with
      | nil => exact fun _ => .nil
      | cons h2 _ ih =>
        intro hn
        refine .cons (k1 _ _ (fun q => hn (q ▸ List.mem_cons_self)) h2) (ih fun q => hn (List.mem_cons_of_mem _ q))
    exact go t n1
  | a :: as, b :: bs, j + 1, .cons h t, e, nd, k1, k2 => by
    have e1 : as[j]? = some x := by simpa using e
    obtain ⟨n1, n2⟩ := List.nodup_cons.1 nd
    exact .cons (k1 _ _ (fun q => n1 (q ▸ List.mem_of_getElem? e1)) h) (rws_set t e1 n2 k1 k2)
section
variable {X : Cx} {k : Kn} {W : WX} {pos : Pos} {o ix e : Expr}
/-- rows[m].append(n) -/
def appR (i : Nat) (m n : M PyData) : RS := fun dss r => match m r with
  | .ok (.int z) r1 => match ixN dss.length z with
    | some j => match dss[j]? with
      | some ds => match n r1 with
        | .ok d r2 => if ds.length < sizeLine ∧ isU r2[i]? = true ∧ noPin r2 = true then .nx (dss.set j (ds ++ [d])) r2 else .no
        | _ => .no
      | none => .no
    | none => .no
  | _ => .no
theorem rApp {i : Nat} {m n : M PyData} {apos cpos spos : Pos} (ho : PE X o (tVar i)) (hix : PE X ix (rD k W m)) (he : PE X e (rD k W n)) (hK : X.K = k.K := by rfl) (hpix : PlainIx ix := by exact fun _ _ => rfl)
    (hbase : attributeBase (.Subscript o ix spos) "append" X.env (eval (.Subscript o ix spos) X.env) = eval (.Subscript o ix spos) X.env := by rfl)
    (hfew : ((backTo cpos (starEach [e] X.env)).all (fun x => !x.1) && (backToKw cpos (keywordEach [] X.env)).all (fun x => x.1.isSome) && decide ([e].length + ([] : List Keyword).length + (if ([] : List Keyword).isEmpty then 0 else 1) < 30)) = true := by rfl)
    (hline : (apos.endLine == cpos.line) = true := by rfl) (hs : starEach [e] X.env = (false, eval e X.env) :: starEach [] X.env := by rfl) (hplain : (backTo cpos (starEach [] X.env)).any (·.1) = false := by rfl)
    (hsw : swapsWith (.Call (.Attribute (.Subscript o ix spos) "append" apos) [e] [] cpos) none pos.line X.env = pure false := by rfl) :
    PS X (.Expr (.Call (.Attribute (.Subscript o ix spos) "append" apos) [e] [] cpos) pos) (rR k W i (appR i m n)) :=
  ps_imp (ps_expr (pe_bm PySem.F.plainAttrs_list PySem.F.slot_list_append PySem.F.type_list_append mt_append (pe_ix (hK ▸ ix_list) ho hix hpix) (pa_cons he pa_nil hs) hbase hfew hline hs hplain) hsw) fun D σ H q => by
  obtain ⟨c, F, r, p, dss, ⟨s, u, hp, np, L, l, w⟩, q⟩ := q
  refine ⟨.ref p, hp, _, F, r, s.holdL l, ?_⟩
  unfold appR at q
  revert q
  cases hm : m r with
  | ex x r1 => exact fun q => q.elim
  | no => exact fun q => q.elim
  | ok zz r1 =>
    cases zz with
    | int zi =>
      intro q F8 H8 e8 s8 z dz
      have q1 : RRun k c F i p (match ixN dss.length zi with
        | some j => match dss[j]? with
          | some ds => match n r1 with
            | .ok d r2 => if ds.length < sizeLine ∧ isU r2[i]? = true ∧ noPin r2 = true then .nx (dss.set j (ds ++ [d])) r2 else .no
            | _ => .no
          | none => .no
        | none => .no) D := q
      cases hj : ixN dss.length zi with
      | none =>
        rw [hj] at q1
        exact q1.elim
      | some j =>
        rw [hj] at q1
        have q2 : RRun k c F i p (match dss[j]? with
          | some ds => match n r1 with
            | .ok d r2 => if ds.length < sizeLine ∧ isU r2[i]? = true ∧ noPin r2 = true then .nx (dss.set j (ds ++ [d])) r2 else .no
            | _ => .no
          | none => .no) D := q1
        cases hd : dss[j]? with
        | none =>
          rw [hd] at q2
          exact q2.elim
        | some ds =>
          rw [hd] at q2
          obtain ⟨as, w1, w2, w3⟩ := w
          obtain ⟨a, ha, vs, hLa, dd⟩ := rws_get w3 hd
          have hat : atI (as.map V.ref) zi = some (V.ref a) := by
            unfold atI
            rw [List.length_map, rws_len w3, hj]
            show (as.map V.ref)[j]? = _
            rw [List.getElem?_map, ha]
            rfl
          obtain ⟨s9, L9⟩ := s.unholdL l s8
          refine ⟨p, as.map V.ref, zi, .ref a, rfl, dp_int dz, SqL.of (L9.h p _ w1), hat, ?_⟩
          refine ⟨.inl ⟨rfl, vs, SqL.of (L9.h a _ hLa)⟩, _, F8, r1, s9.holdL L9, ?_⟩
          have q3 : RRun k c F i p (match n r1 with
            | .ok d r2 => if ds.length < sizeLine ∧ isU r2[i]? = true ∧ noPin r2 = true then .nx (dss.set j (ds ++ [d])) r2 else .no
            | _ => .no) D := q2
          revert q3
          cases hn : n r1 with
          | ex x r2 => exact fun q3 => q3.elim
          | no => exact fun q3 => q3.elim
          | ok d r2 =>
            intro q3 F10 H10 e10 s10 y dy
            have q4 : RRun k c F i p (if ds.length < sizeLine ∧ isU r2[i]? = true ∧ noPin r2 = true then .nx (dss.set j (ds ++ [d])) r2 else .no) D := q3
            by_cases hc : ds.length < sizeLine ∧ isU r2[i]? = true ∧ noPin r2 = true
            case neg =>
              rw [if_neg hc] at q4
              exact q4.elim
            rw [if_pos hc] at q4
            obtain ⟨s11, L11⟩ := s9.unholdL L9 s10
            refine ⟨a, vs, y, rfl, rfl, L11.h a _ hLa, by rw [DpAll.len dd]; exact hc.1, ?_⟩
            have s12 := s11.touch (o := .lst (vs ++ [y])) (L11.f a _ hLa) (L11.g a _ hLa) (L11.w a _ hLa)
            have L12 := L11.change (o := .lst (vs ++ [y])) hLa
            obtain ⟨n1, n2⟩ := List.nodup_cons.1 w2
            have pa : p ≠ a := fun z => n1 (z ▸ List.mem_of_getElem? ha)
            refine q4 F10 _ σ (e8.trans e10) ⟨s12, isU_eq hc.2.1, hp, hc.2.2, _, L12, as, ?_, w2, ?_⟩
            · rw [upd_ne pa]
              exact w1
            · refine rws_set w3 ha n2 (fun b ds' hb ⟨vs', h1, h2⟩ => ⟨vs', ?_, DpAll.up (e8.trans e10) _ _ h2⟩) ⟨vs ++ [y], upd_same, DpAll.append (DpAll.up (e8.trans e10) _ _ dd) (DpAll.one dy)⟩
              rw [upd_ne hb]
              exact h1
    | none => exact fun q => q.elim
    | bool b => exact fun q => q.elim
    | str b => exact fun q => q.elim
    | list b => exact fun q => q.elim
    | tuple b => exact fun q => q.elim
    | _ => exact fun q => q.elim
end
end Dx

/-! [[..] for ..]: a list of new lists -/
namespace Dx
open PySem PySem.Spec PyProof.Rows L2
section
variable {k : Kn} {c : Cn} {F H : Hp} {r : Ev} {σ : List (Option V)} {L : Hp}
theorem Loose.wipe (l : Loose k c F H r σ L) (js : List Nat) : Loose k c F H (wipeR r js) (L2.wipe σ js) L := ⟨l.h, l.f, l.g, fun b o e ⟨i, x, y, e1, e2, w⟩ => by
  rw [wipeR_get] at e1
  rw [wipe_set] at e2
  by_cases h : i ∈ js
  · rw [if_pos h] at e1
    split at e1
    · cases e1
      exact w
    · cases e1
  · rw [if_neg h] at e1 e2
    exact l.w b o e ⟨i, x, y, e1, e2, w⟩⟩
theorem Loose.back {r1 : Ev} {js : List Nat} (l : Loose k c F H (wipeR r1 js) (L2.wipe σ js) L) : Loose k c F H (backR r js (wipeR r1 js)) σ L := ⟨l.h, l.f, l.g, fun b o e ⟨i, x, y, e1, e2, w⟩ => by
  rw [backR_get] at e1
  by_cases h : i ∈ js
  · rw [if_pos h] at e1
    split at e1
    · have e3 := Option.some.inj e1
      subst e3
      cases hr : r[i]? with
      | none =>
        rw [hr] at w
        exact w
      | some z =>
        rw [hr] at w
        cases z <;> exact w
    · cases e1
  · rw [if_neg h] at e1
    exact l.w b o e ⟨i, x, y, e1, by rw [wipe_set, if_neg h]; exact e2, w⟩⟩
/-- one more list -/
theorem rws_more {A B : Type} {R R' : A → B → Prop} {x : A} {y : B} (h2 : R' x y) : ∀ {as : List A} {bs : List B}, Paired R as bs → (∀ a b, a ∈ as → R a b → R' a b) → Paired R' (as ++ [x]) (bs ++ [y])
  | _, _, .nil, _ => .cons h2 .nil
  | _, _, .cons h t, h1 => .cons (h1 _ _ List.mem_cons_self h) (rws_more h2 t fun a b m q => h1 a b (List.mem_cons_of_mem _ m) q)
theorem Rws.more {p a : Addr} {vs : List V} {ds : List PyData} {dss : List (List PyData)} (h : Rws k F L p dss) (ha : L a = none) (d : DpAll k.K F vs ds) : ∃ as : List Addr, L p = some (.lst (as.map V.ref)) ∧ as.length = dss.length ∧ Rws k F (upd (upd L a (.lst vs)) p (.lst (as.map V.ref ++ [V.ref a]))) p (dss ++ [ds]) := by
  obtain ⟨as, h1, h2, h3⟩ := h
  refine ⟨as, h1, rws_len h3, as ++ [a], ?_, ?_, ?_⟩
  · rw [upd_same, List.map_append]
    rfl
  · obtain ⟨n1, n2⟩ := List.nodup_cons.1 h2
    have pa : p ≠ a := fun q => by
      rw [← q, h1] at ha
      cases ha
    have na : a ∉ as := fun q => by
      have : ∀ {as : List Addr} {dss : List (List PyData)}, Paired (fun a ds => ∃ vs, L a = some (.lst vs) ∧ DpAll k.K F vs ds) as dss → a ∈ as → False := fun {as dss} hp => by
        induction hp with
        | nil => exact fun q => by cases q
        | cons h _ ih =>
          intro q
          rcases List.mem_cons.1 q with q | q
          · subst q
            obtain ⟨vs, e, _⟩ := h
            rw [ha] at e
            cases e
          · exact ih q
      exact this h3 q
    rw [List.nodup_cons, List.nodup_append]
    refine ⟨fun q => ?_, n2, by simp, fun x hx y hy => ?_⟩
    · rcases List.mem_append.1 q with q | q
      · exact n1 q
      · exact pa (List.mem_singleton.1 q)
    · rw [List.mem_singleton.1 hy]
      exact fun q => na (q ▸ hx)
  · obtain ⟨n1, n2⟩ := List.nodup_cons.1 h2
    have pa : p ≠ a := fun q => by
      rw [← q, h1] at ha
      cases ha
    refine rws_more ⟨vs, ?_, d⟩ h3 fun b ds' hb ⟨vs', e, d'⟩ => ⟨vs', ?_, d'⟩
    · have ba : b ≠ a := fun q => by
        rw [q, ha] at e
        cases e
      have bp : b ≠ p := fun q => n1 (q ▸ hb)
      rw [upd_ne bp, upd_ne ba]
      exact e
    · rw [upd_ne (Ne.symm pa), upd_same]
end
def mCompRL (own : List Nat) (g : G1) (m : M (List PyData)) : List PyData → List (List PyData) → Ev → Option (List (List PyData) × Ev)
  | [], acc => fun r => some (acc, r)
  | d :: ds, acc => fun r => match g d (wipeR r own) with
    | .ok _ r1 => match m r1 with
      | .ok zs r2 => if acc.length < sizeLine then mCompRL own g m ds (acc ++ [zs]) r2 else none
      | _ => none
    | _ => none
def compR (own : List Nat) (it : M (List PyData)) (g : G1) (m : M (List PyData)) (r : Ev) : Option (List (List PyData) × Ev) := match it r with
  | .ok ds r1 => (mCompRL own g m ds [] r1).map fun z => (z.1, backR r1 own (wipeR z.2 own))
  | _ => none
def rLL (k : Kn) (mm : Ev → Option (List (List PyData) × Ev)) : TE := fun σ H Q => ∃ c F r, Sta k c F H r σ ∧ ∃ z, mm r = some z ∧ ∀ F' H' p L, Same F F' → Sta k c F' H' z.2 σ → Loose k c F' H' z.2 σ L → Rws k F' L p z.1 → Q (.ref p) H'
section
variable {X : Cx} {k : Kn} {W : WX}
theorem dt_compR {vs : List Nat} {mi : M (List PyData)} {g : G1} {js : List Nat} {m : M (List PyData)} (hj : ∀ j ∈ js, j ∈ vs) : ∀ σ H Q, rLL k (compR vs mi g m) σ H Q → tLc (rI k W mi) (rG k js g) (rT k W0 (mpure true)) (rO k W0 m) vs σ H Q := fun σ H Q q => by
  obtain ⟨c, F, r, s, z, hz, q⟩ := q
  refine ⟨c, F, r, s, ?_⟩
  unfold compR at hz
  revert hz
  cases mi r with
  | ex x r1 => exact fun hz => by cases hz
  | no => exact fun hz => by cases hz
  | ok ds r1 =>
    intro hz F1 H1 e1 s1 J hJ D nD
    have hz' : (mCompRL vs g m ds [] r1).map (fun z => (z.1, backR r1 vs (wipeR z.2 vs))) = some z := hz
    obtain ⟨z0, hz0, rfl⟩ := Option.map_eq_some_iff.1 hz'
    have L0 : Loose k c F1 (upd H1 D (.lst [])) r1 σ (upd (fun _ => Option.none) D (.lst [])) := Loose.zero.add upd_same (s1.nF nD) (s1.nG nD) fun ⟨j, x, y, o1, o2, w⟩ => by
      obtain ⟨_, _, us, z⟩ := (s1.cell j x y o1 o2).own w
      rw [nD] at z
      cases z
    have R0 : Rws k F1 (upd (fun _ => Option.none) D (.lst [])) D [] := ⟨[], upd_same, by simp, .nil⟩
    refine ⟨fun i n H => ∃ F r L acc, Same F1 F ∧ Sta k c F H (wipeR r vs) (L2.wipe σ vs) ∧ Loose k c F H (wipeR r vs) (L2.wipe σ vs) L ∧ Rws k F L D acc ∧ n = ds.length - i ∧ mCompRL vs g m (ds.drop i) acc r = some z0,
      ⟨_, F1, r1, _, [], Same.refl F1, (s1.fresh nD).wipe vs, L0.wipe vs, R0, rfl, hz0⟩, fun i n H2 hW => ?_⟩
    obtain ⟨F2, r2, L2', acc, e2, s2, l2, w2, rfl, q2⟩ := hW
    obtain ⟨go, stop⟩ := hJ _ F2 H2 _ _ e2 (s2.holdL l2) i
    by_cases hi : i < ds.length
    · have hd : ds.drop i = ds[i] :: ds.drop (i + 1) := List.drop_eq_getElem_cons hi
      obtain ⟨g1, g2⟩ := go ds[i] (List.getElem?_eq_getElem hi)
      rw [hd] at q2
      refine .inr ⟨g1, fun H' => ∃ F r L acc, Same F1 F ∧ Sta k c F H' (wipeR r vs) (L2.wipe σ vs) ∧ Loose k c F H' (wipeR r vs) (L2.wipe σ vs) L ∧ Rws k F L D acc ∧ mCompRL vs g m (ds.drop (i + 1)) acc r = some z0,
        fun H' ⟨F3, r3, L3, acc3, e3, s3, f3, w3, q3⟩ => ⟨ds.length - (i + 1), by omega, F3, r3, L3, acc3, e3, s3, f3, w3, rfl, q3⟩, fun x H' hy => ?_⟩
      obtain ⟨F3, e3, s3, d3⟩ := g2 x H' hy
      refine ⟨_, F3, wipeR r2 vs, ds[i], s3, d3, ?_⟩
      have q3 : (match g ds[i] (wipeR r2 vs) with
        | .ok _ r1 => match m r1 with
          | .ok zs r2 => if acc.length < sizeLine then mCompRL vs g m (ds.drop (i + 1)) (acc ++ [zs]) r2 else none
          | _ => none
        | _ => none) = some z0 := q2
      revert q3
      cases g ds[i] (wipeR r2 vs) with
      | ex x r3 => exact fun q3 => by cases q3
      | no => exact fun q3 => by cases q3
      | ok u r3 =>
        intro q3 F4 H4 σ4 kp e4 s4
        have hw : L2.wipe σ4 vs = L2.wipe σ vs := wipe_keep kp hj
        refine ⟨hw, _, F4, r3, s4, ?_⟩
        intro F5 H5 e5 s5
        (try dsimp only)
        rw [if_pos rfl]
        refine ⟨_, F5, r3, s5, ?_⟩
        have q4 : (match m r3 with
          | .ok zs r2 => if acc.length < sizeLine then mCompRL vs g m (ds.drop (i + 1)) (acc ++ [zs]) r2 else none
          | _ => none) = some z0 := q3
        revert q4
        cases m r3 with
        | ex x r7 => exact fun q5 => by cases q5
        | no => exact fun q5 => by cases q5
        | ok zs r7 =>
          intro q5 F7 H7 e7 s7 a us f7
          have q6 : (if acc.length < sizeLine then mCompRL vs g m (ds.drop (i + 1)) (acc ++ [zs]) r7 else none) = some z0 := q5
          by_cases hzl : acc.length < sizeLine
          case neg =>
            rw [if_neg hzl] at q6
            cases q6
          rw [if_pos hzl] at q6
          have eA : Same F2 F7 := e3.trans (e4.trans (e5.trans e7))
          obtain ⟨s8, l8⟩ := s2.unholdL l2 s7
          obtain ⟨g1', g2'⟩ := withG_none f7.2.1
          have l9 := l8.add f7.2.2.1 f7.1 g1' fun ⟨j, x, y, o1, o2, w⟩ => f7.2.2.2.2 j x y o1 o2 w
          obtain ⟨as, p1, p2, w10⟩ := (w2.up eA).more g2' f7.2.2.2.1
          have pa : D ≠ a := fun z => by
            rw [← z, p1] at g2'
            cases g2'
          have p3 : upd L2' a (.lst us) D = some (.lst (as.map V.ref)) := by
            rw [upd_ne pa]
            exact p1
          refine ⟨as.map V.ref, l9.h D _ p3, by rw [List.length_map, p2]; exact hzl, F7, r7, _, acc ++ [zs], e2.trans eA, ?_, ?_, w10, q6⟩
          · have z1 := (s8.touch (o := .lst (as.map V.ref ++ [V.ref a])) (l9.f D _ p3) (l9.g D _ p3) (l9.w D _ p3)).wipe vs
            rw [hw] at z1
            exact z1
          · have z1 := (l9.change (o := .lst (as.map V.ref ++ [V.ref a])) p3).wipe vs
            rw [hw] at z1
            exact z1
    · have hd : ds.drop i = [] := List.drop_of_length_le (by omega)
      rw [hd] at q2
      have q3 : some (acc, r2) = some z0 := q2
      cases q3
      exact .inl ⟨stop (by omega), q F2 H2 D L2' (e1.trans e2) (Sta.back s1 e2 s2) l2.back w2⟩
end
end Dx

/-! rows = [[..] for ..]; work beside them; return rows -/
namespace Dx
open PySem PySem.Spec PyProof.Rows L2
section
variable {k : Kn} {c : Cn} {F H : Hp} {r : Ev} {σ : List (Option V)} {L : Hp}
theorem rws_data {F' : Hp} (h : ∀ b o, L b = some o → F' b = some o) (e : Same F F') : ∀ {as : List Addr} {dss : List (List PyData)}, Paired (fun a ds => ∃ vs, L a = some (.lst vs) ∧ DpAll k.K F vs ds) as dss → DpAll k.K F' (as.map V.ref) (dss.map PyData.list)
  | _, _, .nil => DpAll.nil
  | _, _, .cons ⟨vs, q, d⟩ t => DpAll.cons (Dp.lst (SqL.of (h _ _ q)) (DpAll.up e _ _ d)) (rws_data h e t)
theorem Loose.grows (l : Loose k c F H r σ L) : Same F (withG F L) := fun b z e => by
  cases q : L b with
  | none =>
    rw [withG_out q]
    exact e
  | some o =>
    have := l.f b o q
    rw [e] at this
    cases this
theorem Rws.data {p : Addr} {dss : List (List PyData)} (l : Loose k c F H r σ L) (w : Rws k F L p dss) : Dp k.K (withG F L) (.ref p) (.list (dss.map PyData.list)) := by
  obtain ⟨as, h1, _, h3⟩ := w
  exact Dp.lst (SqL.of (withG_in h1)) (rws_data (fun b o e => withG_in e) l.grows h3)
end
section
variable {X : Cx} {k : Kn} {W : WX} {i : Nat} {pos : Pos}
theorem rRet {o : Expr} (ho : PE X o (tVar i)) : PS X (.Return (some o) pos) (rR k W i fun dss r => .rt dss r) := ps_imp (ps_ret ho) fun D σ H q => by
  obtain ⟨c, F, r, p, dss, ⟨s, u, hp, np, L, l, w⟩, q⟩ := q
  exact ⟨.ref p, hp, q (withG F L) H σ (.ref p) l.grows (s.adoptL l) (w.data l)⟩
/-- rows = [..]; rest -/
def sRows (i : Nat) (mm : Ev → Option (List (List PyData) × Ev)) (rest : RS) : S := fun r => match mm r with
  | some (dss, r1) => if i < r1.length ∧ noPin (r1.set i .u) = true then (match rest dss (r1.set i .u) with
    | .rt dss r2 => .rt (.list (dss.map .list)) r2
    | _ => .no) else .no
  | none => .no
variable {own : List (Str × Nat)} {elt it tg : Expr} {scope : Scope} {mi : M (List PyData)} {g : G1} {js : List Nat} {m : M (List PyData)}
theorem sRowsD {y : Str} {py spos : Pos} {sts : List Stmt} {rest : RS} (hc : X.calm = true) (hN : X.N.Nodup) (hy : X.N[i]? = some y) (hyl : X.env.scope.names.lookup y = some .local) (hsw : swapsWith (.ListComp elt [⟨tg, it, [], 0⟩] scope pos) (some (.Name y py)) spos.line X.env = pure true)
    (hi : PI X tg it (rI k W mi)) (ok : BlkOk X.N X.env.scope scope own)
    (hg : ∀ (s : Shared) (H : Hp) (C : Addr) (cl : List (Str × Addr)) (fp : List Addr), PG (X.blk s H scope (compEnvC scope cl C X.env) fp) tg (rG k js g))
    (he : ∀ (s : Shared) (H : Hp) (C : Addr) (cl : List (Str × Addr)) (fp : List Addr), PE (X.blk s H scope (compEnvC scope cl C X.env) fp) elt (rO k W0 m)) (hrest : PSs X sts (rR k W i rest)) (hj : ∀ j ∈ js, j ∈ own.map (·.2) := by decide) (hs : ∀ x, foldedSetIterable it X.env x = pure x := by intro _; rfl) :
    PSs X (.Assign [.Name y py] (.ListComp elt [⟨tg, it, [], 0⟩] scope pos) spos :: sts) (rS k W (sRows i (compR (own.map (·.2)) mi g m) rest)) := by
  refine pss_imp (pss_cons (ps_setLc (tt := rT k W0 (mpure true)) hc hN hy hyl hsw hi ok hg (fun _ _ _ _ _ => tsNil) he hs) hrest) fun D σ H q => ?_
  obtain ⟨c, F, r, s, q⟩ := q
  show tLc (rI k W mi) (rG k js g) (rT k W0 (mpure true)) (rO k W0 m) (own.map (·.2)) σ H (fun x H1 => rR k W i rest D (σ.set i (some x)) H1)
  refine dt_compR hj σ H _ ?_
  refine ⟨c, F, r, s, ?_⟩
  unfold sRows at q
  revert q
  cases hm : compR (own.map (·.2)) mi g m r with
  | none => exact fun q => q.elim
  | some z =>
    obtain ⟨dss, r1⟩ := z
    intro q
    refine ⟨(dss, r1), rfl, fun F' H' p L e s1 l w => ?_⟩
    have q1 : SRun k c W F (if i < r1.length ∧ noPin (r1.set i .u) = true then (match rest dss (r1.set i .u) with
      | .rt dss r2 => .rt (.list (dss.map .list)) r2
      | _ => .no) else .no) D := q
    by_cases hc : i < r1.length ∧ noPin (r1.set i .u) = true
    case neg =>
      rw [if_neg hc] at q1
      exact q1.elim
    rw [if_pos hc] at q1
    have s2 := s1.forget (i := i) (y := some (V.ref p))
    have l2 : Loose k c F' H' (r1.set i .u) (σ.set i (some (V.ref p))) L := ⟨l.h, l.f, l.g, fun b o e ⟨j, x, y, e1, e2, w⟩ => by
      by_cases hj : i = j
      · subst hj
        rw [List.getElem?_set_self hc.1] at e1
        cases e1
        exact w
      · rw [List.getElem?_set_ne hj] at e1 e2
        exact l.w b o e ⟨j, x, y, e1, e2, w⟩⟩
    have hl : i < σ.length := s1.len ▸ hc.1
    refine ⟨c, F', r1.set i .u, p, dss, ⟨s2, List.getElem?_set_self hc.1, List.getElem?_set_self hl, hc.2, L, l2, w⟩, ?_⟩
    revert q1
    cases rest dss (r1.set i .u) with
    | rt d2 r2 => exact fun q1 F2 H2 σ2 y e2 s3 dy => q1 F2 H2 σ2 y (e.trans e2) s3 dy
    | nx d2 r2 => exact fun q1 => q1.elim
    | ct d2 r2 => exact fun q1 => q1.elim
    | no => exact fun q1 => q1.elim
end
end Dx

/-! set(xs) of a list of whole numbers, as a table whose places rise -/
namespace Dx
open PySem PySem.Spec PyProof.Rows L2
section
variable {P : Program} {w : World} {A : Around} {E : Value → Shared → Prop} {s : Shared}
/-- a set that is new -/
def nSet (w : World) : Obj := ⟨.type "set", none, .set #[] 0 (.fresh 0 0 (!w.params.followText "set-order")), #[]⟩
def hSet (w : World) (h : Heap) : Heap := h.push (nSet w)
/-- what the call leaves: the set at the heap's old end, what was there stays -/
def Left (w : World) (h h' : Heap) (ns : List Int) : Prop :=
  ∃ c, c ≤ ns.length ∧ SetR w h' h.objs.size (fun j => decide (j ∈ ns)) c ∧ ∀ b o, h.get? b = some o → h'.get? b = some o
theorem hSet_at (h : Heap) : (hSet w h).get? h.objs.size = some (nSet w) := Heap.get?_push_size _ rfl
theorem hSet_size (h : Heap) : (hSet w h).objs.size = h.objs.size + 1 := Heap.size_push ..
theorem hSet_old {h : Heap} {b : Addr} {o : Obj} (e : h.get? b = some o) : (hSet w h).get? b = some o := Heap.get?_push_of_some _ e

/-- the new set takes the numbers of a list, one by one -/
theorem set_takes {l : Addr} {its : Array Value} {ns : List Int} {R : Result → Shared → Prop} (hd : A.handled = none) (il : s.heap.IsList l its) (ii : IntsAre its.toList ns) (room : ns.length + 1 < scanBound)
    (fin : ∀ h' g d tk, g = s.gens → d = s.drawn → Left w s.heap h' ns → R (.ok (.ret .none)) { s with heap := h', gens := g, drawn := d, toks := tk }) (t0 : Nat) (T : Addr) (eT : T = s.heap.objs.size + 1) :
    codeAny (model P w) A (.builtin "set.update.loop" ⟨[.ref s.heap.objs.size, .ref T], []⟩) R { s with heap := (hSet w s.heap).push { cls := .type "list_iterator", data := .fields #[.ref l, .int 0 0] }, toks := t0 } := by
  subst eT
  have lz := IntsAre.length ii
  rw [Array.length_toList] at lz
  have old : ∀ b o, s.heap.get? b = some o → ((hSet w s.heap).push { cls := .type "list_iterator", data := .fields #[.ref l, .int 0 0] }).get? b = some o := fun b o e => Heap.get?_push_of_some _ (hSet_old e)
  obtain ⟨ol, hol, cl, nl, dl⟩ := il
  have lt : l < s.heap.objs.size := Heap.lt_size hol
  have hS0 := setR_new_at (w := w) (ns := ns) (show ((hSet w s.heap).push { cls := .type "list_iterator", data := .fields #[.ref l, .int 0 0] }).get? s.heap.objs.size = some (nSet w) from Heap.get?_push_of_some _ (hSet_at s.heap))
  have itAt : ((hSet w s.heap).push { cls := .type "list_iterator", data := .fields #[.ref l, .int 0 0] }).get? (s.heap.objs.size + 1) = some { cls := .type "list_iterator", data := .fields #[.ref l, .int 0 0] } := by
    have q := Heap.get?_push_size (hSet w s.heap) (o := { cls := .type "list_iterator", data := .fields #[.ref l, .int 0 0] }) rfl
    rw [hSet_size] at q
    exact q
  have W := Walks.list (prog := P) (w := w) (A := A.in1) (by simp [hd]) (s.heap.objs.size + 1) l (Nat.ne_of_lt (Nat.lt_succ_of_lt lt)) its
  have apart : s.heap.objs.size ∉ [s.heap.objs.size + 1, l] := by
    simp only [List.mem_cons, List.not_mem_nil, or_false, not_or]
    exact ⟨Nat.ne_of_lt (Nat.lt_succ_self _), Nat.ne_of_gt lt⟩
  refine set_update_ints W.toS s.heap.objs.size apart ns lz room (fun i v e => ?_) its.size 0 _ (Nat.sub_zero _) (Nat.zero_le _) ⟨⟨_, itAt, rfl, rfl⟩, ⟨ol, old _ _ hol, cl, nl, dl⟩⟩ ⟨0, Nat.le_refl 0, hS0⟩ fun s' c m hc R' => ?_
  · have hi : i < ns.length := by rw [← lz]; exact (Array.getElem?_eq_some_iff.mp e).1
    obtain ⟨t, e2⟩ := IntsAre.int_at ii i v (by rw [Array.getElem?_toList]; exact e)
    exact ⟨ns[i], t, List.getElem?_eq_getElem hi, by rw [e2, List.getD_eq_getElem?_getD, List.getElem?_eq_getElem hi] <;> rfl⟩
  · obtain ⟨h', g, d, tk, os⟩ := s'
    have eo : os = s.os := m.os
    subst eo
    refine fin h' g d tk m.gens m.drawn ⟨c, by omega, R', fun b o e => m.heap b o ?_ (old b o e)⟩
    have hb : b < s.heap.objs.size := Heap.lt_size e
    simp only [List.mem_cons, List.not_mem_nil, or_false, not_or]
    exact ⟨Nat.ne_of_lt hb, Nat.ne_of_lt (Nat.lt_succ_of_lt hb)⟩
theorem set_inits {l : Addr} {its : Array Value} {ns : List Int} {R : Fin → Shared → Prop} (hd : A.handled = none) (il : s.heap.IsList l its) (ii : IntsAre its.toList ns) (room : ns.length + 1 < scanBound)
    (fin : ∀ h' tk, Left w s.heap h' ns → R (.done (.ret .none)) { s with heap := h', toks := tk }) :
    wpAny (model P w) A (Builtin.«set.__init__» ⟨[.ref s.heap.objs.size, .ref l], []⟩) R E { s with heap := hSet w s.heap } := by
  obtain ⟨ol, hol, cl, nl, dl⟩ := id il
  obtain ⟨cls, dic, dat, sl⟩ := ol
  cases cl
  cases dl
  have old := hSet_old (w := w) hol
  have il1 : (hSet w s.heap).IsList l its := ⟨_, old, rfl, nl, rfl⟩
  have n1 := F.sub_list_set
  have n2 := F.sub_list_frozenset
  have n3 : (Value.type "list" == Value.type "dict") = false := rfl
  have at0 : (hSet w s.heap).get? s.heap.objs.size = some { cls := .type "set", dict := none, data := .set #[] 0 (.fresh 0 0 (!w.params.followText "set-order")) } := hSet_at s.heap
  unfold Builtin.«set.__init__» noKeywords Builtin.Frozenset.updateFrom
  generalize e : pyIter = it
  wp_walk
  subst e
  refine wpAny_pyIter_list il1 ?_
  refine wpAny_bind (wpAny_runValue ?_)
  refine set_takes (by simp [hd]) il ii room (fun h' g d tk eg ed L => ?_) _ _ (hSet_size _)
  subst eg
  subst ed
  exact wpAny_pure (wpAny_pure (fin h' tk L))
/-- set(xs) -/
theorem set_of_list {l : Addr} {its : Array Value} {ns : List Int} {Q : Value → Shared → Prop} (hd : A.handled = none) (il : s.heap.IsList l its) (ii : IntsAre its.toList ns) (room : ns.length + 1 < scanBound)
    (fin : ∀ h' tk, Left w s.heap h' ns → Q (.ref s.heap.objs.size) { s with heap := h', toks := tk }) : wpAny (model P w) A (call (.type "set") [.ref l]) Q E s := by
  have K := F.called_set
  obtain ⟨_, _, k1⟩ := K.mro
  have k2 := K.made
  have k3 := K.sub
  have k4 := K.notType
  have k5 := K.canCreate
  have k6 := F.typeCall_set_1 (Value.ref l)
  refine wpAny_call (codeAny_of_tree (show wpAny _ _ (callAny (.type "set") _) _ _ _ from wpAny_pure ⟨Code.quiet_builtin _ (by decide +kernel), codeAny_builtin F.entry_type_call ?_⟩))
  rw [Around.under_plain (weight_type_call_type "set" [Value.ref l] []) rfl]
  repeat any_goals first | assumption | wp_step
  refine codeAny_mono (code_set_led1 (w := w) (E := E) (s := s) (Q₁ := fun o s1 => o = .ref s.heap.objs.size ∧ s1 = { s with heap := hSet w s.heap }) (.ref l) ⟨rfl, rfl⟩) fun r s1 hr => ?_
  rcases r with e | f
  · exact hr
  cases f <;> try exact hr.elim
  obtain ⟨rfl, rfl⟩ := hr
  have ty : Shared.TypeIs { s with heap := hSet w s.heap } (.ref s.heap.objs.size) "set" := ⟨_, hSet_at s.heap, rfl⟩
  have k7 := K.init.lookup
  have k8 := K.init.bind (Value.ref s.heap.objs.size)
  repeat any_goals first | assumption | wp_step
  refine codeAny_mono (codeAny_call_builtin (R := wants (fun v s2 => v = .none ∧ ∃ h' tk, s2 = { s with heap := h', toks := tk } ∧ Left w s.heap h' ns) E) K.init.plain F.entry_set_init
    (check_set_init_1 ty (set_inits (by simp [hd]) il ii room fun h' tk L => ⟨rfl, h', tk, rfl, L⟩))) fun r s2 hr => ?_
  rcases r with e | f
  · exact hr
  cases f <;> try exact hr.elim
  obtain ⟨rfl, h', tk, rfl, L⟩ := hr
  repeat any_goals first | assumption | wp_step
  exact fin h' tk L
end
end Dx

/-! sorted(set(xs)) of whole numbers: a list of its own -/
namespace Dx
open PySem PySem.Spec PyProof.Rows L2
section
variable {X : Cx} {k : Kn} {W : WX} {e : Expr} {p q pos cpos : Pos}
/-- each number once -/
def onceI : List Int → List Int
  | [] => []
  | n :: ns => if n ∈ ns then onceI ns else n :: onceI ns
theorem mem_onceI (j : Int) : ∀ ns : List Int, j ∈ onceI ns ↔ j ∈ ns
  | [] => Iff.rfl
  | n :: ns => by
    have ih := mem_onceI j ns
    unfold onceI
    split
    · rename_i c
      rw [ih, List.mem_cons]
      exact ⟨.inr, fun h => h.elim (fun e => e ▸ c) id⟩
    · rw [List.mem_cons, List.mem_cons, ih]
theorem nodup_onceI : ∀ ns : List Int, (onceI ns).Nodup
  | [] => List.nodup_nil
  | n :: ns => by
    unfold onceI
    split
    · exact nodup_onceI ns
    · rename_i c
      exact List.nodup_cons.mpr ⟨fun h => c ((mem_onceI n ns).mp h), nodup_onceI ns⟩
theorem onceI_len : ∀ ns : List Int, (onceI ns).length ≤ ns.length
  | [] => Nat.le_refl _
  | n :: ns => by
    have ih := onceI_len ns
    unfold onceI
    split
    · exact Nat.le_succ_of_le ih
    · exact Nat.succ_le_succ ih
def sortS (ns : List Int) : List Int := sortI (onceI ns)
theorem mem_sortS (j : Int) (ns : List Int) : j ∈ sortS ns ↔ j ∈ ns := (sortI_perm _).mem_iff.trans (mem_onceI j ns)
theorem sortS_len (ns : List Int) : (sortS ns).length ≤ ns.length := by
  rw [sortS, (sortI_perm _).length_eq]
  exact onceI_len ns
theorem sortS_up (ns : List Int) : (sortS ns).Pairwise (· < ·) :=
  lt_of_le_nodup _ (sortI_up _) ((sortI_perm _).nodup_iff.mpr (nodup_onceI ns))
theorem up_same : ∀ xs ys : List Int, xs.Pairwise (· < ·) → ys.Pairwise (· < ·) → (∀ j, j ∈ xs ↔ j ∈ ys) → xs = ys
  | [], [], _, _, _ => rfl
  | [], y :: ys, _, _, h => nomatch (h y).mpr List.mem_cons_self
  | x :: xs, [], _, _, h => nomatch (h x).mp List.mem_cons_self
  | x :: xs, y :: ys, hx, hy, h => by
    obtain ⟨a, b⟩ := List.pairwise_cons.mp hx
    obtain ⟨c, d⟩ := List.pairwise_cons.mp hy
    have e : x = y := by
      rcases List.mem_cons.mp ((h x).mp List.mem_cons_self) with q | q
      · exact q
      · rcases List.mem_cons.mp ((h y).mpr List.mem_cons_self) with z | z
        · exact z.symm
        · have u := a y z
          have v := c x q
          omega
    subst e
    refine congrArg _ (up_same xs ys b d fun j => ⟨fun m => ?_, fun m => ?_⟩)
    · rcases List.mem_cons.mp ((h j).mp (List.mem_cons_of_mem _ m)) with q | q
      · have := a j m
        omega
      · exact q
    · rcases List.mem_cons.mp ((h j).mpr (List.mem_cons_of_mem _ m)) with q | q
      · have := c j m
        omega
      · exact q
/-- set called with a list of whole numbers -/
def rSetI (X : Cx) : List V → Hp → VK → Prop := fun xs H Q => ∃ (l : Addr) (ns : List Int), xs = [V.ref l] ∧ SqL X.K H l (ns.map V.int) ∧ ns.length < 64 ∧
  ∀ (p : Addr) (c : Nat), H p = none → c ≤ ns.length → Q (.ref p) (upd H p (SetO X.w p (fun j => decide (j ∈ ns)) c))
theorem cr_setI (hc : X.calm = true) : CallR X (.type "set") (rSetI X) := by
  intro pins s σ H xs us Q I r h
  obtain ⟨l, ns, rfl, hq, hl, q⟩ := h
  rw [Vals.ref1 r]
  obtain ⟨its, rv, pl, hz⟩ := I.list hq
  refine set_of_list (I.ok.hd hc) pl.isList (ints_of_vals rv) (by unfold scanBound; omega) fun h' tk L => ?_
  obtain ⟨c, hcn, R, kk⟩ := L
  exact ⟨.ref _, _, I.laid (t' := tk) kk (Nat.le_refl _) (setO_new R), rfl, q _ c (I.hok.fresh (Nat.le_refl _)) hcn⟩
def mSortSet (m : M PyData) : M (List PyData) := mbind m fun d => match d with
  | .list ds => (match intsOf ds with
    | some ns => if ns.length < 64 then mpure ((sortS ns).map .int) else mno
    | none => mno)
  | _ => mno
theorem oSortSet {m : M PyData} (hc : X.calm = true) (ha : PE X e (rD k W m)) (hg : Gl X "sorted") (hm : X.mg "sorted" = none) (hv : bootBuiltins "sorted" = some (.builtin "sorted")) (hg2 : Gl X "set") (hm2 : X.mg "set" = none) (hv2 : bootBuiltins "set" = some (.type "set")) (hK : X.K = k.K := by rfl)
    (h1 : starEach [e] X.env = (false, eval e X.env) :: starEach [] X.env := by rfl) (hpl : (backTo cpos (starEach [] X.env)).any (·.1) = false := by rfl)
    (h2 : starEach [.Call (.Name "set" p) [e] [] cpos] X.env = (false, eval (.Call (.Name "set" p) [e] [] cpos) X.env) :: starEach [] X.env := by rfl) (hpl2 : (backTo pos (starEach [] X.env)).any (·.1) = false := by rfl) :
    PE X (.Call (.Name "sorted" q) [.Call (.Name "set" p) [e] [] cpos] [] pos) (rO k W (mSortSet m)) :=
  pe_imp (pe_callB (cr_sortedSet hc) hg hm hv (pa_cons (pe_callTy (cr_setI hc) hg2 hm2 hv2 (pa_cons ha pa_nil h1) (he := h1) (hpl := hpl)) pa_nil h2) (he := h2) (hpl := hpl2)) fun σ H Q z => by
  obtain ⟨c, F, r, s, z⟩ := z
  refine ⟨c, F, r, s, (Run.bind z).imp fun d r1 F1 H1 e1 _ ⟨s1, _, q1⟩ x dx => ?_⟩
  cases d with
  | list ds =>
    obtain ⟨a, vs, rfl, p1, p2⟩ := dp_lst dx
    have q2 : Run k c W σ F1 ((match intsOf ds with
      | some ns => if ns.length < 64 then mpure ((sortS ns).map PyData.int) else mno
      | none => mno) r1) fun ds r' F' H' => ∀ a vs, Fresh k c F' H' r' σ a vs ds → Q (.ref a) H' := q1
    cases hi : intsOf ds with
    | none =>
      rw [hi] at q2
      exact q2.elim
    | some ns =>
      rw [hi] at q2
      by_cases hn : ns.length < 64
      · simp only [hn, if_true] at q2
        have ed := intsOf_eq hi
        subst ed
        have ev := ints_dp p2
        subst ev
        refine ⟨a, ns, rfl, hK ▸ s1.fh.seq p1, hn, fun p0 c0 np0 hc0 => ?_⟩
        refine ⟨p0, _, c0, rfl, upd_same, by omega, fun ns' p' hs hmem _ np => ?_⟩
        have en : ns' = sortS ns := up_same _ _ hs (sortS_up ns) fun j => by rw [hmem j, decide_eq_true_eq, mem_sortS]
        subst en
        have dd : DpAll k.K F1 ((sortS ns).map V.int) ((sortS ns).map PyData.int) := by
          generalize sortS ns = ms
          induction ms with
          | nil => exact .nil
          | cons m ms ih => exact .cons (Dp.int _) ih
        have s2 := s1.fresh (o := SetO X.w p0 (fun j => decide (j ∈ ns)) c0) np0
        exact q2 F1 _ (Same.refl F1) (s2.fresh np) p' _ (s2.freshL np dd)
      · simp only [hn, if_false] at q2
        exact q2.elim
  | none => exact q1.elim
  | bool b => exact q1.elim
  | int i => exact q1.elim
  | str t => exact q1.elim
  | tuple t => exact q1.elim
  | dict t => exact q1.elim
/-- x is True, x is False -/
def fIsB : PyData → PyData → Option PyData
  | .bool a, .bool b => some (.bool (decide (a = b)))
  | _, _ => none
theorem cIsB : CmpD X k .Is fIsB := ⟨_, op_isBl, by
  intro c F H r σ x y d e z Q s dx dy hz kk
  unfold fIsB at hz
  split at hz
  · cases hz
    cases dx
    cases dy
    exact ⟨_, _, rfl, rfl, kk F H _ (Same.refl F) s (Dp.bl _)⟩
  · cases hz⟩
end
end Dx

/-! a list of new lists that one slot holds: shown, lengthened, its lists changed, then forgotten -/
namespace Dx
open PySem PySem.Spec PyProof.Rows L2
abbrev XS := List (List PyData) → S
def rX (k : Kn) (W : WX) (i : Nat) (m : XS) : TS := fun D σ H => ∃ c F r p dss, StaR k c F H r σ i p dss ∧ SRun k c W F (m dss r) D
section
variable {X : Cx} {k : Kn} {W : WX} {i : Nat} {pos : Pos}
theorem xEnd {sts : List Stmt} {m : S} (h : PSs X sts (rS k W m)) : PSs X sts (rX k W i fun _ => m) := pss_imp h fun D σ H q => by
  obtain ⟨c, F, r, p, dss, s, q⟩ := q
  exact ⟨c, F, r, s.s, q⟩
/-- a statement beside it or with it -/
def thenX (m : RS) (n : XS) : XS := fun dss r => match m dss r with
  | .nx d r1 => n d r1
  | _ => .no
theorem xThen {st : Stmt} {sts : List Stmt} {m : RS} {n : XS} (h1 : PS X st (rR k W i m)) (h2 : PSs X sts (rX k W i n)) : PSs X (st :: sts) (rX k W i (thenX m n)) := pss_imp (pss_cons h1 h2) fun D σ H q => by
  obtain ⟨c, F, r, p, dss, s, q⟩ := q
  refine ⟨c, F, r, p, dss, s, ?_⟩
  unfold thenX at q
  revert q
  cases m dss r with
  | nx d r1 => exact fun q F1 H1 σ1 e1 s1 => ⟨c, F1, r1, p, d, s1, SRun.up q e1⟩
  | ct d r1 => exact fun q => q.elim
  | rt d r1 => exact fun q => q.elim
  | no => exact fun q => q.elim
theorem set_same {σ : List (Option V)} {y : V} (h : σ[i]? = some (some y)) : σ.set i (some y) = σ := by
  apply List.ext_getElem?
  intro j
  by_cases e : i = j
  · subst e
    rw [List.getElem?_set_self (List.getElem?_eq_some_iff.mp h).1, h]
  · rw [List.getElem?_set_ne e]
open Classical in
/-- it is shown: a test that must be false -/
noncomputable def testX (i : Nat) (t : M Bool) (n : XS) : XS := fun dss r => if flatR r = true ∧ t (r.set i (.v (.list (dss.map .list)))) = .ok false (r.set i (.v (.list (dss.map .list)))) then n dss r else .no
theorem xTest {t : M Bool} {m : S} {n : XS} {cnd : Expr} {as sts : List Stmt} (ht : PT X cnd (rT k W t)) (hm : PSs X as (rS k W m)) (h : PSs X sts (rX k W i n)) : PSs X (.If cnd as [] pos :: sts) (rX k W i (testX i t n)) := pss_imp (pss_cons (ps_if ht hm pss_nil) h) fun D σ H q => by
  obtain ⟨c, F, r, p, dss, ⟨s, u, hp, np, L, l, w⟩, q⟩ := q
  unfold testX at q
  by_cases hc : flatR r = true ∧ t (r.set i (.v (.list (dss.map .list)))) = .ok false (r.set i (.v (.list (dss.map .list))))
  case neg =>
    rw [if_neg hc] at q
    exact q.elim
  rw [if_pos hc] at q
  obtain ⟨hfl, hte⟩ := hc
  have hl : i < r.length := (List.getElem?_eq_some_iff.mp u).1
  have dv := Rws.data l w
  have s4 := (s.adoptL l).put hl dv
  rw [set_same hp] at s4
  have own : ∀ b, Owned (r.set i (.v (.list (dss.map .list)))) σ b → Owned r σ b := fun b ⟨j, x, y, o1, o2, w⟩ => by
    by_cases z : i = j
    · subst z
      rw [List.getElem?_set_self hl] at o1
      cases o1
      exact w.elim
    · rw [List.getElem?_set_ne z] at o1
      exact ⟨j, x, y, o1, o2, w⟩
  refine ⟨_, _, _, s4.lock, ?_⟩
  rw [hte]
  intro F5 H5 e5 s5
  have keep : ∀ b o, H b = some o → ¬ Owned r σ b → H5 b = some o := fun b o w no => s5.gh b o (by
    show restG _ _ _ b = some o
    rw [restG_not fun w2 => no (own b w2)]
    exact w)
  have sP := s.past s5 keep (fun j x y b o1 o2 w => by
    by_cases z : i = j
    · subst z
      rw [u] at o1
      cases o1
      exact w.elim
    · rw [List.getElem?_set_ne z]
      exact o1) hfl
  exact ⟨c, F, r, p, dss, ⟨sP, u, hp, np, L, ⟨fun b o e => keep b o (l.h b o e) (l.w b o e), l.f, l.g, l.w⟩, w⟩, q⟩
end
section
variable {X : Cx} {k : Kn} {W : WX} {i : Nat} {eA eB : Expr} {sts : List Stmt} {p1 p2 p3 : Pos}
/-- told = [new, new] -/
def newX (i : Nat) (mA mB : M (List PyData)) (n : XS) : S := sBind mA fun as => sBind mB fun bs => fun r => if i < r.length ∧ noPin (r.set i .u) = true then n [as, bs] (r.set i .u) else .no
theorem xNew {x : Str} {mA mB : M (List PyData)} {n : XS} (hN : X.N.Nodup) (hi : X.N[i]? = some x) (hx : Loc X.env.scope x) (hA : PE X eA (rO k W mA)) (hB : PE X eB (rO k W mB)) (h : PSs X sts (rX k W i n))
    (nA : starEach [eA, eB] X.env = (false, eval eA X.env) :: starEach [eB] X.env := by rfl) (nB : starEach [eB] X.env = (false, eval eB X.env) :: starEach [] X.env := by rfl)
    (hs1 : swapsWith (.List [eA, eB] p2) (some (.Name x p1)) p3.line X.env = pure false := by rfl) (hf : X.fn x = true ∨ X.env.scope.names.lookup x = some .local := by first | exact .inl rfl | exact .inr rfl | assumption) :
    PSs X (.Assign [.Name x p1] (.List [eA, eB] p2) p3 :: sts) (rS k W (newX i mA mB n)) := by
  refine pss_imp (pss_cons (ps_set hN hi hx (pe_lst (pa_cons hA (pa_cons hB pa_nil nB) nA)) hs1 hf) h) fun D σ H q => ?_
  obtain ⟨c, F, r, s, q⟩ := q
  refine ⟨c, F, r, s, (SRun.bind q).imp fun ds r1 F1 H1 e1 _ ⟨s1, _, q1⟩ a1 vs1 f1 => ?_⟩
  refine ⟨_, F1, r1, s1.hold f1, (Run.under s1 f1 (Same.refl F1) (SRun.bind q1)).imp fun es r2 F2 H2 e2 sh ⟨s2, f2, _, _, q2⟩ a2 vs2 g2 => ?_⟩
  refine ⟨by show 2 ≤ sizeLine; decide, fun p np => ?_⟩
  by_cases hc : i < r2.length ∧ noPin (r2.set i .u) = true
  case neg =>
    rw [if_neg hc] at q2
    exact q2.elim
  rw [if_pos hc] at q2
  obtain ⟨hl, hnp⟩ := hc
  have n12 : a2 ≠ a1 := fun w => by
    have z : upd c.G a1 (HO.lst vs1) a2 = none := g2.2.1
    rw [w, upd_same] at z
    cases z
  have gG : c.G a2 = none := by
    have z : upd c.G a1 (HO.lst vs1) a2 = none := g2.2.1
    rw [upd_ne n12] at z
    exact z
  have np1 : p ≠ a1 := fun w => by
    rw [w, f2.2.2.1] at np
    cases np
  have np2 : p ≠ a2 := fun w => by
    rw [w, g2.2.2.1] at np
    cases np
  have sF := (s2.fresh (o := .lst [.ref a1, .ref a2]) np).forget (i := i) (y := some (.ref p))
  have own2 : ∀ b, Owned (r2.set i .u) (σ.set i (some (.ref p))) b → Owned r2 σ b := fun b ⟨j, x, y, o1, o2, w⟩ => by
    by_cases z : i = j
    · subst z
      rw [List.getElem?_set_self hl] at o1
      cases o1
      exact w.elim
    · rw [List.getElem?_set_ne z] at o1 o2
      exact ⟨j, x, y, o1, o2, w⟩
  have hy : (σ.set i (some (.ref p)))[i]? = some (some (V.ref p)) := List.getElem?_set_self (by rw [← s2.len]; exact hl)
  have pOwn : ¬ Owned r2 σ p := fun ⟨j, x, y, o1, o2, w⟩ => by
    obtain ⟨_, _, us, z⟩ := (s2.cell j x y o1 o2).own w
    rw [np] at z
    cases z
  have l3 := ((Loose.zero (k := k) (c := c) (F := F2) (H := upd H2 p (.lst [.ref a1, .ref a2])) (r := r2.set i .u) (σ := σ.set i (some (.ref p)))).add (b := a1) (o := .lst vs1) (by rw [upd_ne (Ne.symm np1)]; exact f2.2.2.1) f2.1 f2.2.1 fun w => by
    obtain ⟨j, x, y, o1, o2, w⟩ := own2 _ w
    exact f2.2.2.2.2 j x y o1 o2 w).add (b := a2) (o := .lst vs2) (by rw [upd_ne (Ne.symm np2)]; exact g2.2.2.1) g2.1 gG (fun w => by
    obtain ⟨j, x, y, o1, o2, w⟩ := own2 _ w
    exact g2.2.2.2.2 j x y o1 o2 w)
  have l4 := l3.add (b := p) (o := .lst [.ref a1, .ref a2]) upd_same (s2.nF np) (s2.nG np) fun w => pOwn (own2 _ w)
  refine ⟨c, F2, r2.set i .u, p, [ds, es], ⟨sF, List.getElem?_set_self hl, hy, hnp, _, l4, [a1, a2], upd_same, ?_, ?_⟩, q2⟩
  · simp only [List.nodup_cons, List.mem_cons, List.not_mem_nil, or_false, not_or, not_false_eq_true, List.nodup_nil, and_true]
    exact ⟨⟨np1, np2⟩, Ne.symm n12⟩
  · refine .cons ⟨vs1, ?_, f2.2.2.2.1⟩ (.cons ⟨vs2, ?_, g2.2.2.2.1⟩ .nil)
    · rw [upd_ne (Ne.symm np1), upd_ne (Ne.symm n12), upd_same]
    · rw [upd_ne (Ne.symm np2), upd_same]
end
end Dx

/-! it is lengthened; each of its lists is lengthened -/
namespace Dx
open PySem PySem.Spec PyProof.Rows L2
section
variable {X : Cx} {k : Kn} {W : WX} {i : Nat} {eA eB : Expr} {sts : List Stmt} {p1 p2 p3 p4 : Pos}
theorem setU_same {r : Ev} (h : r[i]? = some .u) : r.set i .u = r := by
  apply List.ext_getElem?
  intro j
  by_cases e : i = j
  · subst e
    rw [List.getElem?_set_self (List.getElem?_eq_some_iff.mp h).1, h]
  · rw [List.getElem?_set_ne e]
/-- told = told + [new, new] -/
def moreX (i : Nat) (mA mB : M (List PyData)) (n : XS) : XS := fun dss => sBind mA fun as => sBind mB fun bs => fun r => if isU r[i]? = true ∧ noPin r = true ∧ dss.length + 2 ≤ sizeLine then n (dss ++ [as, bs]) r else .no
theorem xMore {x : Str} {o : Expr} {mA mB : M (List PyData)} {n : XS} (hN : X.N.Nodup) (hi : X.N[i]? = some x) (hx : Loc X.env.scope x) (ho : PE X o (tVar i)) (hA : PE X eA (rO k W mA)) (hB : PE X eB (rO k W mB)) (h : PSs X sts (rX k W i n))
    (nA : starEach [eA, eB] X.env = (false, eval eA X.env) :: starEach [eB] X.env := by rfl) (nB : starEach [eB] X.env = (false, eval eB X.env) :: starEach [] X.env := by rfl)
    (hs1 : swapsWith (.BinOp o .Add (.List [eA, eB] p2) p4) (some (.Name x p1)) p3.line X.env = pure false := by rfl) (hf : X.fn x = true ∨ X.env.scope.names.lookup x = some .local := by first | exact .inl rfl | exact .inr rfl | assumption) (hK : X.K = k.K := by rfl) :
    PSs X (.Assign [.Name x p1] (.BinOp o .Add (.List [eA, eB] p2) p4) p3 :: sts) (rX k W i (moreX i mA mB n)) := by
  refine pss_imp (pss_cons (ps_set hN hi hx (pe_op (hK ▸ op_catS) ho (pe_lst (pa_cons hA (pa_cons hB pa_nil nB) nA))) hs1 hf) h) fun D σ H q => ?_
  obtain ⟨c, F, r, p, dss, ⟨s, u, hp, np, L, l, w⟩, q⟩ := q
  refine ⟨.ref p, hp, _, F, r, s.holdL l, (Run.underL s l (SRun.bind q)).imp fun ds r1 F1 H1 e1 sh ⟨s1, L1, _, _, q1⟩ a1 vs1 f1 => ?_⟩
  have g1 := withG_none f1.2.1
  have La := L1.add f1.2.2.1 f1.1 g1.1 fun ⟨j, x, y, o1, o2, w⟩ => f1.2.2.2.2 j x y o1 o2 w
  refine ⟨_, F1, r1, s1.holdL La, (Run.underL s1 La (SRun.bind q1)).imp fun es r2 F2 H2 e2 sh2 ⟨s2, L2, _, _, q2⟩ a2 vs2 f2 => ?_⟩
  have g2 := withG_none f2.2.1
  refine ⟨by show 2 ≤ sizeLine; decide, fun pl npl => ?_⟩
  by_cases hc : isU r2[i]? = true ∧ noPin r2 = true ∧ dss.length + 2 ≤ sizeLine
  case neg =>
    rw [if_neg hc] at q2
    exact q2.elim
  rw [if_pos hc] at q2
  obtain ⟨hu, hnp, hz⟩ := hc
  have u2 := isU_eq hu
  have hl : i < r2.length := (List.getElem?_eq_some_iff.mp u2).1
  obtain ⟨as, w1, w2, w3⟩ := w
  have n12 : a2 ≠ a1 := fun z => by
    have := g2.2
    rw [z, upd_same] at this
    cases this
  have La2 : L a2 = none := by
    have := g2.2
    rw [upd_ne n12] at this
    exact this
  have pa1 : p ≠ a1 := fun z => by
    have := g1.2
    rw [← z, w1] at this
    cases this
  have pa2 : p ≠ a2 := fun z => by
    rw [← z, w1] at La2
    cases La2
  have lp : upd L a1 (HO.lst vs1) p = some (.lst (as.map V.ref)) := by
    rw [upd_ne pa1]
    exact w1
  have hpp : H2 p = some (.lst (as.map V.ref)) := L2.h p _ lp
  have np1 : pl ≠ p := fun z => by
    rw [z, hpp] at npl
    cases npl
  refine ⟨p, pl, as.map V.ref, [.ref a1, .ref a2], rfl, rfl, SqL.of (by rw [upd_ne (Ne.symm np1)]; exact hpp), SqL.of upd_same, by
    rw [List.length_map, rws_len w3]
    exact hz, fun p5 np5 => ?_⟩
  have np5' : H2 p5 = none := by
    by_cases z : p5 = pl
    · rw [z, upd_same] at np5
      cases np5
    · rw [upd_ne z] at np5
      exact np5
  have p5l : p5 ≠ pl := fun z => by
    rw [z, upd_same] at np5
    cases np5
  have own2 : ∀ b, Owned r2 (σ.set i (some (.ref p5))) b → Owned r2 σ b := fun b ⟨j, x, y, o1, o2, w⟩ => by
    by_cases z : i = j
    · subst z
      rw [u2] at o1
      cases o1
      exact w.elim
    · rw [List.getElem?_set_ne z] at o2
      exact ⟨j, x, y, o1, o2, w⟩
  have sA := (s2.fresh (o := .lst [.ref a1, .ref a2]) npl).fresh (o := .lst (as.map V.ref ++ [.ref a1, .ref a2])) np5
  have sF := sA.forget (i := i) (y := some (.ref p5))
  rw [setU_same u2] at sF
  have l3 := L2.add f2.2.2.1 f2.1 g2.1 fun ⟨j, x, y, o1, o2, w⟩ => f2.2.2.2.2 j x y o1 o2 w
  have l4 := (l3.fresh (o := .lst [.ref a1, .ref a2]) npl).fresh (o := .lst (as.map V.ref ++ [.ref a1, .ref a2])) np5
  have l5 := l4.add (b := p5) (o := .lst (as.map V.ref ++ [.ref a1, .ref a2])) upd_same (s2.nF np5') (s2.nG np5') fun ⟨j, x, y, o1, o2, w⟩ => by
    obtain ⟨_, _, us, z⟩ := (s2.cell j x y o1 o2).own w
    rw [np5'] at z
    cases z
  have l6 : Loose k c F2 _ r2 (σ.set i (some (.ref p5))) _ := ⟨l5.h, l5.f, l5.g, fun b o e w => l5.w b o e (own2 b w)⟩
  have inL : ∀ a ∈ as, ∃ o, L a = some o := fun a ha => by
    obtain ⟨j, hj⟩ := List.mem_iff_getElem?.mp ha
    have hjl : j < dss.length := by
      rw [← rws_len w3]
      exact (List.getElem?_eq_some_iff.mp hj).1
    obtain ⟨a', ha', vs, hv, _⟩ := rws_get w3 (List.getElem?_eq_getElem hjl)
    rw [hj] at ha'
    cases ha'
    exact ⟨_, hv⟩
  have a1n : a1 ∉ as := fun m => by
    obtain ⟨o, e⟩ := inL a1 m
    rw [g1.2] at e
    cases e
  have a2n : a2 ∉ as := fun m => by
    obtain ⟨o, e⟩ := inL a2 m
    rw [La2] at e
    cases e
  have p5a : ∀ a, (∃ o, upd (upd L a1 (HO.lst vs1)) a2 (.lst vs2) a = some o) → a ≠ p5 := fun a ⟨o, e⟩ z => by
    have := l3.h a o e
    rw [z, np5'] at this
    cases this
  have e1' : upd (upd L a1 (HO.lst vs1)) a2 (.lst vs2) a1 = some (.lst vs1) := by rw [upd_ne (Ne.symm n12), upd_same]
  have e2' : upd (upd L a1 (HO.lst vs1)) a2 (.lst vs2) a2 = some (.lst vs2) := upd_same
  have ea : ∀ a ∈ as, ∀ o, L a = some o → upd (upd L a1 (HO.lst vs1)) a2 (.lst vs2) a = some o := fun a ha o e => by
    have z2 : a ≠ a2 := fun z => a2n (by rw [← z]; exact ha)
    have z1 : a ≠ a1 := fun z => a1n (by rw [← z]; exact ha)
    rw [upd_ne z2, upd_ne z1]
    exact e
  obtain ⟨n1, n2⟩ := List.nodup_cons.1 w2
  refine ⟨c, F2, r2, p5, dss ++ [ds, es], ⟨sF, u2, List.getElem?_set_self (by rw [← s2.len]; exact hl), hnp, _, l6, as ++ [a1] ++ [a2], by rw [upd_same, List.map_append, List.map_append, List.append_assoc]; rfl, ?_, ?_⟩, q2⟩
  · refine List.nodup_cons.2 ⟨fun m => ?_, ?_⟩
    · rcases List.mem_append.mp m with m | m
      · rcases List.mem_append.mp m with m | m
        · obtain ⟨o, e⟩ := inL p5 m
          exact p5a p5 ⟨o, ea p5 m o e⟩ rfl
        · rw [List.mem_singleton] at m
          exact p5a a1 ⟨_, e1'⟩ m.symm
      · rw [List.mem_singleton] at m
        exact p5a a2 ⟨_, e2'⟩ m.symm
    · rw [List.nodup_append]
      refine ⟨?_, List.nodup_cons.2 ⟨List.not_mem_nil, List.nodup_nil⟩, fun x hx y hy e => ?_⟩
      · rw [List.nodup_append]
        refine ⟨n2, List.nodup_cons.2 ⟨List.not_mem_nil, List.nodup_nil⟩, fun x hx y hy e => ?_⟩
        rw [List.mem_singleton] at hy
        exact a1n (by rw [← hy, ← e]; exact hx)
      · rw [List.mem_singleton] at hy
        rw [hy] at e
        rcases List.mem_append.mp hx with m | m
        · exact a2n (e ▸ m)
        · rw [List.mem_singleton] at m
          exact n12 (e.symm.trans m)
  · have step : ∀ a b, a ∈ as → (∃ vs, L a = some (.lst vs) ∧ DpAll k.K F vs b) → ∃ vs, upd (upd (upd L a1 (HO.lst vs1)) a2 (.lst vs2)) p5 (.lst (as.map V.ref ++ [.ref a1, .ref a2])) a = some (.lst vs) ∧ DpAll k.K F2 vs b := fun a b ha ⟨vs, h1, h2⟩ =>
      ⟨vs, by rw [upd_ne (p5a a ⟨_, ea a ha _ h1⟩)]; exact ea a ha _ h1, DpAll.up (e1.trans e2) _ _ h2⟩
    have b1 := rws_more (R' := fun a b => ∃ vs, upd (upd (upd L a1 (HO.lst vs1)) a2 (.lst vs2)) p5 (.lst (as.map V.ref ++ [.ref a1, .ref a2])) a = some (.lst vs) ∧ DpAll k.K F2 vs b) (x := a1) (y := ds) ⟨vs1, by rw [upd_ne (p5a a1 ⟨_, e1'⟩)]; exact e1', DpAll.up e2 _ _ f1.2.2.2.1⟩ w3 step
    have b2 := rws_more (R' := fun a b => ∃ vs, upd (upd (upd L a1 (HO.lst vs1)) a2 (.lst vs2)) p5 (.lst (as.map V.ref ++ [.ref a1, .ref a2])) a = some (.lst vs) ∧ DpAll k.K F2 vs b) (x := a2) (y := es) ⟨vs2, by rw [upd_ne (p5a a2 ⟨_, e2'⟩)]; exact e2', f2.2.2.2.1⟩ b1 fun a b _ h => h
    have e : dss ++ [ds, es] = dss ++ [ds] ++ [es] := by
      rw [List.append_assoc]
      rfl
    rw [e]
    exact b2
end
section
variable {X : Cx} {k : Kn} {W : WX} {i j : Nat} {o on e : Expr} {sts : List Stmt} {pos p6 : Pos}
def progX (d : PyData) (n : Nat) (dss : List (List PyData)) : List (List PyData) := (dss.take n).map (· ++ [d]) ++ dss.drop n
theorem prog_len (d : PyData) (n : Nat) (dss : List (List PyData)) : (progX d n dss).length = dss.length := by
  unfold progX
  rw [List.length_append, List.length_map, List.length_take, List.length_drop]
  omega
theorem prog_at {d : PyData} {n : Nat} {dss : List (List PyData)} (h : n < dss.length) : (progX d n dss)[n]? = some dss[n] := by
  unfold progX
  rw [List.getElem?_append_right (by rw [List.length_map, List.length_take]; omega), List.length_map, List.length_take, List.getElem?_drop, show n + (n - min n dss.length) = n by omega, List.getElem?_eq_getElem h]
theorem prog_set {d : PyData} {n : Nat} {dss : List (List PyData)} (h : n < dss.length) : (progX d n dss).set n (dss[n] ++ [d]) = progX d (n + 1) dss := by
  have ht : (dss.take n).length = n := by rw [List.length_take]; omega
  unfold progX
  rw [List.set_append_right _ _ (by rw [List.length_map, ht]; exact Nat.le_refl _), List.length_map, ht, Nat.sub_self, List.drop_eq_getElem_cons h, List.set_cons_zero, List.take_succ_eq_append_getElem h, List.map_append, List.append_assoc]
  rfl
theorem prog_all (d : PyData) (dss : List (List PyData)) : progX d dss.length dss = dss.map (· ++ [d]) := by
  unfold progX
  rw [List.take_length, List.drop_length, List.append_nil]
theorem setO_same {σ : List (Option V)} {y : Option V} (h : σ[j]? = some y) : σ.set j y = σ := by
  apply List.ext_getElem?
  intro l
  by_cases z : j = l
  · subst z
    rw [List.getElem?_set_self (List.getElem?_eq_some_iff.mp h).1, h]
  · rw [List.getElem?_set_ne z]
theorem refs_inj : ∀ {as bs : List Addr}, as.map V.ref = bs.map V.ref → as = bs
  | [], [], _ => rfl
  | [], _ :: _, h => by cases h
  | _ :: _, [], h => by cases h
  | a :: as, b :: bs, h => by
    rw [List.map_cons, List.map_cons] at h
    injection h with h1 h2
    injection h1 with h1
    rw [h1, refs_inj h2]
/-- for one in told: one.append(d) -/
def eachX (i j : Nat) (d : PyData) (n : XS) : XS := fun dss r => if i ≠ j ∧ j < r.length ∧ noPin (r.set j .u) = true ∧ dss.all (fun ds => decide (ds.length < sizeLine)) = true then n (dss.map (· ++ [d])) (r.set j .u) else .no
theorem xEach {y : Str} {d : PyData} {n : XS} {apos cpos py : Pos} (hp : PassesOwn (model X.prog X.w) X.A X.env X.xe) (hc : X.calm = true) (hN : X.N.Nodup) (hj : X.N[j]? = some y) (hy : Loc X.env.scope y) (ho : PE X o (tVar i)) (hon : PE X on (tVar j)) (he : PE X e (rD k W (mpure d))) (h : PSs X sts (rX k W i n))
    (hf : X.fn y = true ∨ X.env.scope.names.lookup y = some .local := by first | exact .inl rfl | exact .inr rfl | assumption) (hs0 : ∀ x, foldedSetIterable o X.env x = pure x := by intro _; rfl) (hK : X.K = k.K := by rfl)
    (hbase : attributeBase on "append" X.env (eval on X.env) = eval on X.env := by rfl)
    (hfew : ((backTo cpos (starEach [e] X.env)).all (fun x => !x.1) && (backToKw cpos (keywordEach [] X.env)).all (fun x => x.1.isSome) && decide ([e].length + ([] : List Keyword).length + (if ([] : List Keyword).isEmpty then 0 else 1) < 30)) = true := by rfl)
    (hline : (apos.endLine == cpos.line) = true := by rfl) (hs : starEach [e] X.env = (false, eval e X.env) :: starEach [] X.env := by rfl) (hplain : (backTo cpos (starEach [] X.env)).any (·.1) = false := by rfl)
    (hsw : swapsWith (.Call (.Attribute on "append" apos) [e] [] cpos) none p6.line X.env = pure false := by rfl) :
    PSs X (.For (.Name y py) o [.Expr (.Call (.Attribute on "append" apos) [e] [] cpos) p6] [] pos :: sts) (rX k W i (eachX i j d n)) := by
  refine pss_imp (pss_cons (ps_for hp hc (pi_list ho) (pg_name hN hj hy hf) (pss_one (ps_expr (pe_bm PySem.F.plainAttrs_list PySem.F.slot_list_append PySem.F.type_list_append mt_append hon (pa_cons he pa_nil hs) hbase hfew hline hs hplain) hsw)) hs0) h) fun D σ H q => ?_
  obtain ⟨c, F, r, p, dss, ⟨s, u, hpp, np, L, l, w⟩, q⟩ := q
  unfold eachX at q
  by_cases hcc : i ≠ j ∧ j < r.length ∧ noPin (r.set j .u) = true ∧ dss.all (fun ds => decide (ds.length < sizeLine)) = true
  case neg =>
    rw [if_neg hcc] at q
    exact q.elim
  rw [if_pos hcc] at q
  obtain ⟨hij, hjl, hnp, hall⟩ := hcc
  obtain ⟨as, w1, w2, w3⟩ := w
  have hpL := l.h p _ w1
  have uj : (r.set j .u)[i]? = some .u := by
    rw [List.getElem?_set_ne (Ne.symm hij)]
    exact u
  have ownj : ∀ (σ' : List (Option V)) b, Owned (r.set j .u) σ' b → ∀ y, Owned (r.set j .u) (σ'.set j y) b := fun σ' b ⟨l, x, y, o1, o2, w⟩ y' => by
    by_cases z : j = l
    · subst z
      rw [List.getElem?_set_self hjl] at o1
      cases o1
      exact w.elim
    · exact ⟨l, x, y, o1, by rw [List.getElem?_set_ne z]; exact o2, w⟩
  have ownj2 : ∀ (σ' : List (Option V)) b y, Owned (r.set j .u) (σ'.set j y) b → Owned (r.set j .u) σ' b := fun σ' b y' ⟨l, x, y, o1, o2, w⟩ => by
    by_cases z : j = l
    · subst z
      rw [List.getElem?_set_self hjl] at o1
      cases o1
      exact w.elim
    · rw [List.getElem?_set_ne z] at o2
      exact ⟨l, x, y, o1, o2, w⟩
  refine ⟨.ref p, hpp, p, rfl, ⟨as.map V.ref, SqL.of hpL⟩, for_list (K := X.K) (a := p) (xs := as.map V.ref)
    (fun n' σ' H' => ∃ F' L', Same F F' ∧ Sta k c F' H' (r.set j .u) σ' ∧ σ'[i]? = some (some (.ref p)) ∧ Loose k c F' H' (r.set j .u) σ' L' ∧ L' p = some (.lst (as.map V.ref)) ∧ Paired (fun a ds => ∃ vs, L' a = some (.lst vs) ∧ DpAll k.K F' vs ds) as (progX d n' dss)) ?_ ?_ ?_ ?_⟩
  · have hσ : ∃ y0, σ[j]? = some y0 := ⟨_, List.getElem?_eq_getElem (by rw [← s.len]; exact hjl)⟩
    obtain ⟨y0, hy0⟩ := hσ
    have sj := s.forget (i := j) (y := y0)
    rw [setO_same hy0] at sj
    refine ⟨F, L, Same.refl F, sj, hpp, ⟨l.h, l.f, l.g, fun b o e ⟨m, x, y, o1, o2, w⟩ => ?_⟩, w1, ?_⟩
    · by_cases z : j = m
      · subst z
        rw [List.getElem?_set_self hjl] at o1
        cases o1
        exact w.elim
      · rw [List.getElem?_set_ne z] at o1
        exact l.w b o e ⟨m, x, y, o1, o2, w⟩
    · rw [progX, List.take_zero, List.drop_zero]
      exact w3
  · rintro n' σ' H' _ ⟨F', L', _, _, _, l', lp', _⟩
    exact SqL.of (l'.h p _ lp')
  · rintro n' x σ' H' hx ⟨F', L', eF, s', hp', l', lp', pr⟩
    rw [List.getElem?_map] at hx
    cases ha : as[n']? with
    | none =>
      rw [ha] at hx
      cases hx
    | some a =>
      rw [ha] at hx
      cases hx
      have hnl : n' < dss.length := by
        rw [← rws_len w3]
        exact (List.getElem?_eq_some_iff.mp ha).1
      obtain ⟨a', ha', vs, hLa, dd⟩ := rws_get pr (prog_at (d := d) hnl)
      rw [ha] at ha'
      cases ha'
      have sJ := s'.forget (i := j) (y := some (.ref a))
      rw [List.set_set] at sJ
      have lJ : Loose k c F' H' (r.set j .u) (σ'.set j (some (.ref a))) L' := ⟨l'.h, l'.f, l'.g, fun b o e w => l'.w b o e (ownj2 σ' b _ w)⟩
      have hjs : (σ'.set j (some (.ref a)))[j]? = some (some (V.ref a)) := List.getElem?_set_self (by rw [← s'.len, List.length_set]; exact hjl)
      refine ⟨.ref a, hjs, .inl ⟨rfl, vs, SqL.of (lJ.h a _ hLa)⟩, _, F', r.set j .u, sJ.holdL lJ, ?_⟩
      intro F10 H10 e10 s10 y dy
      obtain ⟨s11, L11⟩ := sJ.unholdL lJ s10
      have hlen : dss[n'].length < sizeLine := by
        have := List.all_eq_true.mp hall dss[n'] (List.getElem_mem hnl)
        exact of_decide_eq_true this
      refine ⟨a, vs, y, rfl, rfl, L11.h a _ hLa, by rw [DpAll.len dd]; exact hlen, ?_⟩
      have s12 := s11.touch (o := .lst (vs ++ [y])) (L11.f a _ hLa) (L11.g a _ hLa) (L11.w a _ hLa)
      have L12 := L11.change (o := .lst (vs ++ [y])) hLa
      obtain ⟨n1, n2⟩ := List.nodup_cons.1 w2
      have pa : p ≠ a := fun z => n1 (z ▸ List.mem_of_getElem? ha)
      refine ⟨F10, _, eF.trans e10, s12, by rw [List.getElem?_set_ne (Ne.symm hij)]; exact hp', L12, by rw [upd_ne pa]; exact lp', ?_⟩
      rw [← prog_set hnl]
      refine rws_set pr ha n2 (fun b ds' hb ⟨vs', h1, h2⟩ => ⟨vs', ?_, DpAll.up e10 _ _ h2⟩) ⟨vs ++ [y], upd_same, DpAll.append (DpAll.up e10 _ _ dd) (DpAll.one dy)⟩
      rw [upd_ne hb]
      exact h1
  · rintro σ' H' ⟨F', L', eF, s', hp', l', lp', pr⟩
    rw [List.length_map, rws_len w3, prog_all] at pr
    exact ⟨c, F', r.set j .u, p, dss.map (· ++ [d]), ⟨s', uj, hp', hnp, L', l', as, lp', w2, pr⟩, SRun.up q eF⟩
end
end Dx

/-! a tuple of texts that a module keeps under a name -/
namespace Dx
open PySem PySem.Spec PyProof.Rows L2
def TupG (K : PySem.W.Frag) (mg : Str → Option Value) (x : Str) (ss : List Str) : Prop := ∃ a, mg x = some (.ref a) ∧ ∃ (o : Obj) (its : Array Value) (n : Nat), K.lookup a = some o ∧ o.cls = .type "tuple" ∧ o.data = .seq its n ∧ its.size ≤ sizeLine ∧ Vals (ss.map V.str) its.toList
theorem tupG_mk {K : PySem.W.Frag} {h : Heap} {mg : Str → Option Value} (X : K.In h) (G : h.Ns mainGlobals mg) {n : Str} {a : Addr} {od : Option Addr} {its : List Value} {m : Nat} {sl : Array (Option Value)} {ss : List Str} (e : PySem.W.nsIn K mainGlobals n = some (some (.ref a)))
    (l : K.lookup a = some ⟨.type "tuple", od, .seq its.toArray m, sl⟩) (hl : its.length ≤ sizeLine) (v : Vals (ss.map V.str) its) : TupG K mg n ss :=
  ⟨a, PySem.W.mg_of X G e, _, its.toArray, m, l, rfl, rfl, by simpa using hl, by simpa using v⟩
section
variable {X : Cx} {k : Kn} {W : WX} {pos : Pos} {x : Str}
theorem dpAll_strs {K : PySem.W.Frag} {F : Hp} : ∀ ss : List Str, DpAll K F (ss.map V.str) (ss.map PyData.str)
  | [] => .nil
  | s :: ss => .cons (Dp.str s) (dpAll_strs ss)
theorem dTupG {ss : List Str} (T : TupG k.K X.mg x ss) (hg : Gl X x) (hd : (x == ("__debug__" : Str)) = false := by decide) : PE X (.Name x pos) (rD k W (mpure (.tuple (ss.map .str)))) := by
  obtain ⟨a, hm, o, its, n, hk, hc, hdt, hz, hv⟩ := T
  exact de_c (pe_glob (v := .ref a) hg hm rfl hd) fun F => Dp.tup (.inr ⟨o, its, n, hk, hc, hdt, hz, hv⟩) (dpAll_strs ss)
end
end Dx

/-! xs.index(e) of whole numbers -/
namespace Dx
open PySem PySem.Spec PyProof.Rows L2
def idxI (e : Int) : List Int → Option Nat
  | [] => none
  | n :: ns => if n = e then some 0 else (idxI e ns).map (· + 1)
theorem idxI_spec {e : Int} : ∀ {ns : List Int} {j : Nat}, idxI e ns = some j → ns[j]? = some e ∧ ∀ (m : Nat) (z : Int), m < j → ns[m]? = some z → z ≠ e
  | [], _, h => by cases h
  | n :: ns, j, h => by
    unfold idxI at h
    split at h
    · rename_i q
      cases h
      exact ⟨by rw [q]; rfl, fun m z hm => absurd hm (Nat.not_lt_zero m)⟩
    · rename_i q
      obtain ⟨i, hi, rfl⟩ := Option.map_eq_some_iff.mp h
      obtain ⟨h1, h2⟩ := idxI_spec hi
      refine ⟨h1, fun m z hm hz => ?_⟩
      cases m with
      | zero =>
        cases hz
        exact q
      | succ m => exact h2 m z (Nat.lt_of_succ_lt_succ hm) hz
def fIdx : PyData → PyData → Option PyData
  | .list ds, .int e => (intsOf ds).bind fun ns => (idxI e ns).map fun j => .int (j : Nat)
  | _, _ => none
def mIdx (m n : M PyData) : M PyData := mbind m fun d => match d with
  | .list ds => mbind n fun e => mopt (fIdx (.list ds) e)
  | _ => mno
section
variable {X : Cx} {k : Kn} {W : WX} {o e : Expr} {apos cpos : Pos}
theorem dIdx {m n : M PyData} (ho : PE X o (rD k W m)) (he : PE X e (rD k W n)) (hs : starEach [e] X.env = (false, eval e X.env) :: starEach [] X.env := by rfl)
    (hbase : attributeBase o "index" X.env (eval o X.env) = eval o X.env := by rfl)
    (hfew : ((((backTo cpos (starEach [e] X.env)).all fun x => !x.1) && ((backToKw cpos (keywordEach [] X.env)).all fun x => x.1.isSome)) && decide (([e].length + ([] : List (Option Str × Expr)).length + if ([] : List (Option Str × Expr)).isEmpty = true then 0 else 1) < 30)) = true := by rfl)
    (hline : (apos.endLine == cpos.line) = true := by rfl) (hpl : (backTo cpos (starEach [] X.env)).any (·.1) = false := by rfl) (hK : X.K = k.K := by rfl) :
    PE X (.Call (.Attribute o "index" apos) [e] [] cpos) (rD k W (mIdx m n)) := by
  have b := pe_bm (apos := apos) (cpos := cpos) PySem.F.plainAttrs_list PySem.F.slot_list_index PySem.F.type_list_index mt_index ho (pa_cons he pa_nil hs) hbase hfew hline hs hpl
  refine pe_imp b fun σ H Q q => ?_
  obtain ⟨c, F, r, s, q⟩ := q
  refine ⟨c, F, r, s, (Run.bind q).imp fun d r1 F1 H1 e1 _ ⟨s1, _, q1⟩ x dx => ?_⟩
  rw [hK]
  cases d with
  | list ds =>
    obtain ⟨p, vs, rfl, p1, p2⟩ := dp_lst dx
    refine ⟨.inl ⟨rfl, vs, s1.fh.seq p1⟩, c, F1, r1, s1, (Run.bind q1).imp fun ed r2 F2 H2 e2 _ ⟨s2, _, q2⟩ y dy => ?_⟩
    obtain ⟨z, hz, kk⟩ := Run.opt q2
    cases ed with
    | int i =>
      have hz : ((intsOf ds).bind fun ns => (idxI i ns).map fun j => PyData.int (j : Nat)) = some z := hz
      cases w : intsOf ds with
      | none =>
        rw [w] at hz
        cases hz
      | some ns =>
        rw [w] at hz
        obtain ⟨j, hj, rfl⟩ := Option.map_eq_some_iff.mp hz
        obtain ⟨g1, g2⟩ := idxI_spec hj
        rw [intsOf_eq w] at p2
        have ev := ints_dp p2
        subst ev
        cases dp_int dy
        refine ⟨p, ns.map .int, .int i, j, .int i, rfl, rfl, s2.fh.seq (e2.seq p1), rfl, ?_, ?_, ?_, ?_, kk F2 H2 (Same.refl F2) s2 _ (Dp.int _)⟩
        · rw [List.all_map]
          exact List.all_eq_true.mpr fun _ _ => rfl
        · rw [List.getElem?_map, g1]
          rfl
        · exact beq_self_eq_true i
        · intro a z' ha hz'
          rw [List.getElem?_map] at hz'
          obtain ⟨b, hb, rfl⟩ := Option.map_eq_some_iff.mp hz'
          exact beq_eq_false_iff_ne.mpr (g2 a b ha hb)
    | _ => cases hz
  | _ => exact q1.elim
end
end Dx

/-! two lists of one's own at once -/
namespace Dx
open PySem PySem.Spec PyProof.Rows L2
section
variable {X : Cx} {k : Kn} {W : WX} {a b : Expr} {pos : Pos} {x : Str}
theorem sPar_oo {i j : Nat} {y : Str} {m n : M (List PyData)} {px py pt : Pos} {kt k2 pt2} (hc : X.calm = true) (hN : X.N.Nodup) (hi : X.N[i]? = some x) (hj : X.N[j]? = some y) (hij : i ≠ j) (hx : X.env.scope.names.lookup x = some .local) (hy : X.env.scope.names.lookup y = some .local)
    (ha : PE X a (rO k W m)) (hb : PE X b (rO k W n)) (hw : swappedStores [.Tuple [.Name x px, .Name y py] kt pt] (.Tuple [a, b] k2 pt2) X.env = pure (some [x, y]) := by rfl)
    (hs : swapsWithSole [.Tuple [.Name x px, .Name y py] kt pt] (.Tuple [a, b] k2 pt2) pos.line X.env = pure false := by rfl) (h1 : starEach [a, b] X.env = (false, eval a X.env) :: starEach [b] X.env := by rfl) (h2 : starEach [b] X.env = (false, eval b X.env) :: starEach [] X.env := by rfl) :
    PS X (.Assign [.Tuple [.Name x px, .Name y py] kt pt] (.Tuple [a, b] k2 pt2) pos) (rS k W (sParOO i j m n)) := ps_imp (ps_par hc hN hi hj hij hx hy (pa_cons ha (pa_cons hb pa_nil h2) h1) hw hs) fun D σ H q => by
  obtain ⟨c, F, r, s, q⟩ := q
  refine ⟨c, F, r, s, (SRun.bind q).imp fun ds r1 F1 H1 e1 _ ⟨s1, _, q1⟩ l vs f => ?_⟩
  refine ⟨_, F1, r1, s1.hold f, (Run.under s1 f (Same.refl F1) (SRun.bind q1)).imp fun e r2 F2 H2 e2 _ ⟨s2, f2, _, _, q2⟩ l2 vs2 g2 => ?_⟩
  refine ⟨_, _, rfl, ?_⟩
  have n12 : l2 ≠ l := fun w => by
    have z : upd c.G l (HO.lst vs) l2 = none := g2.2.1
    rw [w, upd_same] at z
    cases z
  have gG : c.G l2 = none := by
    have z : upd c.G l (HO.lst vs) l2 = none := g2.2.1
    rw [upd_ne n12] at z
    exact z
  by_cases hl : i ≠ j ∧ i < r2.length ∧ j < r2.length
  · rw [if_pos hl] at q2
    exact q2 F2 H2 _ (Same.refl F2) ((s2.putO hl.2.1 f2).putO (by rw [List.length_set]; exact hl.2.2) (fresh_putO (us := []) ⟨g2.1, gG, g2.2.2⟩ (Ne.symm n12)))
  · rw [if_neg hl] at q2
    exact q2.elim
theorem sParC_oo {i j : Nat} {y : Str} {m n : M (List PyData)} {px py pt : Pos} {kt k2 pt2} (hc : X.calm = true) (hN : X.N.Nodup) (hi : X.N[i]? = some x) (hj : X.N[j]? = some y) (hij : i ≠ j) (hx : Loc X.env.scope x) (hy : Loc X.env.scope y)
    (ha : PE X a (rO k W m)) (hb : PE X b (rO k W n)) (hK : X.K = k.K := by rfl) (hw : swappedStores [.Tuple [.Name x px, .Name y py] kt pt] (.Tuple [a, b] k2 pt2) X.env = pure none := by rfl)
    (hs : swapsWithSole [.Tuple [.Name x px, .Name y py] kt pt] (.Tuple [a, b] k2 pt2) pos.line X.env = pure false := by rfl) (h0 : (assignEach [Expr.Tuple [.Name x px, .Name y py] kt pt] X.env).map (·.2) = [assign (.Tuple [.Name x px, .Name y py] kt pt) X.env] := by rfl)
    (h1 : starEach [a, b] X.env = (false, eval a X.env) :: starEach [b] X.env := by rfl) (h2 : starEach [b] X.env = (false, eval b X.env) :: starEach [] X.env := by rfl)
    (hn : (assignEach [Expr.Name x px, .Name y py] X.env).length = 2 := by rfl) (hst : (assignEach [Expr.Name x px, .Name y py] X.env).findIdx? (·.1) = none := by rfl)
    (hfx : X.fn x = true ∨ X.env.scope.names.lookup x = some .local := by first | exact .inl rfl | exact .inr rfl | assumption) (hfy : X.fn y = true ∨ X.env.scope.names.lookup y = some .local := by first | exact .inl rfl | exact .inr rfl | assumption)
    (g1 : (assignEach [Expr.Name x px, .Name y py] X.env).map (·.2) = assign (.Name x px) X.env :: (assignEach [Expr.Name y py] X.env).map (·.2) := by rfl) (g2 : (assignEach [Expr.Name y py] X.env).map (·.2) = assign (.Name y py) X.env :: (assignEach [] X.env).map (·.2) := by rfl) :
    PS X (.Assign [.Tuple [.Name x px, .Name y py] kt pt] (.Tuple [a, b] k2 pt2) pos) (rS k W (sParOO i j m n)) :=
  ps_imp (ps_asg (pe_tup (pa_cons ha (pa_cons hb pa_nil h2) h1)) (pg_tup hc (pgs_cons (pg_name hN hi hx hfx) (pgs_cons (pg_name hN hj hy hfy) pgs_nil g2) g1) hn hst) hs hw h0) fun D σ H q => by
  obtain ⟨c, F, r, s, q⟩ := q
  refine ⟨c, F, r, s, (SRun.bind q).imp fun ds r1 F1 H1 e1 _ ⟨s1, _, q1⟩ l vs f => ?_⟩
  refine ⟨_, F1, r1, s1.hold f, (Run.under s1 f (Same.refl F1) (SRun.bind q1)).imp fun e r2 F2 H2 e2 _ ⟨s2, f2, _, _, q2⟩ l2 vs2 g2 => ?_⟩
  have n12 : l2 ≠ l := fun w => by
    have z : upd c.G l (HO.lst vs) l2 = none := g2.2.1
    rw [w, upd_same] at z
    cases z
  have gG : c.G l2 = none := by
    have z : upd c.G l (HO.lst vs) l2 = none := g2.2.1
    rw [upd_ne n12] at z
    exact z
  refine ⟨by show 2 ≤ sizeLine; decide, fun T hT => ⟨T, [.ref l, .ref l2], rfl, SqT.of upd_same, rfl, .ref l, [.ref l2], rfl, .ref l2, [], rfl, rfl, ?_⟩⟩
  have nl : l ≠ T := fun z => by
    have h3 := f2.2.2.1
    rw [z, hT] at h3
    cases h3
  have nl2 : l2 ≠ T := fun z => by
    have h3 := g2.2.2.1
    rw [z, hT] at h3
    cases h3
  have f3 : Fresh k c F2 (upd H2 T (.tup [.ref l, .ref l2])) r2 σ l vs ds := ⟨f2.1, f2.2.1, by rw [upd_ne nl]; exact f2.2.2.1, f2.2.2.2.1, f2.2.2.2.2⟩
  by_cases hl : i ≠ j ∧ i < r2.length ∧ j < r2.length
  · rw [if_pos hl] at q2
    exact q2 F2 _ _ (Same.refl F2) (((s2.fresh hT).putO hl.2.1 f3).putO (by rw [List.length_set]; exact hl.2.2) (fresh_putO (us := []) ⟨g2.1, gG, by rw [upd_ne nl2]; exact g2.2.2.1, g2.2.2.2⟩ (Ne.symm n12)))
  · rw [if_neg hl] at q2
    exact q2.elim
end
end Dx

/-! a def whose answer is a new list of new lists -/
namespace Dx
open PySem PySem.Spec PyProof.Rows L2
abbrev Rowz := List (List PyData)
/-- a list of lists just made: all are nobody's -/
def FreshN (k : Kn) (c : Cn) (F H : Hp) (r : Ev) (σ : List (Option V)) (p : Addr) (dss : Rowz) : Prop := ∃ L, Loose k c F H r σ L ∧ Rws k F L p dss
def rNN (k : Kn) (W : WX) (m : M Rowz) : TE := fun σ H Q => ∃ c F r, Sta k c F H r σ ∧ Run k c W σ F (m r) fun t r' F' H' => ∀ p, FreshN k c F' H' r' σ p t → Q (.ref p) H'
section
variable {X : Cx} {k : Kn} {W : WX} {st : Stmt} {sts : List Stmt} {pos p : Pos}
def SRunN (k : Kn) (c : Cn) (W : WX) (F : Hp) (q : SR) (mt : M Rowz) (D : Ends) : Prop := match q with
  | .nx r => ∀ F' H' σ, Same F F' → Sta k c F' H' r σ → Run k c W σ F' (mt r) fun t r' F2 H2 => ∀ p, FreshN k c F2 H2 r' σ p t → D.rt (.ref p) H2
  | .ex x r => ∀ F' H' σ cls dd, Same F F' → Sta k c F' H' r σ → ExRep k F' H' x cls dd → W cls dd σ H'
  | _ => False
theorem SRunN.up {c : Cn} {F F' : Hp} {q : SR} {mt : M Rowz} {D : Ends} (h : SRunN k c W F q mt D) (e : Same F F') : SRunN k c W F' q mt D := by
  cases q with
  | nx r => exact fun F2 H2 σ e2 s => h F2 H2 σ (e.trans e2) s
  | ex x r => exact fun F2 H2 σ cls dd e2 s => h F2 H2 σ cls dd (e.trans e2) s
  | rt d r => exact h
  | ro d r => exact h
  | bk r => exact h
  | ct r => exact h
  | no => exact h
def rTN (k : Kn) (W : WX) (m : S) (mt : M Rowz) : TS := fun D σ H => ∃ c F r, Sta k c F H r σ ∧ SRunN k c W F (m r) mt D
theorem nCons {m n : S} {mt : M Rowz} (h1 : PS X st (rS k W m)) (h2 : PSs X sts (rTN k W n mt)) : PSs X (st :: sts) (rTN k W (sSeq m n) mt) := pss_imp (pss_cons h1 h2) fun D σ H q => by
  obtain ⟨c, F, r, s, q⟩ := q
  refine ⟨c, F, r, s, ?_⟩
  have q2 : SRunN k c W F (match m r with
    | .nx r1 => n r1
    | q => q) mt D := q
  revert q2
  cases m r with
  | nx r1 => exact fun q2 F1 H1 σ1 e1 s1 => ⟨c, F1, r1, s1, SRunN.up q2 e1⟩
  | rt d r1 => exact fun q2 => q2.elim
  | ro d r1 => exact fun q2 => q2.elim
  | bk r1 => exact fun q2 => q2.elim
  | ct r1 => exact fun q2 => q2.elim
  | ex x r1 => exact fun q2 => q2
  | no => exact fun q2 => q2.elim
def mCompN (own : List Nat) (mi : M (List PyData)) (g : G1) (m : M (List PyData)) : M Rowz := fun r => match compR own mi g m r with
  | some (dss, r1) => .ok dss r1
  | none => .no
theorem nRet {own : List (Str × Nat)} {elt it tg : Expr} {scope : Scope} {mi : M (List PyData)} {g : G1} {js : List Nat} {m : M (List PyData)} {spos : Pos} (hc : X.calm = true) (hN : X.N.Nodup)
    (hi : PI X tg it (rI k W mi)) (ok : BlkOk X.N X.env.scope scope own)
    (hg : ∀ (s : Shared) (H : Hp) (C : Addr) (cl : List (Str × Addr)) (fp : List Addr), PG (X.blk s H scope (compEnvC scope cl C X.env) fp) tg (rG k js g))
    (he : ∀ (s : Shared) (H : Hp) (C : Addr) (cl : List (Str × Addr)) (fp : List Addr), PE (X.blk s H scope (compEnvC scope cl C X.env) fp) elt (rO k W0 m)) (hj : ∀ j ∈ js, j ∈ own.map (·.2) := by decide) (hs : ∀ x, foldedSetIterable it X.env x = pure x := by intro _; rfl) :
    PSs X [.Return (some (.ListComp elt [⟨tg, it, [], 0⟩] scope pos)) spos] (rTN k W .nx (mCompN (own.map (·.2)) mi g m)) :=
  pss_imp (pss_one (ps_ret (pe_lc (tt := rT k W0 (mpure true)) hc hN hi ok hg (fun _ _ _ _ _ => tsNil) he hs))) fun D σ H q => by
  obtain ⟨c, F, r, s, q⟩ := q
  have q0 := q F H σ (Same.refl F) s
  refine dt_compR hj σ H _ ⟨c, F, r, s, ?_⟩
  have q1 : Run k c W σ F (match compR (own.map (·.2)) mi g m r with
    | some (dss, r1) => .ok dss r1
    | none => .no) (fun t r' F2 H2 => ∀ p, FreshN k c F2 H2 r' σ p t → D.rt (.ref p) H2) := q0
  revert q1
  cases compR (own.map (·.2)) mi g m r with
  | none => exact fun q1 => q1.elim
  | some z =>
    obtain ⟨dss, r1⟩ := z
    exact fun q1 => ⟨(dss, r1), rfl, fun F' H' p L e s1 l w => q1 F' H' e s1 p ⟨L, l, w⟩⟩
end
def outN (cs : List Cell) (q : R Rowz) : R Rowz := match q with
  | .ok t r => match outC cs r with
    | some l => .ok t l
    | none => .no
  | .ex x r => match outC cs r with
    | some l => .ex x l
    | none => .no
  | .no => .no
def bodyN (m : S) (mt : M Rowz) (r : Ev) : R Rowz := match m r with
  | .nx r1 => mt r1
  | .ex x r1 => .ex x r1
  | _ => .no
def runN (n : Nat) (m : S) (mt : M Rowz) (cs : List Cell) : R Rowz := outN cs (bodyN m mt (cs ++ List.replicate n .u))
def FRunN (k : Kn) (c : Cn) (F : Hp) (vs : List V) (q : R Rowz) (Q : VK) (E : XK) : Prop := match q with
  | .ok t cs => ∀ F' H' p, Same F F' → Sta k c F' H' cs (svs vs) → FreshN k c F' H' cs (svs vs) p t → Q (.ref p) H'
  | .ex x cs => ∀ F' H' cls dd, Same F F' → Sta k c F' H' cs (svs vs) → ExRep k F' H' x cls dd → E cls dd H'
  | .no => False
def spN (k : Kn) (n : Nat) (f : List Cell → R Rowz) : Sp := fun vs H Q E => ∃ F cs, vs.length = n ∧ Sta k (cOf F H cs vs) F H cs (svs vs) ∧ FRunN k (cOf F H cs vs) F vs (f cs) Q E
section
variable {k : Kn} {c : Cn} {F H F' H' : Hp} {cs l : List Cell} {r : Ev} {σ : List (Option V)} {vs : List V}
theorem FreshN.out {p : Addr} {t : Rowz} (f : FreshN k (cOf F H cs vs) F' H' r σ p t)
    (ho : ∀ (i : Nat) (x : Cell) (y : Option V), l[i]? = some x → (svs vs)[i]? = some y → ∀ b, Own x y b → ∃ z y', r[i]? = some z ∧ σ[i]? = some y' ∧ Own z y' b) : FreshN k (cOf F H cs vs) F' H' l (svs vs) p t := by
  obtain ⟨L, f1, f2⟩ := f
  exact ⟨L, ⟨f1.h, f1.f, f1.g, fun b o e ⟨i, x, y, e1, e2, w⟩ => by
    obtain ⟨z, y', h1, h2, h3⟩ := ho i x y e1 e2 b w
    exact f1.w b o e ⟨i, z, y', h1, h2, h3⟩⟩, f2⟩
end
section
variable {P : Program} {w : World} {mg : Str → Option Value} {base : Heap} {f : Addr} {fd : FuncData} {ps N : List Str} {lv n : Nat} {x qual : Str} {st : Stmt} {k : Kn} {body : S} {mt : M Rowz}
theorem okFN (D : Fun k.K x qual st f fd) (S : FnScope N ps (defScope st)) (hn : N.length = ps.length + n)
    (hb : ∀ (cdv : Value) (A : Around) (outer : List Env) (s : Shared) (H : Hp) (E : XK), Room lv (A.deeper (envOfC qual (defScope st) s.heap.objs.size f cdv)) → A.guards = some [] →
      PSs (cxOf (L2.CX P w) P w k.K mg base N qual (defScope st) f cdv A outer s H E) (defBody st) (rTN k (fun cls d _ H => E cls d H) body mt)) :
    FnG P w k.K mg base (lv + 1) f fd ps (spN k ps.length (runN n body mt)) := by
  refine fnG_of D S (fun vs H Q E h => ?_) fun cdv A outer s H vs Q E hr hgd h => ⟨_, hb cdv A outer s H E hr hgd, ?_⟩
  · obtain ⟨F, cs, hl, _⟩ := h
    exact hl
  · obtain ⟨F, cs, hl, s0, q⟩ := h
    have hlc : vs.length = cs.length := by
      have := s0.len
      rw [List.length_map] at this
      exact this.symm
    have hst : L2.start N vs = svs vs ++ List.replicate n none := by
      unfold L2.start
      rw [hn, hl, Nat.add_sub_cancel_left]
    rw [hst]
    refine ⟨_, F, _, s0.pad n, ?_⟩
    unfold runN bodyN at q
    revert q
    cases body (cs ++ List.replicate n .u) with
    | nx r =>
      intro q F' H' σ e s'
      have q1 : FRunN k (cOf F H cs vs) F vs (outN cs (mt r)) Q E := q
      revert q1
      cases mt r with
      | ok t r' =>
        intro q1 F2 H2 e2 s2 T ft
        have q2 : FRunN k (cOf F H cs vs) F vs (match outC cs r' with
          | some l => .ok t l
          | none => .no) Q E := q1
        cases ho : outC cs r' with
        | none =>
          rw [ho] at q2
          exact q2.elim
        | some l' =>
          rw [ho] at q2
          exact q2 F2 H2 T (e.trans e2) (s2.out hlc s0 ho).1 (ft.out (s2.out hlc s0 ho).2)
      | ex z r' =>
        intro q1 F2 H2 cls dd e2 s2 xr
        have q2 : FRunN k (cOf F H cs vs) F vs (match outC cs r' with
          | some l => .ex z l
          | none => .no) Q E := q1
        cases ho : outC cs r' with
        | none =>
          rw [ho] at q2
          exact q2.elim
        | some l' =>
          rw [ho] at q2
          exact q2 F2 H2 cls dd (e.trans e2) (s2.out hlc s0 ho).1 xr
      | no => exact fun q1 => q1.elim
    | ex z r =>
      intro q F' H' σ cls dd e s' xr
      cases ho : outC cs r with
      | none =>
        have q2 : FRunN k (cOf F H cs vs) F vs (match outC cs r with
          | some l => .ex z l
          | none => .no) Q E := q
        rw [ho] at q2
        exact q2.elim
      | some l =>
        have q2 : FRunN k (cOf F H cs vs) F vs (match outC cs r with
          | some l => .ex z l
          | none => .no) Q E := q
        rw [ho] at q2
        exact q2 F' H' cls dd e (s'.out hlc s0 ho).1 xr
    | rt d r => exact fun q => q.elim
    | ro d r => exact fun q => q.elim
    | bk r => exact fun q => q.elim
    | ct r => exact fun q => q.elim
    | no => exact fun q => q.elim
end
section
variable {k : Kn} {c : Cn} {W : WX}
/-- the call, of data alone -/
def callN (n : Nat) (f : List Cell → R Rowz) (as : List Arg) : M Rowz := fun r => match argC r as 0 with
  | none => .no
  | some cs => if as.length = n ∧ slotsOf as = [] then (match f cs with
      | .ok t l => putR r as l fun r' => .ok t r'
      | .ex x l => putR r as l fun r' => .ex x r'
      | .no => .no) else .no
theorem callN_sp {n : Nat} {f : List Cell → R Rowz} {F H : Hp} {r : Ev} {σ : List (Option V)} {as : List Arg} {ys : List V} {Q : VK} (s : Sta k c F H r σ) (ha : ArgsOk k F σ ys as)
    (q : Run k c W σ F (callN n f as r) fun t r' F' H' => ∀ T, FreshN k c F' H' r' σ T t → Q (.ref T) H') : spN k n f ys H Q (WE W σ) := by
  unfold callN at q
  cases hc : argC r as 0 with
  | none =>
    rw [hc] at q
    exact q.elim
  | some cs =>
    rw [hc] at q
    have q1 : Run k c W σ F (if as.length = n ∧ slotsOf as = [] then (match f cs with
      | .ok t l => putR r as l fun r' => .ok t r'
      | .ex x l => putR r as l fun r' => .ex x r'
      | .no => .no) else .no) (fun t r' F' H' => ∀ T, FreshN k c F' H' r' σ T t → Q (.ref T) H') := q
    by_cases hn : as.length = n ∧ slotsOf as = []
    · rw [if_pos hn] at q1
      have nd : (slotsOf as).Nodup := by
        rw [hn.2]
        exact List.nodup_nil
      have nown : ∀ b, ¬ OwnAt cs ys b := fun b h => by
        obtain ⟨m, i, x, h1, _⟩ := ownAt_iff s ha hc h
        have := mem_slots h1
        rw [hn.2] at this
        cases this
      have hG : ∀ b z, H b = some z → (cOf F H cs ys).G b = some z := fun b z h => (cOf_not (nown b)).trans h
      refine ⟨F, cs, (args_len ha).trans hn.1, call_in s ha hc nd, ?_⟩
      revert q1
      cases f cs with
      | ok t l =>
        intro q1 F' H' T e s' ft
        have q2 : Run k c W σ F (putR r as l fun r' => .ok t r') (fun t r' F' H' => ∀ T, FreshN k c F' H' r' σ T t → Q (.ref T) H') := q1
        unfold putR at q2
        cases hp : putC r as l with
        | none =>
          rw [hp] at q2
          exact q2.elim
        | some r' =>
          rw [hp] at q2
          obtain ⟨s2, fo⟩ := call_out s ha hc nd e s' hp
          obtain ⟨_, p2, _⟩ := putC_at nd hp
          obtain ⟨L, l1, w1⟩ := ft
          refine q2 F' H' e s2 T ⟨L, ⟨l1.h, l1.f, fun b o eb => ?_, fun b o eb ⟨i, x, y, e1, e2, w⟩ => ?_⟩, w1⟩
          · cases q : c.G b with
            | none => rfl
            | some o2 =>
              have z := l1.g b o eb
              rw [hG b o2 (s.gh b o2 q)] at z
              cases z
          · rw [p2 i (by rw [hn.2]; exact List.not_mem_nil)] at e1
            obtain ⟨_, _, us0, g3⟩ := (s.cell i x y e1 e2).own w
            have z := l1.g b o eb
            rw [hG b _ g3] at z
            cases z
      | ex x l =>
        intro q1 F' H' cls dd e s' xr
        have q2 : Run k c W σ F (putR r as l fun r' => .ex x r') (fun t r' F' H' => ∀ T, FreshN k c F' H' r' σ T t → Q (.ref T) H') := q1
        unfold putR at q2
        cases hp : putC r as l with
        | none =>
          rw [hp] at q2
          exact q2.elim
        | some r' =>
          rw [hp] at q2
          exact q2 F' H' cls dd e (call_out s ha hc nd e s' hp).1 xr
      | no => exact fun q1 => q1.elim
    · rw [if_neg hn] at q1
      exact q1.elim
end
end Dx

/-! told = [f(..), f(..)] of lists of new lists: shown, the lists of the first lengthened, the second lengthened, then forgotten -/
namespace Dx
open PySem PySem.Spec PyProof.Rows L2
structure DefN (P : Program) (w : World) (K : PySem.W.Frag) (mg : Str → Option Value) (base : Heap) (k : Kn) (x : Str) (st : Stmt) (ps : List Str) (lv : Nat) (f : List Cell → R Rowz) : Prop where
  ex : ∃ (fa : Addr) (fd : FuncData), mg x = some (.ref fa) ∧ Fun K x x st fa fd ∧ FnG P w K mg base lv fa fd ps (spN k ps.length f)
  bnd : ∀ (kV doc pm : Value) (an : Option Addr) (cdv ct : Value) (us : List Value), us.length = ps.length → bindArgs (PySem.W.fnOf x x (defArgs st) (defBody st) (defScope st) .none kV doc pm an cdv ct) ⟨us, []⟩ = pure (ps.zip us)
def mCallN (n : Nat) (f : List Cell → R Rowz) (m : M (List Arg)) : M Rowz := mbind m (callN n f)
def mCallNK (n j : Nat) (is : List Nat) (f : List Cell → R Rowz) (m : M (List Arg)) (mk : M (List PyData)) (l : Nat) : M Rowz := mbind m fun as => mbind mk fun ds => if as.length = j ∧ ds.length = l then callN n f (pick is as (ds.map Arg.d)) else fun _ => .no
section
variable {X : Cx} {k : Kn} {W : WX} {e : Expr} {pos p : Pos} {es : List Expr} {x : Str} {kws : List Keyword} {st : Stmt} {ps : List Str} {lv : Nat} {f : List Cell → R Rowz}
theorem nCall {m : M (List Arg)} (D : DefN X.prog X.w X.K X.mg X.base k x st ps lv f) (hr : Room lv X.A) (hgd : X.A.guards = some []) (hg : Gl X x) (tk : Takes X W) (ha : PA X (e :: es) (rA k W m)) (hdb : (x == ("__debug__" : Str)) = false := by decide)
    (he : starEach (e :: es) X.env = (false, eval e X.env) :: starEach es X.env := by rfl) (hpl : (backTo pos (starEach es X.env)).any (·.1) = false := by rfl) : PE X (.Call (.Name x p) (e :: es) [] pos) (rNN k W (mCallN ps.length f m)) := by
  obtain ⟨fa, fd, hm, fu, F⟩ := D.ex
  have hk := fu.kp
  have hb := fu.binds D.bnd
  refine pe_imp (pe_g (E := WE W) F hr hgd hg hm hk hb (passAt tk) ha hdb he hpl) fun σ H Q q => ?_
  obtain ⟨c, F, r, s, q⟩ := q
  exact ⟨c, F, r, s, (Run.bind q).imp fun as r1 F1 H1 e1 _ ⟨s1, _, q1⟩ ys dy => callN_sp s1 dy q1⟩
theorem nCallK0 {mk : M (List PyData)} {ks : List Str} {is : List Nat} (D : DefN X.prog X.w X.K X.mg X.base k x st ps lv f)
    (h : ∀ (kV doc pm : Value) (an : Option Addr) (cdv ct : Value) (us ws : List Value), us.length = 0 → ws.length = ks.length → bindArgs (PySem.W.fnOf x x (defArgs st) (defBody st) (defScope st) .none kV doc pm an cdv ct) ⟨us, ks.zip ws⟩ = pure (ps.zip (pick is us ws)))
    (hr : Room lv X.A) (hgd : X.A.guards = some []) (hg : Gl X x) (tk : Takes X W) (hkw : PK X kws (rL k W mk)) (hall : (backToKw pos (keywordEach kws X.env)).all (·.1.isSome) = true := by rfl) (hks : (backToKw pos (keywordEach kws X.env)).filterMap (·.1) = ks := by rfl)
    (hdb : (x == ("__debug__" : Str)) = false := by decide) (hpl : ((backTo pos (starEach [] X.env)).any (·.1) || (backToKw pos (keywordEach kws X.env)).any (·.1.isNone)) = false := by rfl) : PE X (.Call (.Name x p) [] kws pos) (rNN k W (mCallNK ps.length 0 is f (mpure []) mk ks.length)) := by
  obtain ⟨fa, fd, hm, fu, F⟩ := D.ex
  refine pe_imp (pe_gk0 (E := WE W) F hr hgd hg hm fu.kp (kwb_of fu h) (passAt tk) hkw hall hks hdb hpl) fun σ H Q q => ?_
  obtain ⟨c, F, r, s, q⟩ := q
  have q0 := (Run.bind q) F H (Same.refl F) s
  obtain ⟨s1, _, q1⟩ := q0
  refine ⟨c, F, r, s1, (Run.bind q1).imp fun ds r2 F2 H2 e2 _ ⟨s2, _, q2⟩ zs dz => ?_⟩
  by_cases hl : ([] : List Arg).length = 0 ∧ ds.length = ks.length
  · rw [if_pos hl] at q2
    exact ⟨rfl, (DpAll.len dz).trans hl.2, callN_sp s2 (pick_rel .nil (args_data dz) is) q2⟩
  · rw [if_neg hl] at q2
    exact q2.elim
end
structure StaN (k : Kn) (c : Cn) (F H : Hp) (r : Ev) (σ : List (Option V)) (i : Nat) (as bs : Rowz) : Prop where
  s : Sta k c F H r σ
  u : r[i]? = some .u
  np : noPin r = true
  ex : ∃ (L : Hp) (p p1 p2 : Addr) (xs : List Addr), Loose k c F H r σ L ∧ σ[i]? = some (some (.ref p)) ∧ L p = some (.lst [.ref p1, .ref p2]) ∧ Rws k F L p1 as ∧ Rws k F L p2 bs ∧ L p1 = some (.lst (xs.map V.ref)) ∧ p ∉ xs ∧ p2 ∉ xs
abbrev NS := Rowz → Rowz → S
def rN (k : Kn) (W : WX) (i : Nat) (m : NS) : TS := fun D σ H => ∃ c F r as bs, StaN k c F H r σ i as bs ∧ SRun k c W F (m as bs r) D
theorem Loose.join {k : Kn} {c : Cn} {F1 F2 H : Hp} {A : List (Option Addr)} {r : Ev} {σ : List (Option V)} {L1 L2 : Hp} (l1 : Loose k c F2 H r σ L1) (l2 : Loose k ⟨withG c.G L1, F1, A⟩ F2 H r σ L2) : Loose k c F2 H r σ (withG L1 L2) := by
  have key : ∀ b o, withG L1 L2 b = some o → L2 b = some o ∨ L1 b = some o := fun b o e => by
    unfold withG at e
    cases q : L2 b with
    | none =>
      rw [q] at e
      exact .inr e
    | some z =>
      rw [q] at e
      exact .inl e
  refine ⟨fun b o e => ?_, fun b o e => ?_, fun b o e => ?_, fun b o e => ?_⟩
  · rcases key b o e with w | w
    · exact l2.h b o w
    · exact l1.h b o w
  · rcases key b o e with w | w
    · exact l2.f b o w
    · exact l1.f b o w
  · rcases key b o e with w | w
    · exact (withG_none (l2.g b o w)).1
    · exact l1.g b o w
  · rcases key b o e with w | w
    · exact l2.w b o w
    · exact l1.w b o w
theorem Rws.mono {k : Kn} {F L L' : Hp} {p : Addr} {dss : Rowz} (w : Rws k F L p dss) (h : ∀ b o, L b = some o → L' b = some o) : Rws k F L' p dss := by
  obtain ⟨as, h1, h2, h3⟩ := w
  refine ⟨as, h _ _ h1, h2, ?_⟩
  clear h1 h2
  induction h3 with
  | nil => exact .nil
  | cons a b ih =>
    obtain ⟨vs, l, d⟩ := a
    exact .cons ⟨vs, h _ _ l, d⟩ ih
theorem rws_dom {k : Kn} {F L : Hp} : ∀ {as : List Addr} {dss : Rowz}, Paired (fun a ds => ∃ vs, L a = some (.lst vs) ∧ DpAll k.K F vs ds) as dss → ∀ a ∈ as, L a ≠ none
  | _, _, .nil, _, h => by cases h
  | _, _, .cons ⟨vs, q, _⟩ t, a, h => by
    rcases List.mem_cons.mp h with e | e
    · rw [e, q]
      simp
    · exact rws_dom t a e
section
variable {X : Cx} {k : Kn} {W : WX} {i : Nat} {eA eB : Expr} {sts : List Stmt} {p1 p2 p3 : Pos}
def newN (i : Nat) (mA mB : M Rowz) (n : NS) : S := sBind mA fun as => sBind mB fun bs => fun r => if i < r.length ∧ noPin (r.set i .u) = true then n as bs (r.set i .u) else .no
theorem nNew {x : Str} {mA mB : M Rowz} {n : NS} (hN : X.N.Nodup) (hi : X.N[i]? = some x) (hx : Loc X.env.scope x) (hA : PE X eA (rNN k W mA)) (hB : PE X eB (rNN k W mB)) (h : PSs X sts (rN k W i n))
    (nA : starEach [eA, eB] X.env = (false, eval eA X.env) :: starEach [eB] X.env := by rfl) (nB : starEach [eB] X.env = (false, eval eB X.env) :: starEach [] X.env := by rfl)
    (hs1 : swapsWith (.List [eA, eB] p2) (some (.Name x p1)) p3.line X.env = pure false := by rfl) (hf : X.fn x = true ∨ X.env.scope.names.lookup x = some .local := by first | exact .inl rfl | exact .inr rfl | assumption) :
    PSs X (.Assign [.Name x p1] (.List [eA, eB] p2) p3 :: sts) (rS k W (newN i mA mB n)) := by
  refine pss_imp (pss_cons (ps_set hN hi hx (pe_lst (pa_cons hA (pa_cons hB pa_nil nB) nA)) hs1 hf) h) fun D σ H q => ?_
  obtain ⟨c, F, r, s, q⟩ := q
  refine ⟨c, F, r, s, (SRun.bind q).imp fun as r1 F1 H1 e1 _ ⟨s1, _, q1⟩ a1 f1 => ?_⟩
  obtain ⟨L1, l1, w1⟩ := f1
  refine ⟨_, F1, r1, s1.holdL l1, (Run.underL s1 l1 (SRun.bind q1)).imp fun bs r2 F2 H2 e2 sh ⟨s2, l1', _, _, q2⟩ a2 f2 => ?_⟩
  obtain ⟨L2, l2, w2⟩ := f2
  refine ⟨by show 2 ≤ sizeLine; decide, fun p np => ?_⟩
  by_cases hc : i < r2.length ∧ noPin (r2.set i .u) = true
  case neg =>
    rw [if_neg hc] at q2
    exact q2.elim
  rw [if_pos hc] at q2
  obtain ⟨hl, hnp⟩ := hc
  have l3 := l1'.join l2
  have m1 : ∀ b o, L1 b = some o → withG L1 L2 b = some o := fun b o e => by
    have z : L2 b = none := by
      cases q : L2 b with
      | none => rfl
      | some z =>
        have := (withG_none (l2.g b z q)).2
        rw [e] at this
        cases this
    rw [withG_out z]
    exact e
  have m2 : ∀ b o, L2 b = some o → withG L1 L2 b = some o := fun b o e => withG_in e
  have lp0 : withG L1 L2 p = none := l3.free np
  have own2 : ∀ b, Owned (r2.set i .u) (σ.set i (some (.ref p))) b → Owned r2 σ b := fun b ⟨j, x, y, o1, o2, w⟩ => by
    by_cases z : i = j
    · subst z
      rw [List.getElem?_set_self hl] at o1
      cases o1
      exact w.elim
    · rw [List.getElem?_set_ne z] at o1 o2
      exact ⟨j, x, y, o1, o2, w⟩
  have sF := (s2.fresh (o := .lst [.ref a1, .ref a2]) np).forget (i := i) (y := some (.ref p))
  have hy : (σ.set i (some (.ref p)))[i]? = some (some (V.ref p)) := List.getElem?_set_self (by rw [← s2.len]; exact hl)
  have l4 := (l3.fresh (o := .lst [.ref a1, .ref a2]) np).add (b := p) (o := .lst [.ref a1, .ref a2]) upd_same (s2.nF np) (s2.nG np) fun ⟨j, x, y, o1, o2, w⟩ => by
    obtain ⟨_, _, us, z⟩ := (s2.cell j x y o1 o2).own w
    rw [np] at z
    cases z
  have l5 : Loose k c F2 (upd H2 p (.lst [.ref a1, .ref a2])) (r2.set i .u) (σ.set i (some (.ref p))) (upd (withG L1 L2) p (.lst [.ref a1, .ref a2])) := ⟨l4.h, l4.f, l4.g, fun b o e w => l4.w b o e (own2 b w)⟩
  have m3 : ∀ b o, withG L1 L2 b = some o → upd (withG L1 L2) p (.lst [.ref a1, .ref a2]) b = some o := fun b o e => more e lp0
  have W1 := (w1.up e2).mono fun b o e => m3 b o (m1 b o e)
  have W2 := w2.mono fun b o e => m3 b o (m2 b o e)
  obtain ⟨xs, x1, x2, x3⟩ := w1
  obtain ⟨ys, y1, y2, y3⟩ := w2
  refine ⟨c, F2, r2.set i .u, as, bs, ⟨sF, List.getElem?_set_self hl, hnp, _, p, a1, a2, xs, l5, hy, upd_same, W1, W2, m3 _ _ (m1 _ _ x1), fun m => ?_, fun m => ?_⟩, q2⟩
  · have z := rws_dom x3 p m
    cases q : L1 p with
    | none => exact z q
    | some o =>
      have := m1 p o q
      rw [lp0] at this
      cases this
  · have z := rws_dom x3 a2 m
    have := (withG_none (l2.g a2 _ y1)).2
    exact z this
open Classical in
noncomputable def testN (i : Nat) (t : M Bool) (n : NS) : NS := fun as bs r => if flatR r = true ∧ t (r.set i (.v (.list [.list (as.map .list), .list (bs.map .list)]))) = .ok false (r.set i (.v (.list [.list (as.map .list), .list (bs.map .list)]))) then n as bs r else .no
theorem nTest {t : M Bool} {m : S} {n : NS} {cnd : Expr} {as sts : List Stmt} {pos : Pos} (ht : PT X cnd (rT k W t)) (hm : PSs X as (rS k W m)) (h : PSs X sts (rN k W i n)) : PSs X (.If cnd as [] pos :: sts) (rN k W i (testN i t n)) := pss_imp (pss_cons (ps_if ht hm pss_nil) h) fun D σ H q => by
  obtain ⟨c, F, r, as, bs, ⟨s, u, np, L, p, a1, a2, xs, l, hp, lp, w1, w2, x1, x2, x3⟩, q⟩ := q
  unfold testN at q
  by_cases hc : flatR r = true ∧ t (r.set i (.v (.list [.list (as.map .list), .list (bs.map .list)]))) = .ok false (r.set i (.v (.list [.list (as.map .list), .list (bs.map .list)])))
  case neg =>
    rw [if_neg hc] at q
    exact q.elim
  rw [if_pos hc] at q
  obtain ⟨hfl, hte⟩ := hc
  have hl : i < r.length := (List.getElem?_eq_some_iff.mp u).1
  have dv : Dp k.K (withG F L) (.ref p) (.list [.list (as.map .list), .list (bs.map .list)]) := Dp.lst (SqL.of (withG_in lp)) (DpAll.cons (Rws.data l w1) (DpAll.one (Rws.data l w2)))
  have s4 := (s.adoptL l).put hl dv
  rw [set_same hp] at s4
  have own : ∀ b, Owned (r.set i (.v (.list [.list (as.map .list), .list (bs.map .list)]))) σ b → Owned r σ b := fun b ⟨j, x, y, o1, o2, w⟩ => by
    by_cases z : i = j
    · subst z
      rw [List.getElem?_set_self hl] at o1
      cases o1
      exact w.elim
    · rw [List.getElem?_set_ne z] at o1
      exact ⟨j, x, y, o1, o2, w⟩
  refine ⟨_, _, _, s4.lock, ?_⟩
  rw [hte]
  intro F5 H5 e5 s5
  have keep : ∀ b o, H b = some o → ¬ Owned r σ b → H5 b = some o := fun b o w no => s5.gh b o (by
    show restG _ _ _ b = some o
    rw [restG_not fun w2 => no (own b w2)]
    exact w)
  have sP := s.past s5 keep (fun j x y b o1 o2 w => by
    by_cases z : i = j
    · subst z
      rw [u] at o1
      cases o1
      exact w.elim
    · rw [List.getElem?_set_ne z]
      exact o1) hfl
  exact ⟨c, F, r, as, bs, ⟨sP, u, np, L, p, a1, a2, xs, ⟨fun b o e => keep b o (l.h b o e) (l.w b o e), l.f, l.g, l.w⟩, hp, lp, w1, w2, x1, x2, x3⟩, q⟩
end
end Dx

/-! for line in told[0]: line.append(d); told[1].append(None); then it is forgotten -/
namespace Dx
open PySem PySem.Spec PyProof.Rows L2
section
variable {X : Cx} {k : Kn} {W : WX} {i j : Nat} {o on e ix o2 ix2 e2 : Expr} {rest : List Stmt} {pos p6 p7 spos spos2 : Pos}
def lastN (i j : Nat) (n : S) : NS := fun as bs r => if i ≠ j ∧ j < r.length ∧ as.all (fun ds => decide (ds.length < sizeLine)) = true ∧ bs.length < sizeLine then n (r.set j .u) else .no
theorem nLast {y : Str} {d d2 : PyData} {n : S} {apos cpos py apos2 cpos2 : Pos} (hp : PassesOwn (model X.prog X.w) X.A X.env X.xe) (hc : X.calm = true) (hN : X.N.Nodup) (hj : X.N[j]? = some y) (hy : Loc X.env.scope y) (ho : PE X o (tVar i)) (hix : PE X ix (rD k W (mpure (.int 0)))) (hon : PE X on (tVar j)) (he : PE X e (rD k W (mpure d)))
    (ho2 : PE X o2 (tVar i)) (hix2 : PE X ix2 (rD k W (mpure (.int 1)))) (he2 : PE X e2 (rD k W (mpure d2))) (h : PSs X rest (rS k W n))
    (hf : X.fn y = true ∨ X.env.scope.names.lookup y = some .local := by first | exact .inl rfl | exact .inr rfl | assumption) (hs0 : ∀ x, foldedSetIterable (.Subscript o ix spos) X.env x = pure x := by intro _; rfl) (hK : X.K = k.K := by rfl)
    (h0 : PlainIx ix := by exact fun _ _ => rfl) (h1 : PlainIx ix2 := by exact fun _ _ => rfl)
    (hbase : attributeBase on "append" X.env (eval on X.env) = eval on X.env := by rfl)
    (hfew : ((backTo cpos (starEach [e] X.env)).all (fun x => !x.1) && (backToKw cpos (keywordEach [] X.env)).all (fun x => x.1.isSome) && decide ([e].length + ([] : List Keyword).length + (if ([] : List Keyword).isEmpty then 0 else 1) < 30)) = true := by rfl)
    (hline : (apos.endLine == cpos.line) = true := by rfl) (hs : starEach [e] X.env = (false, eval e X.env) :: starEach [] X.env := by rfl) (hplain : (backTo cpos (starEach [] X.env)).any (·.1) = false := by rfl)
    (hsw : swapsWith (.Call (.Attribute on "append" apos) [e] [] cpos) none p6.line X.env = pure false := by rfl)
    (hbase2 : attributeBase (.Subscript o2 ix2 spos2) "append" X.env (eval (.Subscript o2 ix2 spos2) X.env) = eval (.Subscript o2 ix2 spos2) X.env := by rfl)
    (hfew2 : ((backTo cpos2 (starEach [e2] X.env)).all (fun x => !x.1) && (backToKw cpos2 (keywordEach [] X.env)).all (fun x => x.1.isSome) && decide ([e2].length + ([] : List Keyword).length + (if ([] : List Keyword).isEmpty then 0 else 1) < 30)) = true := by rfl)
    (hline2 : (apos2.endLine == cpos2.line) = true := by rfl) (hs2 : starEach [e2] X.env = (false, eval e2 X.env) :: starEach [] X.env := by rfl) (hplain2 : (backTo cpos2 (starEach [] X.env)).any (·.1) = false := by rfl)
    (hsw2 : swapsWith (.Call (.Attribute (.Subscript o2 ix2 spos2) "append" apos2) [e2] [] cpos2) none p7.line X.env = pure false := by rfl) :
    PSs X (.For (.Name y py) (.Subscript o ix spos) [.Expr (.Call (.Attribute on "append" apos) [e] [] cpos) p6] [] pos :: .Expr (.Call (.Attribute (.Subscript o2 ix2 spos2) "append" apos2) [e2] [] cpos2) p7 :: rest) (rN k W i (lastN i j n)) := by
  refine pss_imp (pss_cons (ps_for hp hc (pi_list (pe_ix (hK ▸ ix_list) ho hix h0)) (pg_name hN hj hy hf) (pss_one (ps_expr (pe_bm PySem.F.plainAttrs_list PySem.F.slot_list_append PySem.F.type_list_append mt_append hon (pa_cons he pa_nil hs) hbase hfew hline hs hplain) hsw)) hs0)
    (pss_cons (ps_expr (pe_bm PySem.F.plainAttrs_list PySem.F.slot_list_append PySem.F.type_list_append mt_append (pe_ix (hK ▸ ix_list) ho2 hix2 h1) (pa_cons he2 pa_nil hs2) hbase2 hfew2 hline2 hs2 hplain2) hsw2) h)) fun D σ H q => ?_
  obtain ⟨c, F, r, dss, bs, ⟨s, u, np, L, p, a1, a2, xs, l, hpp, lp, w1, w2, x1, x2, x3⟩, q⟩ := q
  unfold lastN at q
  by_cases hcc : i ≠ j ∧ j < r.length ∧ dss.all (fun ds => decide (ds.length < sizeLine)) = true ∧ bs.length < sizeLine
  case neg =>
    rw [if_neg hcc] at q
    exact q.elim
  rw [if_pos hcc] at q
  obtain ⟨hij, hjl, hall, hbl⟩ := hcc
  obtain ⟨ys, y1, y2, y3⟩ := w2
  have ylen : (ys.map V.ref).length < sizeLine := by
    rw [List.length_map, rws_len y3]
    exact hbl
  obtain ⟨as, v1, v2, v3⟩ := w1
  have exs : as = xs := refs_inj (by
    rw [v1] at x1
    injection x1 with x1
    injection x1)
  subst exs
  refine ⟨.ref p, hpp, _, F, r, s.holdL l, fun F8 H8 e8 s8 z dz => ?_⟩
  obtain ⟨s9, L9⟩ := s.unholdL l s8
  refine ⟨p, [.ref a1, .ref a2], 0, .ref a1, rfl, dp_int dz, SqL.of (L9.h p _ lp), rfl, ?_⟩
  have uj : (r.set j .u)[i]? = some .u := by
    rw [List.getElem?_set_ne (Ne.symm hij)]
    exact u
  have ownj2 : ∀ (σ' : List (Option V)) b y, Owned (r.set j .u) (σ'.set j y) b → Owned (r.set j .u) σ' b := fun σ' b y' ⟨l, x, y, o1, o2, w⟩ => by
    by_cases z : j = l
    · subst z
      rw [List.getElem?_set_self hjl] at o1
      cases o1
      exact w.elim
    · rw [List.getElem?_set_ne z] at o2
      exact ⟨l, x, y, o1, o2, w⟩
  obtain ⟨n1, n2⟩ := List.nodup_cons.1 v2
  refine ⟨a1, rfl, ⟨as.map V.ref, SqL.of (L9.h a1 _ v1)⟩, for_list (K := X.K) (a := a1) (xs := as.map V.ref)
    (fun n' σ' H' => ∃ F' L', Same F F' ∧ Sta k c F' H' (r.set j .u) σ' ∧ σ'[i]? = some (some (.ref p)) ∧ Loose k c F' H' (r.set j .u) σ' L' ∧ L' p = some (.lst [.ref a1, .ref a2]) ∧ L' a1 = some (.lst (as.map V.ref)) ∧ L' a2 = some (.lst (ys.map V.ref)) ∧ Paired (fun a ds => ∃ vs, L' a = some (.lst vs) ∧ DpAll k.K F' vs ds) as (progX d n' dss)) ?_ ?_ ?_ ?_⟩
  · have hσ : ∃ y0, σ[j]? = some y0 := ⟨_, List.getElem?_eq_getElem (by rw [← s.len]; exact hjl)⟩
    obtain ⟨y0, hy0⟩ := hσ
    have sj := s9.forget (i := j) (y := y0)
    rw [setO_same hy0] at sj
    refine ⟨F8, L, e8, sj, hpp, ⟨L9.h, L9.f, L9.g, fun b o e ⟨m, x, y, o1, o2, w⟩ => ?_⟩, lp, v1, y1, ?_⟩
    · by_cases z : j = m
      · subst z
        rw [List.getElem?_set_self hjl] at o1
        cases o1
        exact w.elim
      · rw [List.getElem?_set_ne z] at o1
        exact L9.w b o e ⟨m, x, y, o1, o2, w⟩
    · rw [progX, List.take_zero, List.drop_zero]
      have : Rws k F8 L a1 dss := Rws.up ⟨as, v1, v2, v3⟩ e8
      obtain ⟨as', t1, t2, t3⟩ := this
      have ee : as' = as := refs_inj (by
        rw [t1] at v1
        injection v1 with v1
        injection v1)
      rw [← ee]
      exact t3
  · rintro n' σ' H' _ ⟨F', L', _, _, _, l', _, la', _, _⟩
    exact SqL.of (l'.h a1 _ la')
  · rintro n' x σ' H' hx ⟨F', L', eF, s', hp', l', lp', la', lb', pr⟩
    rw [List.getElem?_map] at hx
    cases ha : as[n']? with
    | none =>
      rw [ha] at hx
      cases hx
    | some a =>
      rw [ha] at hx
      cases hx
      have hnl : n' < dss.length := by
        rw [← rws_len v3]
        exact (List.getElem?_eq_some_iff.mp ha).1
      obtain ⟨a', ha', vs, hLa, dd⟩ := rws_get pr (prog_at (d := d) hnl)
      rw [ha] at ha'
      cases ha'
      have sJ := s'.forget (i := j) (y := some (.ref a))
      rw [List.set_set] at sJ
      have lJ : Loose k c F' H' (r.set j .u) (σ'.set j (some (.ref a))) L' := ⟨l'.h, l'.f, l'.g, fun b o e w => l'.w b o e (ownj2 σ' b _ w)⟩
      have hjs : (σ'.set j (some (.ref a)))[j]? = some (some (V.ref a)) := List.getElem?_set_self (by rw [← s'.len, List.length_set]; exact hjl)
      refine ⟨.ref a, hjs, .inl ⟨rfl, vs, SqL.of (lJ.h a _ hLa)⟩, _, F', r.set j .u, sJ.holdL lJ, ?_⟩
      intro F10 H10 e10 s10 y dy
      obtain ⟨s11, L11⟩ := sJ.unholdL lJ s10
      have hlen : dss[n'].length < sizeLine := by
        have := List.all_eq_true.mp hall dss[n'] (List.getElem_mem hnl)
        exact of_decide_eq_true this
      refine ⟨a, vs, y, rfl, rfl, L11.h a _ hLa, by rw [DpAll.len dd]; exact hlen, ?_⟩
      have s12 := s11.touch (o := .lst (vs ++ [y])) (L11.f a _ hLa) (L11.g a _ hLa) (L11.w a _ hLa)
      have L12 := L11.change (o := .lst (vs ++ [y])) hLa
      have ma : a ∈ as := List.mem_of_getElem? ha
      have pa : p ≠ a := fun z => x2 (z ▸ ma)
      have pa1 : a1 ≠ a := fun z => n1 (z ▸ ma)
      have pa2 : a2 ≠ a := fun z => x3 (z ▸ ma)
      refine ⟨F10, _, eF.trans e10, s12, by rw [List.getElem?_set_ne (Ne.symm hij)]; exact hp', L12, by rw [upd_ne pa]; exact lp', by rw [upd_ne pa1]; exact la', by rw [upd_ne pa2]; exact lb', ?_⟩
      rw [← prog_set hnl]
      refine rws_set pr ha n2 (fun b ds' hb ⟨vs', h1, h2⟩ => ⟨vs', ?_, DpAll.up e10 _ _ h2⟩) ⟨vs ++ [y], upd_same, DpAll.append (DpAll.up e10 _ _ dd) (DpAll.one dy)⟩
      rw [upd_ne hb]
      exact h1
  · rintro σ' H' ⟨F', L', eF, s', hp', l', lp', la', lb', pr⟩
    refine ⟨.ref p, hp', _, F', _, s'.holdL l', fun F12 H12 e12 s12 z dz => ?_⟩
    obtain ⟨s13, L13⟩ := s'.unholdL l' s12
    refine ⟨p, [.ref a1, .ref a2], 1, .ref a2, rfl, dp_int dz, SqL.of (L13.h p _ lp'), rfl, ?_⟩
    refine ⟨.inl ⟨rfl, ys.map V.ref, SqL.of (L13.h a2 _ lb')⟩, _, F12, _, s13.holdL L13, fun F14 H14 e14 s14 y dy => ?_⟩
    obtain ⟨s15, L15⟩ := s13.unholdL L13 s14
    refine ⟨a2, ys.map V.ref, y, rfl, rfl, L15.h a2 _ lb', ylen, ?_⟩
    have s16 := s15.touch (o := .lst (ys.map V.ref ++ [y])) (L15.f a2 _ lb') (L15.g a2 _ lb') (L15.w a2 _ lb')
    exact ⟨c, F14, r.set j .u, s16, SRun.up q (eF.trans (e12.trans e14))⟩
end
end Dx

/-! a list of one's own is lent to a comprehension: while it runs, nothing that is owned can be reached -/
namespace Dx
open PySem PySem.Spec PyProof.Rows L2
def wipeC : Cell → Cell
  | .o _ => .u
  | .io _ _ => .u
  | x => x
def lendR (r : Ev) (i : Nat) (ds : List PyData) : Ev := (r.map wipeC).set i (.v (.list ds))
theorem wipeC_own {x : Cell} {y : Option V} {a : Addr} (h : Own (wipeC x) y a) : False := by cases x <;> exact h.elim
section
variable {k : Kn} {c : Cn} {F H : Hp} {r : Ev} {σ : List (Option V)}
theorem lend_own {i : Nat} {ds : List PyData} {b : Addr} (h : Owned (lendR r i ds) σ b) : False := by
  obtain ⟨j, x, y, e1, e2, w⟩ := h
  unfold lendR at e1
  by_cases q : i = j
  · subst q
    rw [List.getElem?_set_self (by have := (List.getElem?_eq_some_iff.mp e1).1; rwa [List.length_set] at this)] at e1
    cases e1
    exact w.elim
  · rw [List.getElem?_set_ne q, List.getElem?_map] at e1
    cases hx : r[j]? with
    | none =>
      rw [hx] at e1
      cases e1
    | some x0 =>
      rw [hx] at e1
      cases e1
      exact wipeC_own w
theorem Sta.lend (s : Sta k c F H r σ) {i : Nat} {ds : List PyData} (hi : r[i]? = some (.o ds)) : ∃ F', Same F F' ∧ Sta k ⟨H, F', c.A⟩ F' H (lendR r i ds) σ := by
  have hl : i < r.length := (List.getElem?_eq_some_iff.mp hi).1
  have hy : σ[i]? = some (σ[i]'(by rw [← s.len]; exact hl)) := List.getElem?_eq_getElem _
  obtain ⟨a, vs, ea, fa, ga, ha, da⟩ := s.cell i _ _ hi hy
  have sF : Same F (upd F a (.lst vs)) := same_new fa
  have s' : Sta k c (upd F a (.lst vs)) H (lendR r i ds) σ := {
    len := by rw [lendR, List.length_set, List.length_map]; exact s.len
    fh := fun b x e => by
      by_cases q : b = a
      · subst q
        rw [upd_same] at e
        rw [ha]
        exact e
      · rw [upd_ne q] at e
        exact s.fh b x e
    gh := s.gh
    f0 := s.f0.trans sF
    fg := fun b x e g => by
      by_cases q : b = a
      · subst q
        exact absurd ga g
      · rw [upd_ne q] at e
        exact s.fg b x e g
    cell := fun j x y e1 e2 => by
      by_cases q : i = j
      · subst q
        unfold lendR at e1
        rw [List.getElem?_set_self (by rw [List.length_map]; exact hl)] at e1
        cases e1
        rw [hy] at e2
        cases e2
        exact ⟨.ref a, ea, Dp.lst (SqL.of upd_same) (DpAll.up sF _ _ da)⟩
      · unfold lendR at e1
        rw [List.getElem?_set_ne q, List.getElem?_map] at e1
        cases hx : r[j]? with
        | none =>
          rw [hx] at e1
          cases e1
        | some x0 =>
          rw [hx] at e1
          cases e1
          have o := s.cell j x0 y hx e2
          cases x0 with
          | u => trivial
          | o _ => trivial
          | io _ _ => trivial
          | p _ => exact o
          | v d =>
            obtain ⟨v, q, z⟩ := o
            exact ⟨v, q, Dp.up sF _ _ z⟩
    dis := fun j l x y x' y' b e1 e2 e3 e4 w _ => (lend_own ⟨j, x, y, e1, e2, w⟩).elim }
  refine ⟨_, sF, ?_⟩
  have sl := s'.lock
  have e : restG H (lendR r i ds) σ = H := funext fun b => restG_not fun w => lend_own w
  rw [e] at sl
  exact sl
/-- all that is owned is still there -/
theorem Sta.grown (s : Sta k c F H r σ) {H1 : Hp} (e : Same H H1) : Sta k c F H1 r σ where
  len := s.len
  fh := s.fh.trans e
  gh := s.gh.trans e
  f0 := s.f0
  fg := s.fg
  cell := fun j x y e1 e2 => (s.cell j x y e1 e2).stay (Same.refl F) (fun a vs w q => e _ _ q) fun a w => ((s.cell j x y e1 e2).own w).1
  dis := s.dis
end
/-- name = a new flat list, made while slot i is lent -/
def sLend (i j : Nat) (m : M (List PyData)) : S := fun r => match r[i]? with
  | some (.o ds) => match m (lendR r i ds) with
    | .ok es _ => if j < r.length ∧ es.all flatD = true then .nx (r.set j (.o es)) else .no
    | _ => .no
  | _ => .no
section
variable {k : Kn} {W : WX} {D : Ends} {c : Cn} {F H : Hp} {r : Ev} {σ : List (Option V)}
theorem lend_run {i j : Nat} {m : M (List PyData)} {P : V → Hp → Prop} (s : Sta k c F H r σ) (q : SRun k c W F (sLend i j m r) D) (hP : ∀ b H1, D.nx (σ.set j (some b)) H1 → P b H1) :
    ∃ c' F' r', Sta k c' F' H r' σ ∧ Run k c' W σ F' (m r') fun ds r1 F1 H1 => ∀ a vs, Fresh k c' F1 H1 r1 σ a vs ds → P (.ref a) H1 := by
  unfold sLend at q
  revert q
  cases hi : r[i]? with
  | none => exact fun q => q.elim
  | some x =>
    cases x with
    | u => exact fun q => q.elim
    | v _ => exact fun q => q.elim
    | p _ => exact fun q => q.elim
    | io _ _ => exact fun q => q.elim
    | o ds =>
      dsimp only
      obtain ⟨F', e, s1⟩ := s.lend hi
      intro q
      refine ⟨_, F', _, s1, ?_⟩
      revert q
      cases m (lendR r i ds) with
      | no => exact fun q => q.elim
      | ex _ _ => exact fun q => q.elim
      | ok es r5 =>
        dsimp only
        by_cases hc : j < r.length ∧ es.all flatD = true
        case neg =>
          rw [if_neg hc]
          exact fun q => q.elim
        rw [if_pos hc]
        intro q F1 H1 e1 s5 a vs f
        have hh : Same H H1 := s5.gh
        have na : H a = none := f.2.1
        have sB := s.grown hh
        have fr : Fresh k c F H1 r σ a vs es := ⟨s.nF na, s.nG na, f.2.2.1, dpAll_flat f.2.2.2.1 hc.2, fun l x y o1 o2 w => by
          obtain ⟨_, _, us, z⟩ := (s.cell l x y o1 o2).own w
          rw [na] at z
          cases z⟩
        exact hP _ _ (q F H1 _ (Same.refl F) (sB.putO hc.1 fr))
end
section
variable {X : Cx} {k : Kn} {W : WX} {elt it : Expr} {tg : Expr} {ifs : List Expr} {pos : Pos} {scope : Scope} {own : List (Str × Nat)} {mi : M (List PyData)} {g : G1} {t : M Bool} {m : M PyData} {js : List Nat}
theorem sSetLcL {i l : Nat} {y : Str} {py spos : Pos} (hc : X.calm = true) (hN : X.N.Nodup) (hy : X.N[i]? = some y) (hyl : X.env.scope.names.lookup y = some .local) (hsw : swapsWith (.ListComp elt [⟨tg, it, ifs, 0⟩] scope pos) (some (.Name y py)) spos.line X.env = pure true)
    (hi : PI X tg it (rI k W mi)) (ok : BlkOk X.N X.env.scope scope own)
    (hg : ∀ (s : Shared) (H : Hp) (C : Addr) (cl : List (Str × Addr)) (fp : List Addr), PG (X.blk s H scope (compEnvC scope cl C X.env) fp) tg (rG k js g)) (ht : ∀ (s : Shared) (H : Hp) (C : Addr) (cl : List (Str × Addr)) (fp : List Addr), PTs (X.blk s H scope (compEnvC scope cl C X.env) fp) ifs (rT k W0 t))
    (he : ∀ (s : Shared) (H : Hp) (C : Addr) (cl : List (Str × Addr)) (fp : List Addr), PE (X.blk s H scope (compEnvC scope cl C X.env) fp) elt (rD k W0 m)) (hj : ∀ j ∈ js, j ∈ own.map (·.2) := by decide) (hs : ∀ x, foldedSetIterable it X.env x = pure x := by intro _; rfl) :
    PS X (.Assign [.Name y py] (.ListComp elt [⟨tg, it, ifs, 0⟩] scope pos) spos) (rS k W (sLend l i (mComp (own.map (·.2)) mi g t m))) := ps_imp (ps_setLc hc hN hy hyl hsw hi ok hg ht he hs) fun D σ H q => by
  obtain ⟨c, F, r, s, q⟩ := q
  exact dt_comp hj σ H _ (lend_run s q fun b H1 h => h)
end
end Dx

/-! the equations that evaluate mirrors -/
namespace Dx
open PySem PySem.Spec PyProof.Rows L2
section
variable {A B : Type} {r r1 : Ev}
@[simp] theorem e_pure (a : A) : mpure a r = .ok a r := rfl
@[simp] theorem e_bind (m : M A) (k : A → M B) : mbind m k r = match m r with
  | .ok a r1 => k a r1
  | .ex x r1 => .ex x r1
  | .no => .no := rfl
@[simp] theorem e_some (a : A) : mopt (some a) r = .ok a r := rfl
@[simp] theorem e_op (f : PyData → PyData → Option PyData) (m n : M PyData) : mOp f m n r = mbind m (fun d => mbind n fun e => mopt (f d e)) r := rfl
@[simp] theorem e_un (f : PyData → Option PyData) (m : M PyData) : mUn f m r = mbind m (fun d => mopt (f d)) r := rfl
@[simp] theorem e_cl (f : List PyData → Option PyData) (m : M (List PyData)) : mCl f m r = mbind m (fun d => mopt (f d)) r := rfl
@[simp] theorem e_cons (m : M PyData) (ms : M (List PyData)) : mCons m ms r = mbind m (fun d => mbind ms fun ds => mpure (d :: ds)) r := rfl
@[simp] theorem e_var (i : Nat) : mVar i r = match r[i]? with
  | some (.v d) => .ok d r
  | some (.o ds) => .ok (.list ds) (r.set i (.v (.list ds)))
  | _ => .no := rfl
@[simp] theorem e_has (i : Nat) (m : M A) : mHas i m r = match r[i]?.bind ownL with
  | none => .no
  | some _ => m r := rfl
@[simp] theorem e_own (ds : List PyData) : ownL (.o ds) = some ds := rfl
@[simp] theorem e_ownI (j : Nat) (ds : List PyData) : ownL (.io j ds) = some ds := rfl
@[simp] theorem e_setI (j : Nat) (ds es : List PyData) : setL (.io j ds) es = .io j es := rfl
@[simp] theorem e_setO (ds es : List PyData) : setL (.o ds) es = .o es := rfl
@[simp] theorem e_seq (m n : S) : sSeq m n r = match m r with
  | .nx r1 => n r1
  | q => q := by unfold sSeq; rfl
@[simp] theorem e_sb (m : M A) (f : A → S) : sBind m f r = match m r with
  | .ok a r1 => f a r1
  | .ex x r1 => .ex x r1
  | .no => .no := rfl
@[simp] theorem e_asg (m : M PyData) (g : G1) : sAsg m g r = sBind m (fun d r => match g d r with
  | .ok _ r1 => .nx r1
  | _ => .no) r := by unfold sAsg; rfl
@[simp] theorem e_gn (i : Nat) (d : PyData) : gN i d r = if i < r.length then .ok () (r.set i (.v d)) else .no := rfl
@[simp] theorem e_ret (m : M PyData) : sRet m r = sBind m (fun d r => .rt d r) r := rfl
@[simp] theorem e_retl (m : M (List PyData)) : sRetL m r = sBind m (fun d r => .ro d r) r := rfl
@[simp] theorem e_drop (m : M PyData) : sDrop m r = sBind m (fun _ r => .nx r) r := rfl
@[simp] theorem e_cond (t : M Bool) (m n : S) : sCond t m n r = sBind t (fun b => if b = true then m else n) r := rfl
@[simp] theorem e_bool (m : M PyData) : mBool m r = mbind m (fun d => match d with
  | .bool b => mpure b
  | _ => mno) r := rfl
@[simp] theorem e_tru (m : M PyData) : mTru m r = mbind m (fun d => mopt (truD d)) r := rfl
@[simp] theorem e_trub (b : Bool) : truD (.bool b) = some b := rfl
@[simp] theorem e_and (m n : M Bool) : mAnd m n r = mbind m (fun b => if b = true then n else mpure false) r := rfl
@[simp] theorem e_or (m n : M Bool) : mOr m n r = mbind m (fun b => if b = true then mpure true else n) r := rfl
@[simp] theorem e_not (m : M Bool) : mNot m r = mbind m (fun b => mpure (!b)) r := rfl
@[simp] theorem f_add (i j : Int) : fAdd (.int i) (.int j) = some (.int (i + j)) := rfl
@[simp] theorem f_sub (i j : Int) : fSub (.int i) (.int j) = some (.int (i - j)) := rfl
@[simp] theorem f_mul (i j : Int) : fMulI (.int i) (.int j) = if okMul i j = true then some (.int (i * j)) else none := rfl
@[simp] theorem f_pow (i j : Int) : fPow (.int i) (.int j) = if okPow i j = true then some (.int (i ^ j.toNat)) else none := rfl
@[simp] theorem f_div (i j : Int) : fDiv (.int i) (.int j) = if okDiv i j = true then some (.int (i / j)) else none := rfl
@[simp] theorem f_mod (i j : Int) : fMod (.int i) (.int j) = if decide (0 < j) = true then some (.int (i % j)) else none := rfl
@[simp] theorem f_lt (i j : Int) : fLt (.int i) (.int j) = some (.bool (decide (i < j))) := rfl
@[simp] theorem f_le (i j : Int) : fLe (.int i) (.int j) = some (.bool (decide (i ≤ j))) := rfl
@[simp] theorem f_gt (i j : Int) : fGt (.int i) (.int j) = some (.bool (decide (j < i))) := rfl
@[simp] theorem f_ge (i j : Int) : fGe (.int i) (.int j) = some (.bool (decide (j ≤ i))) := rfl
@[simp] theorem f_u (g : Int → PyData) (i : Int) : fU g (.int i) = some (g i) := rfl
@[simp] theorem f_f1 (g : Int → PyData) (i : Int) : f1I g [.int i] = some (g i) := rfl
@[simp] theorem f_f2 (g : Int → Int → PyData) (i j : Int) : f2I g [.int i, .int j] = some (g i j) := rfl
@[simp] theorem f_f3 (g : Int → Int → Int → PyData) (i j l : Int) : f3I g [.int i, .int j, .int l] = some (g i j l) := rfl
@[simp] theorem f_int (i : Int) : fInt [.int i] = some (.int i) := rfl
@[simp] theorem f_intb (b : Bool) : fInt [.bool b] = some (.int (if b = true then 1 else 0)) := by cases b <;> rfl
@[simp] theorem f_len (ds : List PyData) : fLen [.list ds] = some (.int ds.length) := rfl
@[simp] theorem f_lent (ds : List PyData) : fLen [.tuple ds] = some (.int ds.length) := rfl
@[simp] theorem e_run (n : Nat) (body : S) (cs : List Cell) : runB n body cs = outS cs (body (cs ++ List.replicate n .u)) := rfl
end
theorem big_log {i : Int} {n : Nat} (h : i.natAbs < 2 ^ (n + 1)) : i.natAbs.log2 ≤ n := by
  by_cases z : i.natAbs = 0
  · rw [z]; exact Nat.zero_le _
  · exact Nat.le_of_lt_succ ((Nat.log2_lt z).2 h)
def Sml (i : Int) : Prop := i.natAbs < 2 ^ 250
theorem ok_mul {i j : Int} (h : Sml i) (h2 : Sml j) : okMul i j = true := by
  have a := big_log (n := 249) h
  have b := big_log (n := 249) h2
  unfold okMul
  exact decide_eq_true (by omega)
theorem ok_div {i j : Int} (h : 0 < j) (h2 : Sml j) : okDiv i j = true := by
  have b := big_log (n := 249) h2
  unfold okDiv
  rw [decide_eq_true h, decide_eq_true (by omega : j.natAbs.log2 < 9000)]
  rfl
theorem ok_pow {i j : Int} (h : Sml i) (h0 : 0 ≤ j) (h2 : j ≤ 100) : okPow i j = true := by
  have a := big_log (n := 249) h
  have b : (Builtin.Int.intBits i : Int) ≤ 250 := by
    unfold Builtin.Int.intBits
    split <;> omega
  have c : (Builtin.Int.intBits i : Int) * j ≤ 250 * 100 := Int.mul_le_mul b h2 h0 (by decide)
  unfold okPow
  rw [decide_eq_true h0, decide_eq_true (by omega : (Builtin.Int.intBits i : Int) * j ≤ 2 ^ 27)]
  rfl
section
variable {A B : Type} {r r1 : Ev}
@[simp] theorem e_ixo (i : Nat) (n : M PyData) : mIxO i n r = mHas i (mbind n fun e => fun r2 => mopt (ixOwn e r2[i]?) r2) r := rfl
@[simp] theorem e_ixown (j : Int) (x : Cell) : ixOwn (.int j) (some x) = (ownL x).bind fun ds => atI ds j := by
  unfold ixOwn
  cases h : ownL x <;> simp [h]
@[simp] theorem e_setown (j : Int) (d : PyData) (x : Cell) : setOwn (.int j) d (some x) = (ownL x).bind fun ds => (ixN ds.length j).map fun n => setL x (ds.set n d) := rfl
@[simp] theorem e_setix (i : Nat) (n m : M PyData) : sSetIx i n m r = sBind m (fun d => sBind (mHas i n) fun e => fun r => match setOwn e d r[i]? with
  | some x => .nx (r.set i x)
  | none => .no) r := rfl
@[simp] theorem e_app (i : Nat) (m : M PyData) : sApp i m r = sBind (mHas i m) (fun d => fun r => match appOwn d r[i]? with
  | some x => .nx (r.set i x)
  | none => .no) r := rfl
@[simp] theorem e_appown (d : PyData) (x : Cell) : appOwn d (some x) = (ownL x).bind fun ds => if ds.length < sizeLine then some (setL x (ds ++ [d])) else none := rfl
@[simp] theorem e_at (ds : List PyData) (j : Int) : atI ds j = (ixN ds.length j).bind fun n => ds[n]? := rfl
@[simp] theorem e_ixn (n : Nat) (j : Int) : ixN n j = if 0 ≤ j then (if j < n then some j.toNat else none) else if -(n : Int) ≤ j then some (j + n).toNat else none := rfl
@[simp] theorem e_ixt (ds : List PyData) (j : Int) : fIx (.tuple ds) (.int j) = atI ds j := rfl
@[simp] theorem e_ixl (ds : List PyData) (j : Int) : fIx (.list ds) (.int j) = atI ds j := rfl
@[simp] theorem e_out0 : outC [] r = some [] := rfl
@[simp] theorem e_outv (d : PyData) (x : Cell) (cs : List Cell) : outC (.v d :: cs) (x :: r) = (outC cs r).map fun l => .u :: l := rfl
@[simp] theorem e_outi (j0 j : Nat) (d ds : List PyData) (cs : List Cell) : outC (.io j0 d :: cs) (.io j ds :: r) = if j0 = j then (outC cs r).map fun l => .io j ds :: l else none := rfl
@[simp] theorem e_outs_rt (cs : List Cell) (d : PyData) : outS cs (.rt d r) = match outC cs r with
  | some l => .rt d l
  | none => .no := rfl
@[simp] theorem e_outs_ro (cs : List Cell) (d : List PyData) : outS cs (.ro d r) = match outC cs r with
  | some l => .ro d l
  | none => .no := rfl
@[simp] theorem e_outs_nx (cs : List Cell) : outS cs (.nx r) = match outC cs r with
  | some l => .rt .none l
  | none => .no := rfl
end
end Dx
namespace Dx
open PySem PySem.Spec PyProof.Rows L2
section
variable {A B : Type} {r r1 : Ev}
@[simp] theorem e_calld (n : Nat) (f : List Cell → SR) (m : M (List Arg)) : mCallD n f m r = mbind m (callD n f) r := rfl
@[simp] theorem e_callo (n : Nat) (f : List Cell → SR) (m : M (List Arg)) : mCallO n f m r = mbind m (callO n f) r := rfl
@[simp] theorem e_cd (n : Nat) (f : List Cell → SR) (as : List Arg) : callD n f as r = match argC r as 0 with
  | none => .no
  | some cs => if as.length = n ∧ (slotsOf as).Nodup then (match f cs with
      | .rt d l => putR r as l fun r' => .ok d r'
      | .ro ds l => putR r as l fun r' => .ok (.list ds) r'
      | .ex x l => putR r as l fun r' => .ex x r'
      | _ => .no) else .no := rfl
@[simp] theorem e_co (n : Nat) (f : List Cell → SR) (as : List Arg) : callO n f as r = match argC r as 0 with
  | none => .no
  | some cs => if as.length = n ∧ (slotsOf as).Nodup then (match f cs with
      | .ro ds l => putR r as l fun r' => .ok ds r'
      | .ex x l => putR r as l fun r' => .ex x r'
      | _ => .no) else .no := rfl
@[simp] theorem e_arg (m : M PyData) (ms : M (List Arg)) : mArg m ms r = mbind m (fun d => mbind ms fun as => mpure (.d d :: as)) r := rfl
@[simp] theorem e_args (i : Nat) (ms : M (List Arg)) : mArgS i ms r = mHas i (mbind ms fun as => mpure (.s i :: as)) r := rfl
@[simp] theorem e_argc0 (j : Nat) : argC r [] j = some [] := rfl
@[simp] theorem e_argcd (j : Nat) (d : PyData) (as : List Arg) : argC r (.d d :: as) j = (argC r as (j + 1)).map fun l => .v d :: l := rfl
@[simp] theorem e_argcs (j i : Nat) (as : List Arg) : argC r (.s i :: as) j = match r[i]?.bind ownL with
    | some ds => (argC r as (j + 1)).map fun l => .io j ds :: l
    | none => none := rfl
@[simp] theorem e_slots0 : slotsOf [] = [] := rfl
@[simp] theorem e_slotsd (d : PyData) (as : List Arg) : slotsOf (.d d :: as) = slotsOf as := rfl
@[simp] theorem e_slotss (i : Nat) (as : List Arg) : slotsOf (.s i :: as) = i :: slotsOf as := rfl
@[simp] theorem e_put (as : List Arg) (cs : List Cell) (f : Ev → R A) : putR r as cs f = match putC r as cs with
  | some r' => f r'
  | none => .no := rfl
@[simp] theorem e_putc0 : putC r [] [] = some r := rfl
@[simp] theorem e_putcd (d : PyData) (c : Cell) (as : List Arg) (cs : List Cell) : putC r (.d d :: as) (c :: cs) = putC r as cs := rfl
@[simp] theorem e_putcs (i j : Nat) (ds : List PyData) (as : List Arg) (cs : List Cell) : putC r (.s i :: as) (.io j ds :: cs) = match r[i]? with
    | some x => putC (r.set i (setL x ds)) as cs
    | none => none := rfl
@[simp] theorem e_for (m : M (List PyData)) (g : G1) (body : S) : sFor m g body r = sBind m (fun ds => sForL g body ds) r := rfl
@[simp] theorem e_rng1 (m : M (List PyData)) : mRng1 m r = mbind m (fun ds => mopt (rng1 ds)) r := rfl
theorem e_rng {n : Int} (h : n ≤ 2 ^ 24) (h2 : 0 ≤ n) : rng1 [.int n] = some (upL 0 n.toNat) := by
  show (if rngOk n then some (upL 0 n.toNat) else none) = _
  rw [if_pos]
  exact ⟨by omega, by omega⟩
@[simp] theorem e_pardd (i j : Nat) (m n : M PyData) : sParDD i j m n r = sBind m (fun d => sBind n fun e => fun r => if i < r.length ∧ j < r.length then .nx ((r.set i (.v d)).set j (.v e)) else .no) r := rfl
@[simp] theorem e_parod (i j : Nat) (m : M (List PyData)) (n : M PyData) : sParOD i j m n r = sBind m (fun d => sBind n fun e => fun r => if i < r.length ∧ j < r.length then .nx ((r.set i (.o d)).set j (.v e)) else .no) r := rfl
@[simp] theorem e_fit (m : M (List PyData)) : mFit m r = mbind m (fun ds => if ds.length ≤ sizeLine then mpure ds else mno) r := rfl
@[simp] theorem e_tup (m : M (List PyData)) : mTup m r = mbind m (fun ds => if ds.length ≤ sizeLine then mpure (.tuple ds) else mno) r := rfl
@[simp] theorem e_list (m : M (List PyData)) : mList m r = mbind m (fun ds => mpure (.list ds)) r := rfl
@[simp] theorem e_take (i : Nat) : mTake i r = match r[i]? with
  | some (.o ds) => .ok ds (r.set i .u)
  | _ => .no := rfl
@[simp] theorem e_ownst (m : M (List PyData)) (i : Nat) : sOwn m i r = sBind m (fun ds r => if i < r.length then .nx (r.set i (.o ds)) else .no) r := rfl
theorem e_for1 {g : G1} {body : S} {d : PyData} {ds : List PyData} {r1 r2 : Ev} {u : Unit} (h1 : g d r = .ok u r1) (h2 : body r1 = .nx r2) : sForL g body (d :: ds) r = sForL g body ds r2 := by
  show (match g d r with
    | .ok _ r1 => _
    | _ => _) = _
  rw [h1]
  show (match body r1 with
    | .nx r2 => _
    | .ct r2 => _
    | .bk r2 => _
    | q => _) = _
  rw [h2]
theorem e_for_rt {g : G1} {body : S} {d x : PyData} {ds : List PyData} {r1 r2 : Ev} {u : Unit} (h1 : g d r = .ok u r1) (h2 : body r1 = .rt x r2) : sForL g body (d :: ds) r = .rt x r2 := by
  show (match g d r with
    | .ok _ r1 => _
    | _ => _) = _
  rw [h1]
  show (match body r1 with
    | .nx r2 => _
    | .ct r2 => _
    | .bk r2 => _
    | q => _) = _
  rw [h2]
theorem size_line : sizeLine = 16777216 := rfl
end
end Dx
namespace Dx
open PySem PySem.Spec PyProof.Rows L2
@[simp] theorem f_eq (i j : Int) : fEq (.int i) (.int j) = some (.bool (decide (i = j))) := by
  by_cases h : i = j <;> simp [h, fEq, orD, fEqS]
@[simp] theorem f_ne (i j : Int) : fNe (.int i) (.int j) = some (.bool (decide (i ≠ j))) := by
  by_cases h : i = j <;> simp [h, fNe, orD, fNeS]
end Dx
namespace Dx
open PySem PySem.Spec PyProof.Rows L2
section
variable {A B : Type} {r r1 : Ev}
@[simp] theorem i_int (i : Int) : isiD "int" (.int i) = some (.bool true) := rfl
@[simp] theorem i_bool (i : Int) : isiD "bool" (.int i) = some (.bool false) := rfl
@[simp] theorem t_list (ds : List PyData) : tyIs true "list" (.list ds) = some (.bool false) := rfl
@[simp] theorem t_tup (ds : List PyData) : tyIs true "tuple" (.tuple ds) = some (.bool false) := rfl
@[simp] theorem e_andv (m n : M PyData) : mAndV m n r = mbind m (fun d => match d with
  | .bool b => if b = true then n else mpure (.bool false)
  | _ => mno) r := by
  unfold mAndV
  refine congrFun (congrArg (mbind m) (funext fun d => ?_)) r
  cases d <;> first | rfl | (rename_i b; cases b <;> rfl)
@[simp] theorem e_notv (m : M PyData) : mNotV m r = mbind m (fun d => match d with
  | .bool b => mpure (.bool !b)
  | _ => mno) r := rfl
@[simp] theorem e_chain (f g : PyData → PyData → Option PyData) (m n o : M PyData) : mChain f g m n o r = mbind m (fun x => mbind n fun y => mbind (mopt (f x y)) fun z => match z with
  | .bool b => if b = true then mbind o fun w => mopt (g y w) else mpure (.bool false)
  | _ => mno) r := by
  unfold mChain
  refine congrFun (congrArg (mbind m) (funext fun x => congrArg (mbind n) (funext fun y => congrArg (mbind _) (funext fun d => ?_)))) r
  cases d <;> first | rfl | (rename_i b; cases b <;> rfl)
end
theorem ints_map (ns : List Int) : intsOf (ns.map PyData.int) = some ns := by
  induction ns with
  | nil => rfl
  | cons n ns ih =>
    simp only [List.map_cons]
    unfold intsOf
    simp [ih]
@[simp] theorem f_ints (g : List Int → Option PyData) (ns : List Int) : fInts g [.list (ns.map PyData.int)] = g ns := by
  show (intsOf (ns.map PyData.int)).bind g = _
  rw [ints_map]
  rfl
@[simp] theorem e_itl (m : M PyData) (r : Ev) : mItL m r = mbind m (fun d => mopt (asList d)) r := rfl
@[simp] theorem e_asl (ds : List PyData) : asList (.list ds) = some ds := rfl
@[simp] theorem e_un3 (a b c : PyData) (gs : Gn) : gUn 3 gs (.tuple [a, b, c]) = gs [a, b, c] := rfl
@[simp] theorem e_un2 (a b : PyData) (gs : Gn) : gUn 2 gs (.tuple [a, b]) = gs [a, b] := rfl
@[simp] theorem e_gcons (g : G1) (gs : Gn) (d : PyData) (ds : List PyData) (r : Ev) : gsCons g gs (d :: ds) r = match g d r with
    | .ok _ r1 => gs ds r1
    | .ex x r1 => .ex x r1
    | .no => .no := rfl
@[simp] theorem e_ck (n j : Nat) (is : List Nat) (f : List Cell → SR) (m : M (List Arg)) (mk : M (List PyData)) (l : Nat) (r : Ev) : mCallK n j is f m mk l r = mbind m (fun as => mbind mk fun ds => if as.length = j ∧ ds.length = l then callD n f (pick is as (ds.map Arg.d)) else mno) r := rfl
@[simp] theorem e_pick3 {A : Type} (a b c : A) : pick [2, 1, 0] [] [a, b, c] = [c, b, a] := rfl
@[simp] theorem e_gnil (r : Ev) : gsNil [] r = .ok () r := rfl
end Dx
namespace Dx
open PySem PySem.Spec PyProof.Rows L2
theorem shown_int {a : Int} (h : a.natAbs < 10 ^ 100) : (PyData.int a).shown.length ≤ 101 := by
  have e := int_text_length_le10 (by decide : 0 < 100) h
  rw [PyData.shown, PySem.ofString_length]
  exact e
abbrev tw (a b : Int) : PyData := .tuple [.int a, .int b]
theorem shown_tw {a b : Int} (h : a.natAbs < 10 ^ 100) (h2 : b.natAbs < 10 ^ 100) : (tw a b).shown.length ≤ 209 := by
  have e1 := shown_int h
  have e2 := shown_int h2
  rw [PyData.shown]
  refine Nat.le_trans (tupleText_len_le _) ?_
  simp [PyData.shownAll] at *
  omega
theorem repr_tw2 {a b : Int} (h : a.natAbs < 10 ^ 100) (h2 : b.natAbs < 10 ^ 100) : fRepr [.list [tw a b, tw a b]] = some (.str (PyData.list [tw a b, tw a b]).shown) := by
  have e := shown_tw h h2
  have sz := size_line
  have z : (PyData.list [tw a b, tw a b]).shown.length ≤ sizeLine := by
    rw [PyData.shown]
    refine Nat.le_trans (listText_len_le _) ?_
    simp only [PyData.shownAll, List.map_cons, List.map_nil, List.sum_cons, List.sum_nil, List.length_cons, List.length_nil]
    omega
  have r : reprOk (.list [tw a b, tw a b]) = true := by
    unfold reprOk
    rw [decide_eq_true z]
    simp [PyData.showable, PyData.showableAll, PyData.depth, PyData.depthAll]
    have q : ∀ n : Nat, n < 10 ^ 100 → n.log2 < 1920 := fun n h => by
      by_cases z : n = 0
      · rw [z]; decide
      · have := (Nat.log2_lt (k := 400) z).2 (Nat.lt_trans h (by decide +kernel))
        omega
    exact ⟨q _ h, q _ h2⟩
  show (if reprOk _ = true then _ else _) = _
  rw [if_pos r]
theorem ne_str (s : Str) : fNe (.str s) (.str s) = some (.bool false) := by simp [fNe, orD, fNeS]
theorem plain_ints : ∀ ns : List Int, PyData.plainAll (ns.map PyData.int) = true
  | [] => rfl
  | n :: ns => by simp [PyData.plainAll, PyData.plain, plain_ints ns]
theorem ne_ints (ns : List Int) : fNe (.list (ns.map PyData.int)) (.list (ns.map PyData.int)) = some (.bool false) := by
  have e1 := PySem.W.ke_shaped_ints ns
  have e2 := SeqAt.eqv_refl_plain (.list (ns.map PyData.int)) (by rw [PyData.plain]; exact plain_ints ns)
  simp [fNe, orD, fNeS, fNeD, e1, e2]
section
variable {r : Ev}
theorem comp_yes {own : List Nat} {g : G1} {t : M Bool} {m : M PyData} {d z : PyData} {ds acc : List PyData} {r1 r2 r3 : Ev} {u : Unit} (h1 : g d (wipeR r own) = .ok u r1) (h2 : t r1 = .ok true r2) (h3 : m r2 = .ok z r3) (h4 : acc.length < sizeLine) : mCompL own g t m (d :: ds) acc r = mCompL own g t m ds (acc ++ [z]) r3 := by
  rw [mCompL]
  simp only [h1, h2, h3, h4, if_true]
theorem comp_no {own : List Nat} {g : G1} {t : M Bool} {m : M PyData} {d : PyData} {ds acc : List PyData} {r1 r2 : Ev} {u : Unit} (h1 : g d (wipeR r own) = .ok u r1) (h2 : t r1 = .ok false r2) : mCompL own g t m (d :: ds) acc r = mCompL own g t m ds acc r2 := by
  rw [mCompL]
  simp only [h1, h2]
theorem upL_succ (lo : Int) (n : Nat) : upL lo (n + 1) = .int lo :: upL (lo + 1) n := rfl
theorem upL_map : ∀ (n : Nat) (lo : Int), ∃ ns : List Int, upL lo n = ns.map PyData.int
  | 0, lo => ⟨[], rfl⟩
  | n + 1, lo => by
    obtain ⟨ns, e⟩ := upL_map n (lo + 1)
    exact ⟨lo :: ns, by rw [upL_succ, e]; rfl⟩
@[simp] theorem e_comp (own : List Nat) (it : M (List PyData)) (g : G1) (t : M Bool) (m : M PyData) : mComp own it g t m r = mbind it (fun ds => fun r => match mCompL own g t m ds [] r with
  | .ok zs r1 => .ok zs (backR r own (wipeR r1 own))
  | .ex _ _ => .no
  | .no => .no) r := rfl
@[simp] theorem e_rep (m : M (List PyData)) (n : M PyData) : mRep m n r = mbind m (fun ds => mbind n fun d => match d with
  | .int i => if -(2 ^ 63) ≤ i ∧ i < 2 ^ 63 ∧ ds.length * i.toNat ≤ sizeLine then mpure (List.replicate i.toNat ds).flatten else mno
  | _ => mno) r := rfl
@[simp] theorem e_wipe0 : wipeR r [] = r := rfl
@[simp] theorem e_wipe (v : Nat) (vs : List Nat) : wipeR r (v :: vs) = (wipeR r vs).set v .u := rfl
@[simp] theorem e_back0 (r0 : Ev) : backR r0 [] r = r := rfl
def keepO (o : Option Cell) : Cell := match o with
    | some (.v d) => .v d
    | _ => .u
@[simp] theorem e_back (r0 : Ev) (v : Nat) (vs : List Nat) : backR r0 (v :: vs) r = (backR r0 vs r).set v (keepO r0[v]?) := rfl
@[simp] theorem e_lr2 (m n : M PyData) : mListR2 m n r = mbind m (fun d => mbind n fun e => match d, e with
  | .int i, .int j => if rgOk2 i j then mpure (upL i (j - i).toNat) else mno
  | _, _ => mno) r := rfl
theorem upL_at0 (lo : Int) {n : Nat} (h : 0 < n) : atI (upL lo n) 0 = some (.int lo) := by
  have e : ixN (upL lo n).length 0 = some 0 := by
    rw [e_ixn, upL_len, if_pos (by decide), if_pos (by omega)]
    rfl
  rw [e_at, e]
  have := upL_get n lo 0 h
  simpa using this
theorem upL_atl (lo : Int) {n : Nat} (h : 0 < n) : atI (upL lo n) (-1) = some (.int (lo + n - 1)) := by
  have e : ixN (upL lo n).length (-1) = some (n - 1) := by
    rw [e_ixn, upL_len, if_neg (by decide), if_pos (by omega)]
    congr 1
    omega
  rw [e_at, e]
  have := upL_get n lo (n - 1) (by omega)
  show (upL lo n)[n - 1]? = _
  rw [this]
  congr 2
  omega
end
section
variable {r : Ev}
@[simp] theorem e_sl (m : M PyData) (lo hi : Option (M PyData)) : mSl m lo hi r = mbind m (fun d => mbind (mPart lo) fun l => mbind (mPart hi) fun u => match d with
  | .list ds => mpure (cutD ds l u)
  | _ => mno) r := rfl
@[simp] theorem e_part0 : mPart none r = .ok none r := rfl
@[simp] theorem e_part (m : M PyData) : mPart (some m) r = mbind m (fun d => match d with
    | .int i => mpure (some i)
    | _ => mno) r := rfl
@[simp] theorem e_enum (m : M (List PyData)) : mEnum m r = mbind m (fun ds => mopt (enum1 ds)) r := rfl
@[simp] theorem e_enum1 (xs : List PyData) : enum1 [.list xs] = some (enumL 0 xs) := rfl
@[simp] theorem f_cat (xs ys : List PyData) : fAdd (.list xs) (.list ys) = if xs.length + ys.length ≤ sizeLine then some (.list (xs ++ ys)) else none := by
  by_cases h : xs.length + ys.length ≤ sizeLine <;> simp [fAdd, orD, fI, fCat, fCatT, fCatX, h]
theorem fne_nil (ns : List Int) : ∃ b, fNe (.list (ns.map PyData.int)) (.list []) = some (.bool b) := by
  have e1 := PySem.W.ke_shaped_ints ns
  have e2 := PySem.W.ke_shaped_ints []
  refine ⟨!PyData.eqv (.list (ns.map PyData.int)) (.list []), ?_⟩
  have e3 : SeqAt.shaped (.list []) = true := e2
  simp [fNe, orD, fNeS, fNeD, e1, e3]
theorem cut_ints (ns : List Int) (lo hi : Option Int) : ∃ ms : List Int, cutD (ns.map PyData.int) lo hi = ms.map PyData.int ∧ ms.length ≤ ns.length := by
  refine ⟨(ns.drop (HT.sIx ns.length 0 lo)).take (HT.sIx ns.length ns.length hi - HT.sIx ns.length 0 lo), ?_, ?_⟩
  · unfold cutD
    rw [List.length_map, List.map_take, List.map_drop]
  · rw [List.length_take, List.length_drop]
    omega
end
theorem ceil_eq (x s : Int) (h : 0 < s) : -(-x / s) = x / s + if x / s * s < x then 1 else 0 := by
  have e := Int.emod_add_mul_ediv x s
  have r0 := Int.emod_nonneg x (by omega : s ≠ 0)
  have r1 := Int.emod_lt_of_pos x h
  have c : x / s * s = s * (x / s) := Int.mul_comm _ _
  generalize x / s = q at *
  generalize x % s = r at *
  by_cases z : r = 0
  · subst z
    have e2 : -x = s * (-q) := by rw [Int.mul_neg]; omega
    rw [e2, Int.mul_ediv_cancel_left _ (by omega : s ≠ 0), if_neg (by omega)]
    omega
  · have e2 : -x = (s - r) + s * (-q - 1) := by rw [Int.mul_sub, Int.mul_neg]; omega
    rw [e2, Int.add_mul_ediv_left _ _ (by omega : s ≠ 0), Int.ediv_eq_zero_of_lt (by omega) (by omega), if_pos (by omega)]
    omega
theorem fits_iff {part span spot at_ : Int} (hp : 0 < part) : (part * at_ < span * (spot + 1) ∧ span * spot < part * (at_ + 1)) ↔ (spot * span / part ≤ at_ ∧ at_ ≤ -(-((spot + 1) * span) / part) - 1) := by
  have c1 : span * (spot + 1) = (spot + 1) * span := Int.mul_comm _ _
  have c2 : span * spot = spot * span := Int.mul_comm _ _
  have a1 : spot * span / part < at_ + 1 ↔ spot * span < (at_ + 1) * part := Int.ediv_lt_iff_lt_mul hp
  have a2 : -((spot + 1) * span) / part < -at_ ↔ -((spot + 1) * span) < -at_ * part := Int.ediv_lt_iff_lt_mul hp
  have c3 : (at_ + 1) * part = part * (at_ + 1) := Int.mul_comm _ _
  have c4 : -at_ * part = -(part * at_) := by rw [Int.neg_mul, Int.mul_comm]
  rw [c4] at a2
  rw [c3] at a1
  rw [c1, c2]
  constructor
  · rintro ⟨h1, h2⟩
    have b1 := a1.2 h2
    have b2 := a2.2 (by omega)
    omega
  · rintro ⟨h1, h2⟩
    have b1 := a1.1 (by omega)
    have b2 := a2.1 (by omega)
    omega
end Dx
namespace Dx
open PySem PySem.Spec PyProof.Rows L2
theorem fl_bd (x s : Int) (h : 0 < s) : s * (x / s) ≤ x ∧ x < s * (x / s + 1) := by
  refine ⟨Int.mul_ediv_self_le (by omega), ?_⟩
  rw [Int.mul_comm]
  exact Int.lt_ediv_add_one_mul_self x h
theorem ce_bd (x s : Int) (h : 0 < s) : x ≤ s * -(-x / s) ∧ s * (-(-x / s) - 1) < x := by
  obtain ⟨a, b⟩ := fl_bd (-x) s h
  have e1 : s * -(-x / s) = -(s * (-x / s)) := Int.mul_neg _ _
  have e2 : s * (-(-x / s) - 1) = -(s * (-x / s + 1)) := by rw [← Int.mul_neg]; congr 1; omega
  omega
theorem ce_fl (x s : Int) (h : 0 < s) : x / s ≤ -(-x / s) ∧ -(-x / s) ≤ x / s + 1 := by
  rw [ceil_eq x s h]
  split <;> omega
theorem ce_mono {x y s : Int} (h : 0 < s) (e : x ≤ y) : -(-x / s) ≤ -(-y / s) := by
  have := Int.ediv_le_ediv h (by omega : -y ≤ -x)
  omega
theorem fl_shift (x k : Int) {s : Int} (h : 0 < s) : (x + k * s) / s = x / s + k := Int.add_mul_ediv_right x k (by omega)
theorem ce_shift (x k : Int) {s : Int} (h : 0 < s) : -(-(x + k * s) / s) = -(-x / s) + k := by
  have e : -(x + k * s) = -x + (-k) * s := by rw [Int.neg_mul]; omega
  rw [e, fl_shift _ _ h]
  omega
/-- x in a stretch of numbers -/
theorem any_upL (z : Int) : ∀ (n : Nat) (lo : Int), (upL lo n).any (fun d => PyData.eqv d (.int z)) = decide (lo ≤ z ∧ z < lo + n)
  | 0, lo => by
    have q : ¬ (lo ≤ z ∧ z < lo + ((0 : Nat) : Int)) := by omega
    rw [decide_eq_false q]
    rfl
  | n + 1, lo => by
    have e : (upL lo (n + 1)).any (fun d => PyData.eqv d (.int z)) = (PyData.eqv (.int lo) (.int z) || (upL (lo + 1) n).any (fun d => PyData.eqv d (.int z))) := rfl
    rw [e, any_upL z n (lo + 1)]
    have e2 : PyData.eqv (.int lo) (.int z) = decide (lo = z) := by
      simp [PyData.eqv]
      try rfl
    rw [e2, ← Bool.decide_or]
    apply decide_eq_decide.2
    push_cast
    omega
theorem in_upL (z lo : Int) (n : Nat) : fIn false (.int z) (.list (upL lo n)) = some (.bool (decide (lo ≤ z ∧ z < lo + n))) := by
  have e := any_upL z n lo
  have f : ∀ (m : Nat) (l : Int), (upL l m).all flatD = true := fun m => by
    induction m with
    | zero => intro l; rfl
    | succ m ih =>
      intro l
      rw [upL_succ, List.all_cons, ih]
      rfl
  have c : flatD (.int z) = true ∧ (upL lo n).all flatD = true := ⟨rfl, f n lo⟩
  have q : fInF false (.int z) (.list (upL lo n)) = some (.bool (decide (lo ≤ z ∧ z < lo + n))) := by
    show (if flatD (.int z) = true ∧ (upL lo n).all flatD = true then some (inD false (.int z) (upL lo n)) else none) = _
    rw [if_pos c]
    unfold inD
    rw [if_neg (by decide), e]
  unfold fIn orD
  rw [q]
  rfl
theorem ne_bool (b : Bool) : fNe (.bool b) (.bool b) = some (.bool false) := by simp [fNe, orD, fNeS]
theorem ne_upL (lo : Int) (n : Nat) : fNe (.list (upL lo n)) (.list (upL lo n)) = some (.bool false) := by
  obtain ⟨ns, e⟩ := upL_map n lo
  rw [e]
  exact ne_ints ns
theorem ne_tw (a b : Int) : fNe (tw a b) (tw a b) = some (.bool false) := by
  have s1 : SeqAt.shaped (tw a b) = true := by simp [SeqAt.shaped, PyData.canLay0, PyData.canLayAll0, PyData.depth, PyData.depthAll]
  have s2 := SeqAt.eqv_refl_plain (tw a b) (by simp [PyData.plain, PyData.plainAll])
  simp [fNe, orD, fNeS, fNeD, s1, s2]
end Dx
namespace Dx
open PySem PySem.Spec PyProof.Rows L2
@[simp] theorem e_lb2 (m n : M PyData) (r : Ev) : mListB2 m n r = mbind m (fun d => mbind n fun e => match d, e with
  | .int i, .int j => if (j - i).toNat ≤ 2 ^ 24 then mpure (upL i (j - i).toNat) else mno
  | _, _ => mno) r := rfl
end Dx
namespace Dx
open PySem PySem.Spec PyProof.Rows L2
theorem told_ok {i : Nat} {mA mB : M (List PyData)} {t : M Bool} {n : S} {r r1 r2 : Ev} {as bs : List PyData} (h1 : mA r = .ok as r1) (h2 : mB r1 = .ok bs r2) (hl : i < r2.length) (hf : flatR (r2.set i .u) = true) (hs : as.length < sizeLine)
    (ht : t (r2.set i (.v (.list [.list as, .list bs]))) = .ok false (r2.set i (.v (.list [.list as, .list bs])))) : sTold i mA mB t n r = n (r2.set i .u) := by
  unfold sTold sBind
  simp only [h1, h2]
  rw [if_pos ⟨hl, hf, hs, ht⟩]
@[simp] theorem e_cko (n j : Nat) (is : List Nat) (f : List Cell → SR) (m : M (List Arg)) (mk : M (List PyData)) (l : Nat) (r : Ev) : mCallKO n j is f m mk l r = mbind m (fun as => mbind mk fun ds => if as.length = j ∧ ds.length = l then callO n f (pick is as (ds.map Arg.d)) else mno) r := rfl
@[simp] theorem e_pick4 {A : Type} (a b c d : A) : pick [3, 2, 1, 0] [] [a, b, c, d] = [d, c, b, a] := rfl
theorem showable_int {a : Int} (h : a.natAbs < 10 ^ 100) : (PyData.int a).showable = true := by
  have q : a.natAbs.log2 < 1920 := by
    by_cases z : a.natAbs = 0
    · rw [z]; decide
    · have := (Nat.log2_lt (k := 400) z).2 (Nat.lt_trans h (by decide +kernel))
      omega
  simp [PyData.showable, q]
/-- repr of a list of two lists of one or two numbers -/
theorem repr_ll {lo : Int} {n : Nat} (h0 : 0 ≤ lo) (h1 : lo ≤ 10 ^ 90) (hn : n = 1 ∨ n = 2) : fRepr [.list [.list (upL lo n), .list (upL lo n)]] = some (.str (PyData.list [.list (upL lo n), .list (upL lo n)]).shown) := by
  have a1 : lo.natAbs < 10 ^ 100 := by omega
  have a2 : (lo + 1).natAbs < 10 ^ 100 := by omega
  have l1 := shown_int a1
  have l2 := shown_int a2
  have s1 := showable_int a1
  have s2 := showable_int a2
  have sz := size_line
  have key : reprOk (.list [.list (upL lo n), .list (upL lo n)]) = true := by
    have z : (PyData.list [.list (upL lo n), .list (upL lo n)]).shown.length ≤ sizeLine ∧ (PyData.list (upL lo n)).showable = true ∧ (PyData.list (upL lo n)).depth ≤ 3 := by
      have e : (PyData.list (upL lo n)).shown.length ≤ 300 ∧ (PyData.list (upL lo n)).showable = true ∧ (PyData.list (upL lo n)).depth ≤ 3 := by
        rcases hn with rfl | rfl
        · have u : upL lo 1 = [.int lo] := rfl
          rw [u]
          refine ⟨?_, by simp [PyData.showable, PyData.showableAll] at s1 ⊢; exact s1, by simp [PyData.depth, PyData.depthAll]⟩
          rw [PyData.shown]
          refine Nat.le_trans (listText_len_le _) ?_
          simp only [PyData.shownAll, List.map_cons, List.map_nil, List.sum_cons, List.sum_nil, List.length_cons, List.length_nil]
          omega
        · have u : upL lo 2 = [.int lo, .int (lo + 1)] := rfl
          rw [u]
          refine ⟨?_, by simp [PyData.showable, PyData.showableAll] at s1 s2 ⊢; exact ⟨s1, s2⟩, by simp [PyData.depth, PyData.depthAll]⟩
          rw [PyData.shown]
          refine Nat.le_trans (listText_len_le _) ?_
          simp only [PyData.shownAll, List.map_cons, List.map_nil, List.sum_cons, List.sum_nil, List.length_cons, List.length_nil]
          omega
      refine ⟨?_, e.2⟩
      rw [PyData.shown]
      refine Nat.le_trans (listText_len_le _) ?_
      simp only [PyData.shownAll, List.map_cons, List.map_nil, List.sum_cons, List.sum_nil, List.length_cons, List.length_nil]
      omega
    obtain ⟨z1, z2, z3⟩ := z
    unfold reprOk
    rw [decide_eq_true z1]
    have z4 : (PyData.list [.list (upL lo n), .list (upL lo n)]).showable = true := by
      rw [PyData.showable]
      simp [PyData.showableAll, z2]
    have z5 : (PyData.list [.list (upL lo n), .list (upL lo n)]).depth ≤ 64 := by
      rw [PyData.depth]
      simp only [PyData.depthAll]
      omega
    rw [z4, decide_eq_true z5]
    rfl
  show (if reprOk _ = true then _ else _) = _
  rw [if_pos key]
theorem repr_ii {a : Int} (h : a.natAbs < 10 ^ 100) : fRepr [.list [.int a, .int a]] = some (.str (PyData.list [.int a, .int a]).shown) := by
  have l1 := shown_int h
  have s1 := showable_int h
  have sz := size_line
  have z : (PyData.list [.int a, .int a]).shown.length ≤ sizeLine := by
    rw [PyData.shown]
    refine Nat.le_trans (listText_len_le _) ?_
    simp only [PyData.shownAll, List.map_cons, List.map_nil, List.sum_cons, List.sum_nil, List.length_cons, List.length_nil]
    omega
  have r : reprOk (.list [.int a, .int a]) = true := by
    unfold reprOk
    rw [decide_eq_true z]
    simp [PyData.showable, PyData.showableAll, PyData.depth, PyData.depthAll] at s1 ⊢
    exact s1
  show (if reprOk _ = true then _ else _) = _
  rw [if_pos r]
end Dx

namespace Dx
open PySem PySem.Spec PyProof.Rows L2
section
variable {A B : Type} {r r1 : Ev}
@[simp] theorem e_dfl (m : M (List Arg)) (ds : List PyData) : mDfl m ds r = mbind m (fun as => mpure (as ++ ds.map Arg.d)) r := rfl
@[simp] theorem t_int (i : Int) : tyIs true "int" (.int i) = some (.bool false) := rfl
@[simp] theorem f_isnot_nn : fIsNot .none .none = some (.bool false) := rfl
@[simp] theorem f_isnot_in (i : Int) : fIsNot (.int i) .none = some (.bool true) := rfl
@[simp] theorem f_is_nn : fIs .none .none = some (.bool true) := rfl
@[simp] theorem f_is_in (i : Int) : fIs (.int i) .none = some (.bool false) := rfl
@[simp] theorem e_rnga (m : M (List PyData)) : mRngA m r = mbind m (fun ds => mopt (rngA ds)) r := rfl
@[simp] theorem e_rngd (m : M (List PyData)) : mRngD m r = mbind m (fun ds => mopt (rngD ds)) r := rfl
end
end Dx

namespace Dx
open PySem PySem.Spec PyProof.Rows L2
section
variable {A B : Type} {r r1 : Ev}
@[simp] theorem e_zip (m : M (List PyData)) : mZip m r = mbind m (fun ds => mopt (zip1 ds)) r := rfl
@[simp] theorem e_zip1 (xs ys : List PyData) : zip1 [.list xs, .list ys] = some (zipL xs ys) := rfl
@[simp] theorem e_ez (m : M (List PyData)) : mEZ m r = mbind m (fun ds => mopt (ez1 ds)) r := rfl
@[simp] theorem e_ez1 (xs ys : List PyData) : ez1 [.list xs, .list ys] = some (enumL 0 (zipL xs ys)) := rfl
@[simp] theorem e_rnga1 (i j : Int) : rngA [.int i, .int j] = some (upC i 1 (j - i).toNat) := rfl
@[simp] theorem e_rngd1 (i j : Int) : rngD [.int i, .int j, .int (-1)] = some (upC i (-1) (i - j).toNat) := rfl
theorem bools_map (bs : List Bool) : boolsOf (bs.map PyData.bool) = some bs := by
  induction bs with
  | nil => rfl
  | cons b bs ih =>
    simp only [List.map_cons]
    unfold boolsOf
    simp [ih]
theorem f_bools (g : List Bool → Bool) (bs : List Bool) : fBools g [.list (bs.map PyData.bool)] = some (.bool (g bs)) := by
  show (boolsOf (bs.map PyData.bool)).map _ = _
  rw [bools_map]
  rfl
@[simp] theorem e_aug (i : Nat) (m : M PyData) : sAug i m r = match r[i]? with
  | some (.v (.int u)) => sBind m (addTo i u) r
  | _ => .no := rfl
@[simp] theorem e_addto (i : Nat) (u v : Int) : addTo i u (.int v) r = if i < r.length then .nx (r.set i (.v (.int (u + v)))) else .no := rfl
@[simp] theorem e_augix (i : Nat) (n m : M PyData) : sAugIx i n m r = sBind (mHas i n) (fun e => fun r => match numAt e r[i]? with
  | some (j, u) => sBind m (addAt i j u) r
  | none => .no) r := rfl
@[simp] theorem e_numat (j : Int) (x : Cell) : numAt (.int j) (some x) = (ownL x).bind fun ds => match atI ds j with
    | some (.int u) => some (j, u)
    | _ => none := rfl
@[simp] theorem e_keepu : keepO (some .u) = .u := rfl
@[simp] theorem e_addat (i : Nat) (j u v : Int) : addAt i j u (.int v) r = match setOwn (.int j) (.int (u + v)) r[i]? with
    | some x => .nx (r.set i x)
    | none => .no := rfl
end
/-! pairs of whole numbers -/
abbrev ijD (z : Int × Int) : PyData := .tuple [.int z.1, .int z.2]
theorem zip_pairs : ∀ zs : List (Int × Int), zipL ((zs.map Prod.fst).map PyData.int) ((zs.map Prod.snd).map PyData.int) = zs.map ijD
  | [] => rfl
  | z :: zs => by
    show PyData.tuple [.int z.1, .int z.2] :: zipL _ _ = _
    rw [zip_pairs zs]
    rfl
/-! counts up to an index -/
def bump (es : List Int) (k : Nat) : List Int := es.set k (es.getD k 0 + 1)
def pre (es : List Int) (t : Nat) : Int := (es.take (t + 1)).sum
theorem bump_len (es : List Int) (k : Nat) : (bump es k).length = es.length := by
  unfold bump
  rw [List.length_set]
theorem pre_bump : ∀ (es : List Int) (k t : Nat), k < es.length → pre (bump es k) t = pre es t + if k ≤ t then 1 else 0
  | [], k, t, h => by simp at h
  | e :: es, 0, t, _ => by
    simp [bump, pre]
    omega
  | e :: es, k + 1, 0, h => by
    simp [bump, pre]
  | e :: es, k + 1, t + 1, h => by
    have ih := pre_bump es k t (by simpa using h)
    simp only [bump, pre] at ih ⊢
    simp only [List.set_cons_succ, List.take_succ_cons, List.sum_cons, List.getD_cons_succ, Nat.add_le_add_iff_right]
    omega
theorem sum_zeros : ∀ n : Nat, (List.replicate n (0 : Int)).sum = 0
  | 0 => rfl
  | n + 1 => by
    rw [List.replicate_succ, List.sum_cons, sum_zeros n]
    rfl
theorem pre_zero (n t : Nat) : pre (List.replicate n 0) t = 0 := by
  unfold pre
  rw [List.take_replicate, sum_zeros]
/-- the first index from i on, of n, at which G is more than the index -/
def firstUp (G : Nat → Int) : Nat → Nat → Option Nat
  | _, 0 => none
  | i, n + 1 => if (i : Int) < G i then some i else firstUp G (i + 1) n
theorem firstUp_eq {G H : Nat → Int} : ∀ (n i : Nat), (∀ j, i ≤ j → j < i + n → G j = H j) → firstUp G i n = firstUp H i n
  | 0, _, _ => rfl
  | n + 1, i, h => by
    unfold firstUp
    rw [h i (Nat.le_refl _) (by omega), firstUp_eq n (i + 1) fun j h1 h2 => h j (by omega) (by omega)]
def posI (x : Int) : Int := maxI 0 x
theorem posI_eq (x : Int) : posI x = if 0 < x then x else 0 := rfl
/-- a slice by a moment: its window ends by then -/
theorem end_le {p span n b : Int} (hp : 0 < p) (hs : 0 < span) : -(-(n * span) / p) ≤ b ↔ n ≤ p * b / span := by
  have h1 : n ≤ p * b / span ↔ n * span ≤ p * b := Int.le_ediv_iff_mul_le hs
  obtain ⟨a, c⟩ := ce_bd (n * span) p hp
  generalize -(-(n * span) / p) = z at *
  constructor
  · intro h
    have := Int.mul_le_mul_of_nonneg_left h (by omega : 0 ≤ p)
    omega
  · intro h
    have h2 := h1.1 h
    have h3 : p * (z - 1) < p * b := by omega
    have := Int.lt_of_mul_lt_mul_left h3 (by omega)
    omega
/-- a slice since a moment: its window begins from then on -/
theorem begin_ge {p span n a : Int} (hp : 0 < p) (hs : 0 < span) : a ≤ n * span / p ↔ -(-(p * a) / span) ≤ n := by
  have h1 : a ≤ n * span / p ↔ a * p ≤ n * span := Int.le_ediv_iff_mul_le hp
  have e1 : a * p = p * a := Int.mul_comm _ _
  have e2 : n * span = span * n := Int.mul_comm _ _
  obtain ⟨c, d⟩ := ce_bd (p * a) span hs
  generalize -(-(p * a) / span) = z at *
  constructor
  · intro h
    have h2 := h1.1 h
    have h3 : span * (z - 1) < span * n := by omega
    have := Int.lt_of_mul_lt_mul_left h3 (by omega)
    omega
  · intro h
    have := Int.mul_le_mul_of_nonneg_left h (by omega : 0 ≤ span)
    exact h1.2 (by omega)
end Dx

/-! equations of the work beside rows -/
namespace Dx
open PySem PySem.Spec PyProof.Rows L2
variable {i : Nat} {dss : List (List PyData)} {r : Ev}
@[simp] theorem e_isU : isU (some .u) = true := rfl
@[simp] theorem e_isP : isP0 (some (.p 0)) = true := rfl
@[simp] theorem e_seqr (m n : RS) : seqR m n dss r = match m dss r with
  | .nx d r1 => n d r1
  | q => q := rfl
@[simp] theorem e_condr (t : M Bool) (m n : RS) : condR i t m n dss r = match t r with
  | .ok b r1 => if isU r1[i]? = true ∧ noPin r1 = true then (if b = true then m dss r1 else n dss r1) else .no
  | _ => .no := rfl
@[simp] theorem e_liftr (m : S) : liftR i m dss r = match m (r.set i (.p 0)) with
  | .nx r3 => if isP0 r3[i]? = true ∧ noPin (r3.set i .u) = true then .nx dss (r3.set i .u) else .no
  | _ => .no := rfl
@[simp] theorem e_appr (m n : M PyData) : appR i m n dss r = match m r with
  | .ok (.int z) r1 => match ixN dss.length z with
    | some j => match dss[j]? with
      | some ds => match n r1 with
        | .ok d r2 => if ds.length < sizeLine ∧ isU r2[i]? = true ∧ noPin r2 = true then .nx (dss.set j (ds ++ [d])) r2 else .no
        | _ => .no
      | none => .no
    | none => .no
  | _ => .no := rfl
@[simp] theorem e_forr (m : M (List PyData)) (g : G1) (body : RS) : forR i m g body dss r = match m r with
  | .ok ds r1 => if isU r1[i]? = true ∧ noPin r1 = true then forRL i g body ds dss r1 else .no
  | _ => .no := rfl
theorem forr_nil {g : G1} {body : RS} : forRL i g body [] dss r = .nx dss r := rfl
theorem forr_nx {g : G1} {body : RS} {d : PyData} {ds : List PyData} {d2 : List (List PyData)} {r1 r2 : Ev} {u : Unit} (h1 : g d r = .ok u r1) (hu : isU r1[i]? = true ∧ noPin r1 = true) (h2 : body dss r1 = .nx d2 r2) : forRL i g body (d :: ds) dss r = forRL i g body ds d2 r2 := by
  rw [forRL]
  simp only [h1]
  rw [if_pos hu, h2]
theorem forr_ct {g : G1} {body : RS} {d : PyData} {ds : List PyData} {d2 : List (List PyData)} {r1 r2 : Ev} {u : Unit} (h1 : g d r = .ok u r1) (hu : isU r1[i]? = true ∧ noPin r1 = true) (h2 : body dss r1 = .ct d2 r2) : forRL i g body (d :: ds) dss r = forRL i g body ds d2 r2 := by
  rw [forRL]
  simp only [h1]
  rw [if_pos hu, h2]
theorem seqr_nx {m n : RS} {d : List (List PyData)} {r1 : Ev} (h : m dss r = .nx d r1) : seqR m n dss r = n d r1 := by
  unfold seqR
  rw [h]
theorem rows_rt {mm : Ev → Option (List (List PyData) × Ev)} {rest : RS} {d1 d2 : List (List PyData)} {r1 r2 : Ev} (h1 : mm r = some (d1, r1)) (h2 : i < r1.length ∧ noPin (r1.set i .u) = true) (h3 : rest d1 (r1.set i .u) = .rt d2 r2) : sRows i mm rest r = .rt (.list (d2.map .list)) r2 := by
  unfold sRows
  rw [h1]
  dsimp only
  rw [if_pos h2, h3]
end Dx

/-! earliest end first: no slice comes late, where the shares are together at most the period -/
namespace Dx
/-- f 0 + .. + f (n - 1) -/
def sumTo : Nat → (Nat → Int) → Int
  | 0, _ => 0
  | n + 1, f => sumTo n f + f n
theorem sumTo_le {f g : Nat → Int} : ∀ n : Nat, (∀ j, j < n → f j ≤ g j) → sumTo n f ≤ sumTo n g
  | 0, _ => Int.le_refl _
  | n + 1, h => by
    have := sumTo_le n fun j hj => h j (by omega)
    have := h n (by omega)
    simp only [sumTo]
    omega
theorem sumTo_lt {f g : Nat → Int} {i : Nat} {e : Int} : ∀ n : Nat, i < n → (∀ j, j < n → f j ≤ g j) → f i + e ≤ g i → 0 ≤ e → sumTo n f + e ≤ sumTo n g
  | 0, h, _, _, _ => by omega
  | n + 1, h, hl, hi, he => by
    by_cases q : i = n
    · subst q
      have := sumTo_le i fun j hj => hl j (by omega)
      simp only [sumTo]
      omega
    · have := sumTo_lt n (by omega) (fun j hj => hl j (by omega)) hi he
      have := hl n (by omega)
      simp only [sumTo]
      omega
theorem sumTo_mul (a : Int) (f : Nat → Int) : ∀ n : Nat, sumTo n (fun j => a * f j) = a * sumTo n f
  | 0 => by simp [sumTo]
  | n + 1 => by
    simp only [sumTo]
    rw [sumTo_mul a f n, Int.mul_add]
theorem sumTo_sub (f g : Nat → Int) : ∀ n : Nat, sumTo n (fun j => f j - g j) = sumTo n f - sumTo n g
  | 0 => by simp [sumTo]
  | n + 1 => by
    simp only [sumTo]
    rw [sumTo_sub f g n]
    omega
theorem sumTo_one (i : Nat) : ∀ n : Nat, sumTo n (fun j => if j = i then 1 else 0) = if i < n then 1 else 0
  | 0 => by simp [sumTo]
  | n + 1 => by
    simp only [sumTo]
    rw [sumTo_one i n]
    by_cases h1 : i < n
    · rw [if_pos h1, if_neg (by omega), if_pos (by omega)]
      rfl
    · by_cases h2 : n = i
      · rw [if_neg h1, if_pos h2, if_pos (by omega)]
        rfl
      · rw [if_neg h1, if_neg h2, if_neg (by omega)]
        rfl
/-- the end of the next slice -/
def endOf (T p c : Int) : Int := -(-(T * (c + 1)) / p)
/-- a run by first ends: n processes, their shares p, the counts c, who runs -/
structure Run1 (n : Nat) (T : Int) (p : Nat → Int) (c : Nat → Nat → Int) (ch : Nat → Option Nat) : Prop where
  T1 : 1 ≤ T
  p1 : ∀ j, j < n → 1 ≤ p j
  cap : sumTo n p ≤ T
  c0 : ∀ j, j < n → c 0 j = 0
  step : ∀ t j, j < n → c (t + 1) j = c t j + if ch t = some j then 1 else 0
  some_ : ∀ t i, ch t = some i → i < n ∧ T * c t i < p i * (t + 1) ∧ ∀ j, j < n → T * c t j < p j * (t + 1) → endOf T (p i) (c t i) ≤ endOf T (p j) (c t j)
  none_ : ∀ t, ch t = none → ∀ j, j < n → p j * (t + 1) ≤ T * c t j
section
variable {n : Nat} {T : Int} {p : Nat → Int} {c : Nat → Nat → Int} {ch : Nat → Option Nat}
theorem endOf_le {q x b : Int} (hq : 0 < q) : endOf T q x ≤ b ↔ T * (x + 1) ≤ q * b := by
  obtain ⟨a, d⟩ := ce_bd (T * (x + 1)) q hq
  unfold endOf
  generalize -(-(T * (x + 1)) / q) = z at *
  constructor
  · intro h
    have := Int.mul_le_mul_of_nonneg_left h (by omega : 0 ≤ q)
    omega
  · intro h
    have h3 : q * (z - 1) < q * b := by omega
    have := Int.lt_of_mul_lt_mul_left h3 (by omega)
    omega
theorem Run1.mono (R : Run1 n T p c ch) {j : Nat} (hj : j < n) (s : Nat) : ∀ k : Nat, c s j ≤ c (s + k) j
  | 0 => Int.le_refl _
  | k + 1 => by
    have := R.mono hj s k
    have e := R.step (s + k) j hj
    have e2 : s + (k + 1) = s + k + 1 := rfl
    rw [e2, e]
    split <;> omega
/-- idle, or at work on what ends behind D -/
def Slack (T : Int) (p : Nat → Int) (c : Nat → Nat → Int) (ch : Nat → Option Nat) (D : Int) (t : Nat) : Prop := ∀ i, ch t = some i → D < endOf T (p i) (c t i)
theorem last_slack (D : Int) : ∀ m : Nat, ∃ s, s ≤ m ∧ (s = 0 ∨ ∃ t, s = t + 1 ∧ Slack T p c ch D t) ∧ ∀ t, s ≤ t → t < m → ¬ Slack T p c ch D t
  | 0 => ⟨0, Nat.le_refl _, .inl rfl, fun t h1 h2 => by omega⟩
  | m + 1 => by
    by_cases h : Slack T p c ch D m
    · exact ⟨m + 1, Nat.le_refl _, .inr ⟨m, rfl, h⟩, fun t h1 h2 => by omega⟩
    · obtain ⟨s, h1, h2, h3⟩ := last_slack D m
      refine ⟨s, by omega, h2, fun t h4 h5 => ?_⟩
      by_cases q : t = m
      · rw [q]
        exact h
      · exact h3 t h4 (by omega)
theorem not_slack {D : Int} {t : Nat} (h : ¬ Slack T p c ch D t) : ∃ i, ch t = some i ∧ endOf T (p i) (c t i) ≤ D := by
  unfold Slack at h
  cases e : ch t with
  | none =>
    exact absurd (fun i hi => by rw [e] at hi; cases hi) h
  | some i =>
    refine ⟨i, rfl, ?_⟩
    by_cases q : endOf T (p i) (c t i) ≤ D
    · exact q
    · refine absurd (fun j hj => ?_) h
      rw [e] at hj
      cases hj
      omega
/-- in a busy stretch as many slices are done as it has ticks -/
theorem busy_sum (R : Run1 n T p c ch) {D : Int} {s : Nat} : ∀ k : Nat, (∀ t, s ≤ t → t < s + k → ¬ Slack T p c ch D t) → sumTo n (fun j => c (s + k) j - c s j) = k
  | 0, _ => by
    have : ∀ m : Nat, sumTo m (fun j => c (s + 0) j - c s j) = 0 := fun m => by
      induction m with
      | zero => rfl
      | succ m ih =>
        simp only [sumTo]
        rw [ih]
        simp
    exact this n
  | k + 1, h => by
    have ih := busy_sum R (s := s) k fun t h1 h2 => h t h1 (by omega)
    obtain ⟨i, hi, _⟩ := not_slack (h (s + k) (by omega) (by omega))
    have hin := (R.some_ _ _ hi).1
    have one := sumTo_one i n
    rw [if_pos hin] at one
    have key : sumTo n (fun j => c (s + (k + 1)) j - c s j) ≤ sumTo n (fun j => c (s + k) j - c s j) + 1 ∧ sumTo n (fun j => c (s + k) j - c s j) + 1 ≤ sumTo n (fun j => c (s + (k + 1)) j - c s j) := by
      have e : ∀ j, j < n → c (s + (k + 1)) j - c s j = (c (s + k) j - c s j) + if j = i then 1 else 0 := fun j hj => by
        have := R.step (s + k) j hj
        have e2 : s + (k + 1) = s + k + 1 := rfl
        rw [e2, this, hi]
        by_cases q : j = i
        · rw [if_pos q, if_pos (by rw [q])]
          omega
        · rw [if_neg q, if_neg (fun z => q (by cases z; rfl))]
          omega
      have add : ∀ m : Nat, sumTo m (fun j => (c (s + k) j - c s j) + if j = i then 1 else 0) = sumTo m (fun j => c (s + k) j - c s j) + sumTo m (fun j => if j = i then 1 else 0) := fun m => by
        induction m with
        | zero => rfl
        | succ m ih =>
          simp only [sumTo]
          rw [ih]
          omega
      have a1 := sumTo_le n fun j hj => Int.le_of_eq (e j hj)
      have a2 := sumTo_le n fun j hj => Int.le_of_eq (e j hj).symm
      rw [add n, one] at a1 a2
      exact ⟨a1, a2⟩
    omega
/-- what is done in the stretch ends by D: the counts behind it -/
theorem busy_end (R : Run1 n T p c ch) {D : Int} {s j : Nat} (hj : j < n) : ∀ k : Nat, (∀ t, s ≤ t → t < s + k → ¬ Slack T p c ch D t) → c (s + k) j ≠ c s j → T * c (s + k) j ≤ p j * D
  | 0, _, h => absurd rfl h
  | k + 1, h, hne => by
    have e2 : s + (k + 1) = s + k + 1 := rfl
    have st := R.step (s + k) j hj
    rw [e2] at hne ⊢
    obtain ⟨i, hi, hd⟩ := not_slack (h (s + k) (by omega) (by omega))
    by_cases q : ch (s + k) = some j
    · rw [if_pos q] at st
      rw [hi] at q
      cases q
      have := (endOf_le (by have := R.p1 _ hj; omega)).1 hd
      rw [st]
      exact this
    · rw [if_neg q, Int.add_zero] at st
      rw [st] at hne ⊢
      exact busy_end R hj k (fun t h1 h2 => h t h1 (by omega)) hne
theorem busy_first (R : Run1 n T p c ch) {D : Int} {s j : Nat} (hj : j < n) : ∀ k : Nat, (∀ t, s ≤ t → t < s + k → ¬ Slack T p c ch D t) → c (s + k) j ≠ c s j → T * (c s j + 1) ≤ p j * D := fun k h hne => by
  have a := busy_end R hj k h hne
  have m := R.mono hj s k
  have T1 := R.T1
  have : c s j + 1 ≤ c (s + k) j := by omega
  have := Int.mul_le_mul_of_nonneg_left this (by omega : 0 ≤ T)
  omega
/-- a slice that ends by D is not there at the last slack tick -/
theorem release (R : Run1 n T p c ch) {D : Int} {s j : Nat} (hj : j < n) (hs : s = 0 ∨ ∃ t, s = t + 1 ∧ Slack T p c ch D t) (hd : T * (c s j + 1) ≤ p j * D) : p j * s ≤ T * c s j := by
  have T1 := R.T1
  have pj := R.p1 j hj
  rcases hs with rfl | ⟨t, rfl, sl⟩
  · rw [R.c0 j hj]
    simp
  · have st := R.step t j hj
    by_cases q : ch t = some j
    · rw [if_pos q] at st
      have h1 := sl j q
      have h2 : T * (c t j + 1) ≤ T * (c (t + 1) j + 1) := Int.mul_le_mul_of_nonneg_left (by omega) (by omega)
      have h3 := (endOf_le (T := T) (x := c t j) (b := D) (by omega : 0 < p j)).2 (by omega)
      omega
    · rw [if_neg q, Int.add_zero] at st
      rw [st] at hd ⊢
      have h3 := (endOf_le (T := T) (x := c t j) (b := D) (by omega : 0 < p j)).2 hd
      have e : ((t + 1 : Nat) : Int) = (t : Int) + 1 := by omega
      rw [e]
      by_cases g : T * c t j < p j * (t + 1)
      · exfalso
        cases e2 : ch t with
        | none =>
          have := R.none_ t e2 j hj
          omega
        | some i =>
          have h4 := (R.some_ t i e2).2.2 j hj g
          have h5 := sl i e2
          omega
      · omega
/-- THE THEOREM: no lag comes to 1 -/
theorem no_late (R : Run1 n T p c ch) {j : Nat} (hj : j < n) (m : Nat) : p j * m < T * (c m j + 1) := by
  by_cases h : p j * m < T * (c m j + 1)
  · exact h
  · exfalso
    have T1 := R.T1
    obtain ⟨s, h1, h2, h3⟩ := last_slack (T := T) (p := p) (c := c) (ch := ch) (m : Int) m
    obtain ⟨k, rfl⟩ : ∃ k, m = s + k := ⟨m - s, by omega⟩
    have sum := busy_sum R (D := ((s + k : Nat) : Int)) (s := s) k fun t a b => h3 t a (by omega)
    have each : ∀ i, i < n → T * (c (s + k) i - c s i) ≤ p i * k := fun i hi => by
      have pi := R.p1 i hi
      by_cases q : c (s + k) i = c s i
      · rw [q, Int.sub_self, Int.mul_zero]
        exact Int.mul_nonneg (by omega) (by omega)
      · have a := busy_end R hi (D := ((s + k : Nat) : Int)) k (fun t a b => h3 t a (by omega)) q
        have b := release R hi h2 (busy_first R hi k (fun t a b => h3 t a (by omega)) q)
        have e : p i * ((s + k : Nat) : Int) = p i * s + p i * k := by rw [← Int.mul_add]; congr 1
        rw [Int.mul_sub]
        omega
    have late : T * (c (s + k) j - c s j) + T ≤ p j * k := by
      have b := release R hj h2 (by
        have mo := R.mono hj s k
        have := Int.mul_le_mul_of_nonneg_left (by omega : c s j + 1 ≤ c (s + k) j + 1) (by omega : 0 ≤ T)
        omega)
      have e : p j * ((s + k : Nat) : Int) = p j * s + p j * k := by rw [← Int.mul_add]; congr 1
      have e2 : T * (c (s + k) j + 1) = T * c (s + k) j + T := by rw [Int.mul_add, Int.mul_one]
      rw [Int.mul_sub]
      omega
    have tot := sumTo_lt n hj each late (by omega)
    rw [sumTo_mul T (fun i => c (s + k) i - c s i) n, sum] at tot
    have comm : sumTo n (fun i => p i * (k : Int)) = k * sumTo n p := by
      rw [← sumTo_mul]
      congr 1
      funext i
      exact Int.mul_comm _ _
    rw [comm] at tot
    have := Int.mul_le_mul_of_nonneg_left R.cap (by omega : (0 : Int) ≤ k)
    have e3 : T * (k : Int) = k * T := Int.mul_comm _ _
    omega
end
end Dx

/-! the run by first ends, of lists -/
namespace Dx
open PySem PySem.Spec PyProof.Rows L2
theorem minP_facts : ∀ (zs : List (Int × Int)) (z : Int × Int), minP z zs ∈ z :: zs ∧ (minP z zs).1 ≤ z.1 ∧ ∀ y ∈ zs, (minP z zs).1 ≤ y.1
  | [], z => ⟨List.mem_cons_self, Int.le_refl _, fun y h => by cases h⟩
  | y :: zs, z => by
    have e : minP z (y :: zs) = minP (if ltP y z then y else z) zs := rfl
    by_cases h : ltP y z = true
    · rw [e, if_pos h]
      obtain ⟨h1, h2, h3⟩ := minP_facts zs y
      have : y.1 ≤ z.1 := by
        have := of_decide_eq_true h
        omega
      refine ⟨List.mem_cons_of_mem _ h1, by omega, fun x hx => ?_⟩
      rcases List.mem_cons.mp hx with rfl | hx
      · exact h2
      · exact h3 x hx
    · rw [e, if_neg h]
      obtain ⟨h1, h2, h3⟩ := minP_facts zs z
      have : z.1 ≤ y.1 := by
        have h' : ¬ (y.1 < z.1 ∨ (y.1 = z.1 ∧ y.2 < z.2)) := fun q => h (decide_eq_true q)
        omega
      refine ⟨?_, h2, fun x hx => ?_⟩
      · rcases List.mem_cons.mp h1 with q | q
        · rw [q]
          exact List.mem_cons_self
        · exact List.mem_cons_of_mem _ (List.mem_cons_of_mem _ q)
      · rcases List.mem_cons.mp hx with rfl | hx
        · omega
        · exact h3 x hx
def keyL (T p g : Int) : Int := -((g - T) / p)
/-- who can run: how soon the slice ends, and the process -/
def candL (T : Int) : Nat → List Int → List Int → List (Int × Int)
  | i, p :: ps, g :: gs => if 0 < g + p then (keyL T p g, (i : Int)) :: candL T (i + 1) ps gs else candL T (i + 1) ps gs
  | _, _, _ => []
theorem candL_mem (T : Int) : ∀ (ps gs : List Int) (i : Nat) (z : Int × Int), z ∈ candL T i ps gs ↔ ∃ (k : Nat) (p g : Int), ps[k]? = some p ∧ gs[k]? = some g ∧ 0 < g + p ∧ z = (keyL T p g, ((i + k : Nat) : Int))
  | [], gs, i, z => by
    constructor
    · intro h
      cases h
    · rintro ⟨k, p, g, h, _⟩
      simp at h
  | p :: ps, [], i, z => by
    constructor
    · intro h
      cases h
    · rintro ⟨k, p, g, _, h, _⟩
      simp at h
  | p :: ps, g :: gs, i, z => by
    have ih := candL_mem T ps gs (i + 1) z
    unfold candL
    constructor
    · intro h
      split at h
      · rename_i hg
        rcases List.mem_cons.mp h with rfl | h
        · exact ⟨0, p, g, rfl, rfl, hg, rfl⟩
        · obtain ⟨k, p', g', h1, h2, h3, h4⟩ := ih.1 h
          exact ⟨k + 1, p', g', by simpa using h1, by simpa using h2, h3, by rw [h4]; congr 2; omega⟩
      · obtain ⟨k, p', g', h1, h2, h3, h4⟩ := ih.1 h
        exact ⟨k + 1, p', g', by simpa using h1, by simpa using h2, h3, by rw [h4]; congr 2; omega⟩
    · rintro ⟨k, p', g', h1, h2, h3, h4⟩
      cases k with
      | zero =>
        have e1 : p = p' := by simpa using h1
        have e2 : g = g' := by simpa using h2
        subst e1 e2
        rw [if_pos h3, h4]
        exact List.mem_cons_self
      | succ k =>
        have : z ∈ candL T (i + 1) ps gs := ih.2 ⟨k, p', g', by simpa using h1, by simpa using h2, h3, by rw [h4]; congr 2; omega⟩
        split
        · exact List.mem_cons_of_mem _ this
        · exact this
def pickL (T : Int) (ps gs : List Int) : Option Nat := match candL T 0 ps gs with
  | [] => none
  | z :: zs => some (minP z zs).2.toNat
def nextL (T : Int) (o : Option Nat) : Nat → List Int → List Int → List Int
  | i, p :: ps, g :: gs => (g + p - T * if o = some i then 1 else 0) :: nextL T o (i + 1) ps gs
  | _, _, _ => []
theorem nextL_get (T : Int) (o : Option Nat) : ∀ (ps gs : List Int) (i k : Nat) (p g : Int), ps[k]? = some p → gs[k]? = some g → (nextL T o i ps gs)[k]? = some (g + p - T * if o = some (i + k) then 1 else 0)
  | [], _, _, _, _, _, h, _ => by simp at h
  | _ :: _, [], _, _, _, _, _, h => by simp at h
  | p :: ps, g :: gs, i, 0, p', g', h1, h2 => by
    have e1 : p = p' := by simpa using h1
    have e2 : g = g' := by simpa using h2
    subst e1 e2
    rfl
  | p :: ps, g :: gs, i, k + 1, p', g', h1, h2 => by
    have := nextL_get T o ps gs (i + 1) k p' g' (by simpa using h1) (by simpa using h2)
    show (nextL T o (i + 1) ps gs)[k]? = _
    rw [this]
    have e : i + 1 + k = i + (k + 1) := by omega
    rw [e]
theorem nextL_len (T : Int) (o : Option Nat) : ∀ (ps gs : List Int) (i : Nat), gs.length = ps.length → (nextL T o i ps gs).length = ps.length
  | [], _, _, _ => by simp [nextL]
  | _ :: _, [], _, h => by simp at h
  | p :: ps, g :: gs, i, h => by
    simp only [nextL, List.length_cons]
    rw [nextL_len T o ps gs (i + 1) (by simpa using h)]
def lagsAt (T : Int) (ps : List Int) : Nat → List Int
  | 0 => List.replicate ps.length 0
  | t + 1 => nextL T (pickL T ps (lagsAt T ps t)) 0 ps (lagsAt T ps t)
def chAt (T : Int) (ps : List Int) (t : Nat) : Option Nat := pickL T ps (lagsAt T ps t)
def cntAt (T : Int) (ps : List Int) : Nat → Nat → Int
  | 0, _ => 0
  | t + 1, j => cntAt T ps t j + if chAt T ps t = some j then 1 else 0
theorem lagsAt_len (T : Int) (ps : List Int) : ∀ t : Nat, (lagsAt T ps t).length = ps.length
  | 0 => by simp [lagsAt]
  | t + 1 => by
    simp only [lagsAt]
    exact nextL_len T _ ps _ 0 (lagsAt_len T ps t)
theorem lagsAt_get (T : Int) (ps : List Int) {j : Nat} {p : Int} (hp : ps[j]? = some p) : ∀ t : Nat, (lagsAt T ps t)[j]? = some (p * t - T * cntAt T ps t j)
  | 0 => by
    have hj := (List.getElem?_eq_some_iff.mp hp).1
    simp [lagsAt, cntAt, hj]
  | t + 1 => by
    have ih := lagsAt_get T ps hp t
    simp only [lagsAt]
    rw [nextL_get T _ ps _ 0 j _ _ hp ih]
    rw [Nat.zero_add]
    show some (p * (t : Int) - T * cntAt T ps t j + p - T * (if chAt T ps t = some j then 1 else 0)) = some (p * ((t + 1 : Nat) : Int) - T * (cntAt T ps t j + if chAt T ps t = some j then 1 else 0))
    rw [Int.mul_add T]
    have e : p * ((t + 1 : Nat) : Int) = p * t + p := by
      push_cast
      rw [Int.mul_add, Int.mul_one]
    rw [e]
    congr 1
    omega
theorem keyL_end {T p c : Int} (hp : 0 < p) (t : Int) : keyL T p (p * t - T * c) = endOf T p c - t := by
  unfold keyL endOf
  have e : p * t - T * c - T = -(T * (c + 1)) + t * p := by
    rw [Int.mul_add, Int.mul_one, Int.mul_comm t p]
    omega
  rw [e, fl_shift _ _ hp]
  omega
theorem sum_getD (ps : List Int) : ∀ n : Nat, n ≤ ps.length → sumTo n (fun j => ps.getD j 0) = (ps.take n).sum
  | 0, _ => by simp [sumTo]
  | n + 1, h => by
    simp only [sumTo]
    rw [sum_getD ps n (by omega), List.take_succ, List.sum_append]
    rw [List.getElem?_eq_getElem (by omega : n < ps.length)]
    simp [List.getD, List.getElem?_eq_getElem (by omega : n < ps.length)]
theorem runOf {T : Int} {ps : List Int} (hT : 1 ≤ T) (hp : ∀ p ∈ ps, 1 ≤ p) (cap : ps.sum ≤ T) : Run1 ps.length T (fun j => ps.getD j 0) (cntAt T ps) (chAt T ps) := by
  have at_ : ∀ j, j < ps.length → ps[j]? = some (ps.getD j 0) := fun j hj => by
    simp [List.getD, List.getElem?_eq_getElem hj]
  have pos : ∀ j, j < ps.length → 1 ≤ ps.getD j 0 := fun j hj => hp _ (List.mem_of_getElem? (at_ j hj))
  refine ⟨hT, pos, ?_, fun j _ => rfl, fun t j _ => rfl, fun t i hi => ?_, fun t ht j hj => ?_⟩
  · rw [sum_getD ps ps.length (Nat.le_refl _), List.take_length]
    exact cap
  · unfold chAt pickL at hi
    split at hi
    · cases hi
    · rename_i z zs e
      cases hi
      obtain ⟨m1, m2, m3⟩ := minP_facts zs z
      rw [← e] at m1
      obtain ⟨k, p, g, h1, h2, h3, h4⟩ := (candL_mem T ps _ 0 _).1 m1
      have ek : (minP z zs).2.toNat = k := by rw [h4]; simp
      have hk := (List.getElem?_eq_some_iff.mp h1).1
      rw [ek]
      have hg := lagsAt_get T ps h1 t
      rw [h2] at hg
      cases hg
      have ep : ps.getD k 0 = p := by
        have := at_ k hk
        rw [h1] at this
        cases this
        rfl
      have pp := pos k hk
      rw [ep] at pp
      refine ⟨hk, ?_, fun j hj hc => ?_⟩
      · rw [ep, Int.mul_add, Int.mul_one]
        omega
      · have hq := at_ j hj
        have pj := pos j hj
        have hm : (keyL T (ps.getD j 0) (ps.getD j 0 * t - T * cntAt T ps t j), ((0 + j : Nat) : Int)) ∈ candL T 0 ps (lagsAt T ps t) := (candL_mem T ps _ 0 _).2 ⟨j, _, _, hq, lagsAt_get T ps hq t, by rw [Int.mul_add, Int.mul_one] at hc; omega, rfl⟩
        rw [e] at hm
        have le : (minP z zs).1 ≤ keyL T (ps.getD j 0) (ps.getD j 0 * t - T * cntAt T ps t j) := by
          rcases List.mem_cons.mp hm with q | q
          · have := congrArg Prod.fst q
            dsimp only at this
            omega
          · have := m3 _ q
            exact this
        rw [h4] at le
        dsimp only at le
        rw [keyL_end (by omega), keyL_end (by omega)] at le
        rw [ep]
        omega
  · unfold chAt pickL at ht
    split at ht
    · rename_i e
      have hq := at_ j hj
      by_cases h : ps.getD j 0 * ((t : Int) + 1) ≤ T * cntAt T ps t j
      · exact h
      · exfalso
        have hm : (keyL T (ps.getD j 0) (ps.getD j 0 * t - T * cntAt T ps t j), ((0 + j : Nat) : Int)) ∈ candL T 0 ps (lagsAt T ps t) := (candL_mem T ps _ 0 _).2 ⟨j, _, _, hq, lagsAt_get T ps hq t, by rw [Int.mul_add, Int.mul_one] at h; omega, rfl⟩
        rw [e] at hm
        cases hm
    · cases ht
/-- the lags of the run, on both sides -/
theorem run_even {T : Int} {ps : List Int} (hT : 1 ≤ T) (hp : ∀ p ∈ ps, 1 ≤ p) (cap : ps.sum ≤ T) {j : Nat} {p : Int} (hj : ps[j]? = some p) (t : Nat) : p * t - T * cntAt T ps t j < T ∧ -T < p * t - T * cntAt T ps t j := by
  have R := runOf hT hp cap
  have hl := (List.getElem?_eq_some_iff.mp hj).1
  have ep : ps.getD j 0 = p := by simp [List.getD, hj]
  constructor
  · have := no_late R hl t
    rw [ep, Int.mul_add, Int.mul_one] at this
    omega
  · induction t with
    | zero =>
      simp [cntAt]
      omega
    | succ t ih =>
      have st := R.step t j hl
      have e : p * ((t + 1 : Nat) : Int) = p * t + p := by
        push_cast
        rw [Int.mul_add, Int.mul_one]
      have p1 := hp p (List.mem_of_getElem? hj)
      rw [e, st]
      by_cases q : chAt T ps t = some j
      · have := (R.some_ t j q).2.1
        rw [ep, Int.mul_add, Int.mul_one] at this
        rw [if_pos q, Int.mul_add, Int.mul_one]
        omega
      · rw [if_neg q, Int.add_zero]
        omega
end Dx

/-! the counts of a run by first ends are states -/
namespace Dx
open PySem PySem.Spec PyProof.Rows L2
/-- the slices that must be there, by a number of ticks -/
def mustG (m span : Int) (zs : List (Int × Int)) (t : Nat) : Int := (zs.map fun z => posI (z.1 * (m + t) / span - z.2)).sum
def haveG (m span : Int) (zs : List (Int × Int)) (t : Nat) : Int := (zs.map fun z => posI (z.2 - -(-(z.1 * (m - t)) / span))).sum
theorem firstUp_none {G : Nat → Int} : ∀ (n i : Nat), (∀ j, i ≤ j → j < i + n → G j ≤ j) → firstUp G i n = none
  | 0, _, _ => rfl
  | n + 1, i, h => by
    have := h i (Nat.le_refl _) (by omega)
    unfold firstUp
    rw [if_neg (by omega)]
    exact firstUp_none n (i + 1) fun j h1 h2 => h j (by omega) (by omega)
theorem sum_le_list {F : Int × Int → Int} {f : Nat → Int} : ∀ (zs : List (Int × Int)) (i : Nat), (∀ k z, zs[k]? = some z → F z ≤ f (i + k)) → (zs.map F).sum + sumTo i f ≤ sumTo (i + zs.length) f
  | [], i, _ => by simp
  | z :: zs, i, h => by
    have h0 := h 0 z rfl
    have ih := sum_le_list zs (i + 1) fun k y hk => by
      have := h (k + 1) y (by simpa using hk)
      have e : i + 1 + k = i + (k + 1) := by omega
      rw [e]
      exact this
    have e : i + (z :: zs).length = i + 1 + zs.length := by simp; omega
    rw [e, List.map_cons, List.sum_cons]
    simp only [sumTo, Nat.add_zero] at ih h0
    omega
section
variable {T : Int} {ps : List Int}
theorem cnt_mono (s : Nat) (j : Nat) : ∀ k : Nat, cntAt T ps s j ≤ cntAt T ps (s + k) j
  | 0 => Int.le_refl _
  | k + 1 => by
    have := cnt_mono s j k
    have e : cntAt T ps (s + (k + 1)) j = cntAt T ps (s + k) j + if chAt T ps (s + k) = some j then 1 else 0 := rfl
    rw [e]
    split <;> omega
theorem sumTo_add (f g : Nat → Int) : ∀ n : Nat, sumTo n (fun j => f j + g j) = sumTo n f + sumTo n g
  | 0 => rfl
  | n + 1 => by
    simp only [sumTo]
    rw [sumTo_add f g n]
    omega
theorem sumTo_zero : ∀ n : Nat, sumTo n (fun _ => 0) = 0
  | 0 => rfl
  | n + 1 => by
    simp only [sumTo]
    rw [sumTo_zero n]
    rfl
/-- at most a slice a tick -/
theorem cnt_sum (n s : Nat) : ∀ k : Nat, sumTo n (fun j => cntAt T ps (s + k) j - cntAt T ps s j) ≤ k
  | 0 => by
    have e : (fun j => cntAt T ps (s + 0) j - cntAt T ps s j) = fun _ => 0 := funext fun j => by simp
    rw [e, sumTo_zero]
    exact Int.le_refl _
  | k + 1 => by
    have ih := cnt_sum n s k
    have e : (fun j => cntAt T ps (s + (k + 1)) j - cntAt T ps s j) = fun j => (cntAt T ps (s + k) j - cntAt T ps s j) + if chAt T ps (s + k) = some j then 1 else 0 := funext fun j => by
      have e : cntAt T ps (s + (k + 1)) j = cntAt T ps (s + k) j + if chAt T ps (s + k) = some j then 1 else 0 := rfl
      rw [e]
      omega
    rw [e, sumTo_add]
    have one : sumTo n (fun j => if chAt T ps (s + k) = some j then 1 else 0) ≤ 1 := by
      cases hc : chAt T ps (s + k) with
      | none =>
        have e : (fun j : Nat => if (none : Option Nat) = some j then (1 : Int) else 0) = fun _ => 0 := funext fun j => if_neg (by simp)
        rw [e, sumTo_zero]
        decide
      | some i =>
        have e : (fun j : Nat => if some i = some j then (1 : Int) else 0) = fun j => if j = i then 1 else 0 := funext fun j => by
          by_cases q : j = i
          · rw [if_pos q, if_pos (by rw [q])]
          · rw [if_neg q, if_neg (fun z => q (by cases z; rfl))]
        rw [e, sumTo_one]
        split <;> decide
    push_cast
    omega
variable (hT : 1 ≤ T) (hp : ∀ p ∈ ps, 1 ≤ p) (cap : ps.sum ≤ T)
include hT hp cap
theorem cnt_round {j : Nat} {p : Int} (hj : ps[j]? = some p) : cntAt T ps T.toNat j = p := by
  obtain ⟨h1, h2⟩ := run_even hT hp cap hj T.toNat
  have e : ((T.toNat : Nat) : Int) = T := by omega
  rw [e] at h1 h2
  have e2 : p * T - T * cntAt T ps T.toNat j = T * (p - cntAt T ps T.toNat j) := by rw [Int.mul_sub, Int.mul_comm p T]
  rw [e2] at h1 h2
  have a : T * (p - cntAt T ps T.toNat j) < T * 1 := by omega
  have b : T * (-1) < T * (p - cntAt T ps T.toNat j) := by omega
  have := Int.lt_of_mul_lt_mul_left a (by omega)
  have := Int.lt_of_mul_lt_mul_left b (by omega)
  omega
theorem lags_round : ∀ s : Nat, lagsAt T ps (T.toNat + s) = lagsAt T ps s
  | 0 => by
    refine List.ext_getElem? fun j => ?_
    cases hj : ps[j]? with
    | none =>
      have : ps.length ≤ j := by
        rw [List.getElem?_eq_none_iff] at hj
        exact hj
      rw [List.getElem?_eq_none (by rw [lagsAt_len]; exact this), List.getElem?_eq_none (by rw [lagsAt_len]; exact this)]
    | some p =>
      rw [lagsAt_get T ps hj, lagsAt_get T ps hj]
      have e := cnt_round hT hp cap hj
      rw [Nat.add_zero, e]
      have e2 : ((T.toNat : Nat) : Int) = T := by omega
      rw [e2, Int.mul_comm p T]
      simp [cntAt]
  | s + 1 => by
    have ih := lags_round s
    have e : lagsAt T ps (T.toNat + (s + 1)) = nextL T (pickL T ps (lagsAt T ps (T.toNat + s))) 0 ps (lagsAt T ps (T.toNat + s)) := rfl
    rw [e, ih]
    rfl
theorem cnt_turn {j : Nat} {p : Int} (hj : ps[j]? = some p) : ∀ s : Nat, cntAt T ps (T.toNat + s) j = p + cntAt T ps s j
  | 0 => by
    rw [Nat.add_zero, cnt_round hT hp cap hj]
    simp [cntAt]
  | s + 1 => by
    have ih := cnt_turn hj s
    have e : cntAt T ps (T.toNat + (s + 1)) j = cntAt T ps (T.toNat + s) j + if chAt T ps (T.toNat + s) = some j then 1 else 0 := rfl
    have e2 : chAt T ps (T.toNat + s) = chAt T ps s := by
      unfold chAt
      rw [lags_round hT hp cap s]
    have e3 : cntAt T ps (s + 1) j = cntAt T ps s j + if chAt T ps s = some j then 1 else 0 := rfl
    rw [e, ih, e2, e3]
    omega
omit cap in
/-- some rounds more: the same dues, moved -/
theorem due_up {p far b : Int} : p * (b + far * T) / T = p * b / T + far * p := by
  have e : p * (b + far * T) = p * b + far * p * T := by
    rw [Int.mul_add]
    congr 1
    rw [Int.mul_comm far p, Int.mul_assoc]
  rw [e, fl_shift _ _ (by omega)]
omit cap in
theorem due_up2 {p far b : Int} : -(-(p * (b + far * T)) / T) = -(-(p * b) / T) + far * p := by
  have e : p * (b + far * T) = p * b + far * p * T := by
    rw [Int.mul_add]
    congr 1
    rw [Int.mul_comm far p, Int.mul_assoc]
  rw [e, ce_shift _ _ (by omega)]
theorem must_run {near : Nat} {far : Int} {zs : List (Int × Int)} (hl : zs.length = ps.length) (hz : ∀ k z, zs[k]? = some z → ∃ p, ps[k]? = some p ∧ z = (p, cntAt T ps near k + far * p)) (t : Nat) : mustG (near + far * T) T zs t ≤ t := by
  have s := sum_le_list (F := fun z => posI (z.1 * (near + far * T + t) / T - z.2)) (f := fun j => cntAt T ps (near + t) j - cntAt T ps near j) zs 0 fun k z hk => by
    obtain ⟨p, hpk, rfl⟩ := hz k z hk
    have h1 := (run_even hT hp cap hpk (near + t)).1
    have mo := cnt_mono (T := T) (ps := ps) near k t
    have e : (near : Int) + far * T + t = ((near + t : Nat) : Int) + far * T := by push_cast; omega
    dsimp only
    rw [e, due_up hT hp, Nat.zero_add, posI_eq]
    obtain ⟨f1, f2⟩ := fl_bd (p * ((near + t : Nat) : Int)) T (by omega)
    have a : T * (p * ((near + t : Nat) : Int) / T) < T * (cntAt T ps (near + t) k + 1) := by
      rw [Int.mul_add T (cntAt T ps (near + t) k), Int.mul_one]
      omega
    have := Int.lt_of_mul_lt_mul_left a (by omega)
    split <;> omega
  rw [Nat.zero_add, hl] at s
  have := cnt_sum (T := T) (ps := ps) ps.length near t
  simp only [sumTo, Int.add_zero] at s
  unfold mustG
  omega
theorem have_base {near : Nat} {far : Int} {zs : List (Int × Int)} (hl : zs.length = ps.length) (hz : ∀ k z, zs[k]? = some z → ∃ p, ps[k]? = some p ∧ z = (p, cntAt T ps near k + far * p)) (t : Nat) (ht : t ≤ near) : haveG (near + far * T) T zs t ≤ t := by
  obtain ⟨s0, rfl⟩ : ∃ s0, near = s0 + t := ⟨near - t, by omega⟩
  have s := sum_le_list (F := fun z => posI (z.2 - -(-(z.1 * (((s0 + t : Nat) : Int) + far * T - t)) / T))) (f := fun j => cntAt T ps (s0 + t) j - cntAt T ps s0 j) zs 0 fun k z hk => by
    obtain ⟨p, hpk, rfl⟩ := hz k z hk
    have h1 := (run_even hT hp cap hpk s0).2
    have mo := cnt_mono (T := T) (ps := ps) s0 k t
    have e : ((s0 + t : Nat) : Int) + far * T - t = (s0 : Int) + far * T := by push_cast; omega
    dsimp only
    rw [e, due_up2 hT hp, Nat.zero_add, posI_eq]
    obtain ⟨f1, f2⟩ := ce_bd (p * (s0 : Int)) T (by omega)
    have a : T * (cntAt T ps s0 k - 1) < T * -(-(p * (s0 : Int)) / T) := by
      rw [Int.mul_sub, Int.mul_one]
      omega
    have := Int.lt_of_mul_lt_mul_left a (by omega)
    split <;> omega
  rw [Nat.zero_add, hl] at s
  have := cnt_sum (T := T) (ps := ps) ps.length s0 t
  simp only [sumTo, Int.add_zero] at s
  unfold haveG
  omega
theorem have_run {near : Nat} {far : Int} (f0 : 0 ≤ far) {zs : List (Int × Int)} (hl : zs.length = ps.length) (hz : ∀ k z, zs[k]? = some z → ∃ p, ps[k]? = some p ∧ z = (p, cntAt T ps near k + far * p)) (t : Nat) (ht : (t : Int) ≤ minI (near + far * T) T) : haveG (near + far * T) T zs t ≤ t := by
  have hm : (t : Int) ≤ near + far * T ∧ (t : Int) ≤ T := by
    unfold minI at ht
    split at ht <;> omega
  by_cases q : t ≤ near
  · exact have_base hT hp cap hl hz t q
  · have f1 : 1 ≤ far := by
      by_cases z : far = 0
      · subst z
        omega
      · omega
    have e : (near : Int) + far * T = ((T.toNat + near : Nat) : Int) + (far - 1) * T := by
      rw [Int.sub_mul, Int.one_mul]
      push_cast
      omega
    rw [e]
    refine have_base hT hp cap hl (fun k z hk => ?_) t (by omega)
    obtain ⟨p, hpk, rfl⟩ := hz k z hk
    refine ⟨p, hpk, ?_⟩
    rw [cnt_turn hT hp cap hpk, Int.sub_mul, Int.one_mul]
    congr 1
    omega
theorem due_run {near : Nat} {far : Int} {zs : List (Int × Int)} (hz : ∀ k z, zs[k]? = some z → ∃ p, ps[k]? = some p ∧ z = (p, cntAt T ps near k + far * p)) : ∀ z ∈ zs, z.1 * (near + far * T) - T * z.2 < T ∧ -T < z.1 * (near + far * T) - T * z.2 := fun z hm => by
  obtain ⟨k, hk⟩ := List.getElem?_of_mem hm
  obtain ⟨p, hpk, rfl⟩ := hz k z hk
  have := run_even hT hp cap hpk near
  dsimp only
  have e : p * ((near : Int) + far * T) - T * (cntAt T ps near k + far * p) = p * near - T * cntAt T ps near k := by
    rw [Int.mul_add, Int.mul_add]
    have : p * (far * T) = T * (far * p) := by
      rw [Int.mul_comm far T, Int.mul_comm far p, ← Int.mul_assoc, ← Int.mul_assoc, Int.mul_comm p T]
    omega
  rw [e]
  exact this
end
end Dx

/-! rows of ticks: the lists that a plan fills -/
namespace Dx
open PySem PySem.Spec PyProof.Rows L2
/-- the ticks, from t on, whose line has j -/
def tkI (j : Int) : Int → List (List Int) → List Int
  | _, [] => []
  | t, row :: ls => (if j ∈ row then [t] else []) ++ tkI j (t + 1) ls
def dI (ns : List Int) : List PyData := ns.map .int
theorem dI_len (ns : List Int) : (dI ns).length = ns.length := List.length_map ..
/-- n lists -/
def dssOf (n : Nat) (f : Nat → List Int) : List (List PyData) := (List.range n).map fun j => dI (f j)
theorem dssOf_len (n : Nat) (f : Nat → List Int) : (dssOf n f).length = n := by simp [dssOf]
theorem dssOf_at {n j : Nat} (f : Nat → List Int) (h : j < n) : (dssOf n f)[j]? = some (dI (f j)) := by simp [dssOf, h]
theorem dssOf_set {n j : Nat} (f : Nat → List Int) (t : Int) (h : j < n) : (dssOf n f).set j (dI (f j) ++ [.int t]) = dssOf n fun i => f i ++ if i = j then [t] else [] := by
  apply List.ext_getElem?
  intro i
  by_cases e : i = j
  · subst e
    rw [List.getElem?_set_self (by rw [dssOf_len]; exact h), dssOf_at _ h]
    simp [dI]
  · rw [List.getElem?_set_ne (Ne.symm e)]
    by_cases q : i < n
    · rw [dssOf_at _ q, dssOf_at _ q, if_neg e, List.append_nil]
    · rw [List.getElem?_eq_none (by rw [dssOf_len]; omega), List.getElem?_eq_none (by rw [dssOf_len]; omega)]
theorem dssOf_ext {n : Nat} {f g : Nat → List Int} (h : ∀ j, j < n → f j = g j) : dssOf n f = dssOf n g := by
  unfold dssOf
  refine List.map_congr_left fun j hj => ?_
  rw [h j (List.mem_range.mp hj)]
theorem tkI_len (j : Int) : ∀ (ls : List (List Int)) (t : Int), (tkI j t ls).length ≤ ls.length
  | [], t => Nat.le_refl _
  | row :: ls, t => by
    have ih := tkI_len j ls (t + 1)
    rw [tkI, List.length_append, List.length_cons]
    split
    · rw [List.length_singleton]; omega
    · simp only [List.length_nil]; omega
/-- a line of a plan: numbers that rise, from 0 up to below n -/
structure LineOk (n : Nat) (row : List Int) : Prop where
  up : row.Pairwise (· < ·)
  low : ∀ x ∈ row, 0 ≤ x
  high : ∀ x ∈ row, x < n
def rowD (row : List Int) : PyData := .list (dI row)
def planD (ls : List (List Int)) : PyData := .list (ls.map rowD)
theorem ix_nat {n : Nat} {x : Int} (h0 : 0 ≤ x) (h1 : x < n) : ixN n x = some x.toNat := by
  rw [e_ixn, if_pos h0, if_pos h1]
/-- a list is lengthened at x -/
theorem appR_at {i n : Nat} {f : Nat → List Int} {m k : M PyData} {r : Ev} {x t : Int} (hm : m r = .ok (.int x) r) (hk : k r = .ok (.int t) r) (h0 : 0 ≤ x) (h1 : x < n) (hl : (f x.toNat).length < 16777216) (hu : isU r[i]? = true) (hp : noPin r = true) :
    appR i m k (dssOf n f) r = .nx (dssOf n fun j => f j ++ if (j : Int) = x then [t] else []) r := by
  have hx : x.toNat < n := by omega
  simp only [e_appr, hm, dssOf_len, ix_nat h0 h1, dssOf_at f hx, hk, dI_len]
  rw [if_pos ⟨by rw [size_line]; exact hl, hu, hp⟩, dssOf_set f t hx]
  refine congrArg (fun d => RQ.nx d r) (dssOf_ext fun j hj => ?_)
  by_cases q : j = x.toNat
  · rw [if_pos q, if_pos (by omega)]
  · rw [if_neg q, if_neg (by omega)]
@[simp] theorem t_listY (ds : List PyData) : tyIs false "list" (.list ds) = some (.bool true) := rfl
@[simp] theorem t_intY (i : Int) : tyIs false "int" (.int i) = some (.bool true) := rfl
def npC : Cell → Bool
  | .p _ => false
  | _ => true
@[simp] theorem e_np0 : noPin [] = true := rfl
@[simp] theorem e_np1 (c : Cell) (r : Ev) : noPin (c :: r) = (npC c && noPin r) := by cases c <;> rfl
@[simp] theorem e_npv (d : PyData) : npC (.v d) = true := rfl
@[simp] theorem e_npu : npC .u = true := rfl
@[simp] theorem e_npo (ds : List PyData) : npC (.o ds) = true := rfl
end Dx

/-! loops, comprehensions, texts of data: the general rules -/
namespace Dx
open PySem PySem.Spec PyProof.Rows L2
section
variable {r : Ev}
theorem for_zero {g : G1} {body : S} : sForL g body [] r = .nx r := rfl
/-- a loop and what it keeps: I j before the item number j -/
theorem for_keeps {g : G1} {body : S} (I : Nat → Ev → Prop) : ∀ (ds : List PyData) (j : Nat) (r : Ev), I j r → (∀ (i : Nat) (d : PyData) (r : Ev), ds[i]? = some d → I (j + i) r → ∃ r1 r2, g d r = .ok () r1 ∧ body r1 = .nx r2 ∧ I (j + i + 1) r2) →
    ∃ r', sForL g body ds r = .nx r' ∧ I (j + ds.length) r'
  | [], j, r, h, _ => ⟨r, rfl, h⟩
  | d :: ds, j, r, h, step => by
    obtain ⟨r1, r2, e1, e2, h2⟩ := step 0 d r rfl h
    obtain ⟨r', e3, h3⟩ := for_keeps I ds (j + 1) r2 h2 fun i d' r hd hi => by
      have := step (i + 1) d' r (by simpa using hd) (by rw [show j + (i + 1) = j + 1 + i by omega]; exact hi)
      rw [show j + (i + 1) + 1 = j + 1 + i + 1 by omega] at this
      exact this
    exact ⟨r', (e_for1 e1 e2).trans e3, by rw [List.length_cons, show j + (ds.length + 1) = j + 1 + ds.length by omega]; exact h3⟩
/-- a comprehension without a condition -/
theorem comp_map {own : List Nat} {g : G1} {m : M PyData} (f : PyData → PyData) (I : Ev → Prop) : ∀ (ds acc : List PyData) (r : Ev), I r → (∀ d r, d ∈ ds → I r → ∃ r1 r3, g d (wipeR r own) = .ok () r1 ∧ m r1 = .ok (f d) r3 ∧ I r3) → acc.length + ds.length < 16777216 →
    ∃ r', mCompL own g (mpure true) m ds acc r = .ok (acc ++ ds.map f) r' ∧ I r'
  | [], acc, r, h, _, _ => ⟨r, by rw [List.map_nil, List.append_nil]; rfl, h⟩
  | d :: ds, acc, r, h, step, hl => by
    rw [List.length_cons] at hl
    obtain ⟨r1, r3, e1, e2, h3⟩ := step d r List.mem_cons_self h
    obtain ⟨r', e3, h4⟩ := comp_map f I ds (acc ++ [f d]) r3 h3 (fun d r hd hr => step d r (List.mem_cons_of_mem _ hd) hr) (by rw [List.length_append, List.length_singleton]; omega)
    refine ⟨r', ?_, h4⟩
    rw [comp_yes (t := mpure true) (u := ()) (r2 := r1) e1 rfl e2 (by rw [size_line]; omega), e3, List.map_cons, List.append_assoc]
    rfl
/-- the same over items that are made of anything -/
theorem comp_mapA {A : Type} {own : List Nat} {g : G1} {m : M PyData} (D f : A → PyData) (I : Ev → Prop) : ∀ (xs : List A) (acc : List PyData) (r : Ev), I r → (∀ x r, x ∈ xs → I r → ∃ r1 r3, g (D x) (wipeR r own) = .ok () r1 ∧ m r1 = .ok (f x) r3 ∧ I r3) → acc.length + xs.length < 16777216 →
    ∃ r', mCompL own g (mpure true) m (xs.map D) acc r = .ok (acc ++ xs.map f) r' ∧ I r'
  | [], acc, r, h, _, _ => ⟨r, by rw [List.map_nil, List.map_nil, List.append_nil]; rfl, h⟩
  | x :: xs, acc, r, h, step, hl => by
    rw [List.length_cons] at hl
    obtain ⟨r1, r3, e1, e2, h3⟩ := step x r List.mem_cons_self h
    obtain ⟨r', e3, h4⟩ := comp_mapA D f I xs (acc ++ [f x]) r3 h3 (fun d r hd hr => step d r (List.mem_cons_of_mem _ hd) hr) (by rw [List.length_append, List.length_singleton]; omega)
    refine ⟨r', ?_, h4⟩
    rw [List.map_cons, comp_yes (t := mpure true) (u := ()) (r2 := r1) e1 rfl e2 (by rw [size_line]; omega), e3, List.map_cons, List.append_assoc]
    rfl
theorem comp_keepA {A : Type} {own : List Nat} {g : G1} {t : M Bool} {m : M PyData} (D f : A → PyData) (b : A → Bool) (I : Ev → Prop) : ∀ (xs : List A) (acc : List PyData) (r : Ev), I r →
    (∀ x r, x ∈ xs → I r → ∃ r1 r2 r3, g (D x) (wipeR r own) = .ok () r1 ∧ t r1 = .ok (b x) r2 ∧ (b x = false → I r2) ∧ (b x = true → m r2 = .ok (f x) r3 ∧ I r3)) → acc.length + xs.length < 16777216 →
    ∃ r', mCompL own g t m (xs.map D) acc r = .ok (acc ++ (xs.filter b).map f) r' ∧ I r'
  | [], acc, r, h, _, _ => ⟨r, by rw [List.map_nil, List.filter_nil, List.map_nil, List.append_nil]; rfl, h⟩
  | x :: xs, acc, r, h, step, hl => by
    rw [List.length_cons] at hl
    obtain ⟨r1, r2, r3, e1, e2, h2, h3⟩ := step x r List.mem_cons_self h
    cases hb : b x with
    | false =>
      rw [hb] at e2
      obtain ⟨r', e3, h4⟩ := comp_keepA D f b I xs acc r2 (h2 hb) (fun d r hd hr => step d r (List.mem_cons_of_mem _ hd) hr) (by omega)
      refine ⟨r', ?_, h4⟩
      rw [List.map_cons, comp_no (u := ()) e1 e2, e3, List.filter_cons, hb]
      rfl
    | true =>
      rw [hb] at e2
      obtain ⟨e4, h5⟩ := h3 hb
      obtain ⟨r', e3, h4⟩ := comp_keepA D f b I xs (acc ++ [f x]) r3 h5 (fun d r hd hr => step d r (List.mem_cons_of_mem _ hd) hr) (by rw [List.length_append, List.length_singleton]; omega)
      refine ⟨r', ?_, h4⟩
      rw [List.map_cons, comp_yes (u := ()) e1 e2 e4 (by rw [size_line]; omega), e3, List.filter_cons, hb, if_pos rfl, List.map_cons, List.append_assoc]
      rfl
theorem upL_range : ∀ (n lo : Nat), upL (lo : Int) n = (List.range' lo n).map fun i : Nat => PyData.int (i : Int)
  | 0, lo => rfl
  | n + 1, lo => by
    rw [upL_succ, show (lo : Int) + 1 = ((lo + 1 : Nat) : Int) by omega, upL_range n (lo + 1), List.range'_succ, List.map_cons]
theorem upL_zero (n : Nat) : upL 0 n = (List.range n).map fun i : Nat => PyData.int (i : Int) := by
  have := upL_range n 0
  rw [List.range_eq_range']
  exact this
theorem zip_maps {A : Type} (f g : A → PyData) : ∀ xs : List A, zipL (xs.map f) (xs.map g) = xs.map fun x => .tuple [f x, g x]
  | [] => rfl
  | x :: xs => by
    rw [List.map_cons, List.map_cons, List.map_cons, ← zip_maps f g xs]
    rfl
theorem enum_map {A : Type} (f : A → PyData) : ∀ (xs : List A) (i : Nat), enumL i (xs.map f) = (xs.zipIdx i).map fun z => .tuple [.int (z.2 : Int), f z.1]
  | [], i => rfl
  | x :: xs, i => by
    rw [List.map_cons, List.zipIdx_cons, List.map_cons, ← enum_map f xs (i + 1)]
    rfl
theorem range_get (ps : List Int) : ps = (List.range ps.length).map fun j => ps.getD j 0 := by
  apply List.ext_getElem?
  intro i
  rw [List.getElem?_map]
  by_cases h : i < ps.length
  · rw [List.getElem?_range h, List.getElem?_eq_getElem h]
    show _ = some (ps.getD i 0)
    rw [List.getD_eq_getElem?_getD, List.getElem?_eq_getElem h]
    rfl
  · rw [List.getElem?_eq_none (by omega), List.getElem?_eq_none (by rw [List.length_range]; omega)]
    rfl
theorem range_ints (ps : List Int) : ps.map PyData.int = (List.range ps.length).map fun j => .int (ps.getD j 0) := by
  conv => lhs; rw [range_get ps]
  rw [List.map_map]
  rfl
theorem comp_gives {own : List Nat} {it : M (List PyData)} {g : G1} {t : M Bool} {m : M PyData} {r2 : Ev} {ds zs : List PyData} (h1 : it r = .ok ds r) (h2 : mCompL own g t m ds [] r = .ok zs r2) : mComp own it g t m r = .ok zs (backR r own (wipeR r2 own)) := by
  rw [e_comp]
  simp only [e_bind, h1, h2]
theorem seq_nx {a b : S} {r1 : Ev} (h : a r = .nx r1) : sSeq a b r = b r1 := by
  rw [e_seq]
  simp only [h]
theorem seq_rt {a b : S} {r1 : Ev} {d : PyData} (h : a r = .rt d r1) : sSeq a b r = .rt d r1 := by
  rw [e_seq]
  simp only [h]
end
/-! texts -/
def Shw (L D : Nat) (d : PyData) : Prop := d.shown.length ≤ L ∧ d.showable = true ∧ d.depth ≤ D
theorem Shw.le {L D L' D' : Nat} {d : PyData} (h : Shw L D d) (h1 : L ≤ L') (h2 : D ≤ D') : Shw L' D' d := ⟨Nat.le_trans h.1 h1, h.2.1, Nat.le_trans h.2.2 h2⟩
theorem shw_int {a : Int} (h : a.natAbs < 10 ^ 100) : Shw 101 1 (.int a) := ⟨shown_int h, showable_int h, by simp [PyData.depth]⟩
theorem shw_all {L D : Nat} : ∀ ds : List PyData, (∀ d ∈ ds, Shw L D d) → ((PyData.shownAll ds).map (·.length)).sum ≤ L * ds.length ∧ (PyData.shownAll ds).length = ds.length ∧ PyData.showableAll ds = true ∧ PyData.depthAll ds ≤ D
  | [], _ => by simp [PyData.shownAll, PyData.showableAll, PyData.depthAll]
  | d :: ds, h => by
    obtain ⟨a1, a2, a3, a4⟩ := shw_all ds fun x hx => h x (List.mem_cons_of_mem _ hx)
    obtain ⟨b1, b2, b3⟩ := h d List.mem_cons_self
    refine ⟨?_, ?_, ?_, ?_⟩
    · simp only [PyData.shownAll, List.map_cons, List.sum_cons, List.length_cons, Nat.mul_succ]
      omega
    · simp only [PyData.shownAll, List.length_cons, a2]
    · simp [PyData.showableAll, b2, a3]
    · simp only [PyData.depthAll]
      omega
theorem shw_list {L D : Nat} {ds : List PyData} (h : ∀ d ∈ ds, Shw L D d) : Shw (L * ds.length + 2 * ds.length + 3) (D + 1) (.list ds) := by
  obtain ⟨a1, a2, a3, a4⟩ := shw_all ds h
  refine ⟨?_, ?_, ?_⟩
  · rw [PyData.shown]
    refine Nat.le_trans (listText_len_le _) ?_
    rw [a2]
    omega
  · rw [PyData.showable]
    exact a3
  · rw [PyData.depth]
    omega
theorem shw_tup {L D : Nat} {ds : List PyData} (h : ∀ d ∈ ds, Shw L D d) : Shw (L * ds.length + 2 * ds.length + 3) (D + 1) (.tuple ds) := by
  obtain ⟨a1, a2, a3, a4⟩ := shw_all ds h
  refine ⟨?_, ?_, ?_⟩
  · rw [PyData.shown]
    refine Nat.le_trans (tupleText_len_le _) ?_
    rw [a2]
    omega
  · rw [PyData.showable]
    exact a3
  · rw [PyData.depth]
    omega
theorem shw_repr {L D : Nat} {d : PyData} (h : Shw L D d) (h1 : L ≤ 16777216) (h2 : D ≤ 64) : fRepr [d] = some (.str d.shown) := by
  obtain ⟨a, b, c⟩ := h
  have key : reprOk d = true := by
    unfold reprOk
    rw [decide_eq_true (show d.shown.length ≤ sizeLine by rw [size_line]; omega), b, decide_eq_true (show d.depth ≤ 64 by omega)]
    rfl
  show (if reprOk _ = true then _ else _) = _
  rw [if_pos key]
/-- numbers below 10^100 -/
def Nrm (n : Int) : Prop := n.natAbs < 10 ^ 100
theorem shw_ints {ns : List Int} (h : ∀ n ∈ ns, Nrm n) : Shw (103 * ns.length + 3) 2 (.list (ns.map .int)) := by
  have q := shw_list (ds := ns.map .int) (L := 101) (D := 1) fun d hd => by
    obtain ⟨n, hn, rfl⟩ := List.mem_map.mp hd
    exact shw_int (h n hn)
  rw [List.length_map] at q
  exact q.le (by omega) (by omega)
/-- equal data of a plain shape are equal -/
theorem eq_same {d : PyData} (h1 : SeqAt.shaped d = true) (h2 : d.plain = true) : fEqD d d = some (.bool true) := by
  unfold fEqD
  rw [if_pos ⟨h1, h1⟩, SeqAt.eqv_refl_plain d h2]
@[simp] theorem e_star {r : Ev} (m : M PyData) (ms : M (List PyData)) : mStar m ms r = mbind m (fun d => match d with
  | .list ds => mbind ms fun xs => mpure (ds ++ xs)
  | .tuple ds => mbind ms fun xs => mpure (ds ++ xs)
  | _ => mno) r := rfl
theorem for_of {m : M (List PyData)} {g : G1} {body : S} {r r1 : Ev} {ds : List PyData} (h : m r = .ok ds r1) : sFor m g body r = sForL g body ds r1 := by
  rw [e_for]
  show sBind m _ r = _
  simp only [e_sb, h]
@[simp] theorem e_clk {r : Ev} (f : List PyData → List PyData → Option PyData) (m mk : M (List PyData)) : mClK f m mk r = mbind m (fun ds => mbind mk fun es => mopt (f ds es)) r := rfl
theorem eqv_int (m z : Int) : PyData.eqv (.int m) (.int z) = decide (m = z) := by
  simp [PyData.eqv]
  try rfl
theorem any_ints (z : Int) : ∀ ms : List Int, (ms.map PyData.int).any (fun d => PyData.eqv d (.int z)) = decide (z ∈ ms)
  | [] => rfl
  | m :: ms => by
    have e1 : ((m :: ms).map PyData.int).any (fun d => PyData.eqv d (.int z)) = (PyData.eqv (.int m) (.int z) || (ms.map PyData.int).any (fun d => PyData.eqv d (.int z))) := rfl
    rw [e1, any_ints z ms, eqv_int]
    by_cases h : m = z
    · subst h
      simp
    · simp [h, Ne.symm h]
theorem flat_ints : ∀ ms : List Int, (ms.map PyData.int).all flatD = true
  | [] => rfl
  | m :: ms => by
    rw [List.map_cons, List.all_cons, flat_ints ms]
    rfl
theorem in_neg (neg : Bool) (z : Int) (ns : List Int) : fIn neg (.int z) (.list (ns.map .int)) = some (.bool (if neg = true then !decide (z ∈ ns) else decide (z ∈ ns))) := by
  have c : flatD (.int z) = true ∧ (ns.map PyData.int).all flatD = true := ⟨rfl, flat_ints ns⟩
  have q : fInF neg (.int z) (.list (ns.map .int)) = some (.bool (if neg = true then !decide (z ∈ ns) else decide (z ∈ ns))) := by
    show (if flatD (.int z) = true ∧ (ns.map PyData.int).all flatD = true then some (inD neg (.int z) (ns.map .int)) else none) = _
    rw [if_pos c]
    unfold inD
    rw [any_ints]
  unfold fIn orD
  rw [q]
  rfl
theorem in_ints (z : Int) (ns : List Int) : fIn false (.int z) (.list (ns.map .int)) = some (.bool (decide (z ∈ ns))) := in_neg false z ns
theorem out_ints (z : Int) (ns : List Int) : fIn true (.int z) (.list (ns.map .int)) = some (.bool (!decide (z ∈ ns))) := in_neg true z ns
theorem enum_of {m : M PyData} {r : Ev} {xs : List PyData} (h1 : m r = .ok (.list xs) r) : mEnum (mCons m (mpure [])) r = .ok (enumL 0 xs) r := by
  rw [e_enum]
  simp only [e_bind, e_cons, h1, e_pure]
  rfl
theorem call2_ro {f : List Cell → SR} {D P : PyData} {cs : Ev} {xs : List PyData} (h1 : f [.v D, .v P] = .ro xs [.u, .u]) : (mCallD 2 f (mArg (mVar 0) (mArg (mVar 1) (mpure [])))) (.v D :: .v P :: cs) = .ok (.list xs) (.v D :: .v P :: cs) := by
  simp [h1]
theorem call2_rt {f : List Cell → SR} {D P d : PyData} {cs : Ev} (h1 : f [.v D, .v P] = .rt d [.u, .u]) : (mCallD 2 f (mArg (mVar 0) (mArg (mVar 1) (mpure [])))) (.v D :: .v P :: cs) = .ok d (.v D :: .v P :: cs) := by
  simp [h1]
theorem sortset_of {m : M PyData} {r r1 : Ev} {ns : List Int} (h : m r = .ok (.list (ns.map .int)) r1) (hn : ns.length < 64) : mSortSet m r = .ok ((sortS ns).map .int) r1 := by
  unfold mSortSet
  simp only [e_bind, h, ints_map, hn, if_true]
  rfl
@[simp] theorem e_pardo {r : Ev} (i j : Nat) (m : M PyData) (n : M (List PyData)) : sParDO i j m n r = sBind m (fun d => sBind n fun e => fun r => if i < r.length ∧ j < r.length then .nx ((r.set i (.v d)).set j (.o e)) else .no) r := rfl
theorem list_of {m : M (List PyData)} {r r1 : Ev} {xs : List PyData} (h : m r = .ok xs r1) : mList m r = .ok (.list xs) r1 := by
  rw [e_list]
  simp only [e_bind, h]
  rfl
theorem rng_of {m : M PyData} {r r1 : Ev} {i : Int} (h : m r = .ok (.int i) r1) (h0 : 0 ≤ i) (h1 : i ≤ 10000) : mRng1 (mCons m (mpure [])) r = .ok (upL 0 i.toNat) r1 := by
  have er := e_rng (n := i) (by omega) h0
  simp [h, er]
theorem asg_of {m : M PyData} {r r1 r2 : Ev} {d : PyData} {g : G1} {u : Unit} (h : m r = .ok d r1) (h2 : g d r1 = .ok u r2) : sAsg m g r = .nx r2 := by
  rw [e_asg]
  simp only [e_sb, h, h2]
theorem ret_of {m : M PyData} {r r1 : Ev} {d : PyData} (h : m r = .ok d r1) : sRet m r = .rt d r1 := by
  rw [e_ret]
  simp only [e_sb, h]
theorem retl_of {m : M (List PyData)} {r r1 : Ev} {ds : List PyData} (h : m r = .ok ds r1) : sRetL m r = .ro ds r1 := by
  rw [e_retl]
  simp only [e_sb, h]
theorem tup2_of {m n : M PyData} {r r1 r2 : Ev} {d e : PyData} (h : m r = .ok d r1) (h2 : n r1 = .ok e r2) : mTup (mCons m (mCons n (mpure []))) r = .ok (.tuple [d, e]) r2 := by
  simp [h, h2, size_line]
theorem lst2_of {m n : M PyData} {r r1 r2 : Ev} {d e : PyData} (h : m r = .ok d r1) (h2 : n r1 = .ok e r2) : mList (mFit (mCons m (mCons n (mpure [])))) r = .ok (.list [d, e]) r2 := by
  simp [h, h2, size_line]
theorem cl1_of {f : List PyData → Option PyData} {m : M PyData} {r r1 : Ev} {d e : PyData} (h : m r = .ok d r1) (h2 : f [d] = some e) : mCl f (mCons m (mpure [])) r = .ok e r1 := by
  simp [h, h2]
theorem op_of {f : PyData → PyData → Option PyData} {m n : M PyData} {r r1 r2 : Ev} {d e z : PyData} (h : m r = .ok d r1) (h2 : n r1 = .ok e r2) (h3 : f d e = some z) : mOp f m n r = .ok z r2 := by
  simp [h, h2, h3]
theorem bool_of {m : M PyData} {r r1 : Ev} {b : Bool} (h : m r = .ok (.bool b) r1) : mBool m r = .ok b r1 := by
  simp [h]
theorem cond_t {t : M Bool} {a b : S} {r r1 : Ev} (h : t r = .ok true r1) : sCond t a b r = a r1 := by
  simp [h]
theorem cond_f {t : M Bool} {a b : S} {r r1 : Ev} (h : t r = .ok false r1) : sCond t a b r = b r1 := by
  simp [h]
theorem tup3_of {m n o : M PyData} {r r1 r2 r3 : Ev} {d e f : PyData} (h : m r = .ok d r1) (h2 : n r1 = .ok e r2) (h3 : o r2 = .ok f r3) : mTup (mCons m (mCons n (mCons o (mpure [])))) r = .ok (.tuple [d, e, f]) r3 := by
  simp [h, h2, h3, size_line]
theorem out_iov2 {j : Nat} {ds ds' : List PyData} {d1 d2 d : PyData} {c1 c2 : Cell} {r : Ev} : outS [.io j ds, .v d1, .v d2] (.rt d (.io j ds' :: c1 :: c2 :: r)) = .rt d [.io j ds', .u, .u] := by simp
theorem out_iov1 {j : Nat} {ds ds' : List PyData} {d1 d : PyData} {c1 : Cell} {r : Ev} : outS [.io j ds, .v d1] (.rt d (.io j ds' :: c1 :: r)) = .rt d [.io j ds', .u] := by simp
theorem out_v2 {d1 d2 d : PyData} {c1 c2 : Cell} {r : Ev} : outS [.v d1, .v d2] (.rt d (c1 :: c2 :: r)) = .rt d [.u, .u] := by simp
theorem out_v2o {d1 d2 : PyData} {ds : List PyData} {c1 c2 : Cell} {r : Ev} : outS [.v d1, .v d2] (.ro ds (c1 :: c2 :: r)) = .ro ds [.u, .u] := by simp
theorem out_iov2o {j : Nat} {ds ds' es : List PyData} {d1 d2 : PyData} {c1 c2 : Cell} {r : Ev} : outS [.io j ds, .v d1, .v d2] (.ro es (.io j ds' :: c1 :: c2 :: r)) = .ro es [.io j ds', .u, .u] := by simp
end Dx

/-! when a plan is first off -/
namespace Dx
open PySem PySem.Spec PyProof.Rows L2
/-! by process: over its ticks -/
/-- the walk over a process's ticks and the end -/
def offM (T p en : Int) : Int → List Int → Option Int
  | n, [] => if T ≤ p * en - T * n then some (-(-((n + 1) * T) / p)) else none
  | n, t :: ts => if T ≤ p * t - T * n then some (-(-((n + 1) * T) / p)) else if p * t - T * n + p ≤ 0 ∧ t < en then some (t + 1) else offM T p en (n + 1) ts
/-- the walk over the lines: g before the line of the tick t -/
def bitR (j : Int) (row : List Int) : Int := if j ∈ row then 1 else 0
def offS (T p j : Int) : Int → Int → List (List Int) → Option Int
  | _, _, [] => none
  | t, g, row :: ls => if T ≤ g + p - T * bitR j row ∨ g + p - T * bitR j row ≤ -T then some (t + 1) else offS T p j (t + 1) (g + p - T * bitR j row) ls
theorem tkI_ge (j : Int) : ∀ (ls : List (List Int)) (t x : Int), x ∈ tkI j t ls → t ≤ x ∧ x < t + ls.length
  | [], t, x, h => by cases h
  | row :: ls, t, x, h => by
    rw [tkI, List.mem_append] at h
    rw [List.length_cons]
    rcases h with h | h
    · split at h
      · rw [List.mem_singleton] at h
        omega
      · cases h
    · have := tkI_ge j ls (t + 1) x h
      omega
theorem ceil_is {T p a t : Int} (hp : 0 < p) (h1 : a ≤ p * t) (h2 : p * (t - 1) < a) : -(-a / p) = t := by
  obtain ⟨c1, c2⟩ := ce_bd a p hp
  generalize -(-a / p) = z at *
  have k1 : z - 1 < t := by
    have : p * (z - 1) < p * t := by omega
    exact Int.lt_of_mul_lt_mul_left this (by omega)
  have k2 : t - 1 < z := by
    have : p * (t - 1) < p * z := by omega
    exact Int.lt_of_mul_lt_mul_left this (by omega)
  omega
theorem offM_late {T p en n t0 : Int} (hp : 0 < p) (hT : 0 < T) (h : T ≤ p * t0 - T * n) (h2 : p * (t0 - 1) - T * n < T) : ∀ ts : List Int, (∀ x ∈ ts, t0 ≤ x) → t0 ≤ en → offM T p en n ts = some t0 := fun ts hts he => by
  have ht : (n + 1) * T = T * n + T := by rw [Int.add_mul, Int.one_mul, Int.mul_comm]
  have hc : -(-((n + 1) * T) / p) = t0 := ceil_is (T := T) hp (by omega) (by omega)
  cases ts with
  | nil =>
    have : p * t0 ≤ p * en := Int.mul_le_mul_of_nonneg_left he (by omega)
    rw [offM, if_pos (by omega), hc]
  | cons x xs =>
    have : p * t0 ≤ p * x := Int.mul_le_mul_of_nonneg_left (hts x List.mem_cons_self) (by omega)
    rw [offM, if_pos (by omega), hc]
theorem offM_eq {T p en : Int} (j : Int) (hp : 0 < p) (hpT : p ≤ T) : ∀ (ls : List (List Int)) (t n g : Int), g = p * t - T * n → g < T → -T < g → en = t + ls.length → offM T p en n (tkI j t ls) = offS T p j t g ls
  | [], t, n, g, hg, h1, h2, he => by
    rw [List.length_nil, Int.natCast_zero, Int.add_zero] at he
    subst he
    rw [tkI, offM, offS, if_neg (by omega)]
  | row :: ls, t, n, g, hg, h1, h2, he => by
    rw [List.length_cons] at he
    have e1 : p * (t + 1) = p * t + p := by rw [Int.mul_add, Int.mul_one]
    have e2 : T * (n + 1) = T * n + T := by rw [Int.mul_add, Int.mul_one]
    have lt : (t : Int) < en := by omega
    rw [tkI, offS]
    by_cases hj : j ∈ row
    · have b : bitR j row = 1 := if_pos hj
      rw [if_pos hj, b, Int.mul_one, List.singleton_append, offM, if_neg (by omega)]
      by_cases c : p * t - T * n + p ≤ 0
      · rw [if_pos ⟨c, lt⟩, if_pos (.inr (by omega))]
      · rw [if_neg (fun q => c q.1), if_neg (by omega)]
        exact offM_eq j hp hpT ls (t + 1) (n + 1) (g + p - T) (by omega) (by omega) (by omega) (by omega)
    · have b : bitR j row = 0 := if_neg hj
      rw [if_neg hj, b, Int.mul_zero, List.nil_append, Int.sub_zero]
      by_cases c : T ≤ g + p
      · rw [if_pos (.inl c)]
        exact offM_late hp (by omega) (by omega) (by rw [show t + 1 - 1 = t by omega]; omega) _ (fun x hx => (tkI_ge j ls (t + 1) x hx).1) (by omega)
      · rw [if_neg (by omega)]
        exact offM_eq j hp hpT ls (t + 1) n (g + p) (by omega) (by omega) (by omega) (by omega)
theorem offS_gt {T p j : Int} : ∀ (ls : List (List Int)) (t g m : Int), offS T p j t g ls = some m → t < m
  | [], t, g, m, h => by cases h
  | row :: ls, t, g, m, h => by
    rw [offS] at h
    split at h
    · cases h
      omega
    · have := offS_gt ls _ _ m h
      omega
/-! by moment: over the lines -/
def nxR (T : Int) (row : List Int) : Nat → List Int → List Int → List Int
  | i, p :: ps, g :: gs => (g + p - T * bitR i row) :: nxR T row (i + 1) ps gs
  | _, _, _ => []
def lagR (T : Int) (ps : List Int) : List Int → List (List Int) → List (List Int)
  | _, [] => []
  | gs, row :: ls => nxR T row 0 ps gs :: lagR T ps (nxR T row 0 ps gs) ls
def hitR (T : Int) : Nat → List Int → Option Nat
  | _, [] => none
  | i, g :: gs => if T ≤ absI g then some i else hitR T (i + 1) gs
def dueR (T : Int) : Int → List (List Int) → Option (Int × Int)
  | _, [] => none
  | t, gs :: rows => match hitR T 0 gs with
    | some j => some (t, (j : Int))
    | none => dueR T (t + 1) rows
theorem nxR_len (T : Int) (row : List Int) : ∀ (i : Nat) (ps gs : List Int), gs.length = ps.length → (nxR T row i ps gs).length = ps.length
  | _, [], gs, h => by cases gs <;> rfl
  | _, p :: ps, [], h => by simp at h
  | i, p :: ps, g :: gs, h => by
    rw [nxR, List.length_cons, List.length_cons, nxR_len T row (i + 1) ps gs (by simpa using h)]
theorem nxR_get (T : Int) (row : List Int) : ∀ (i : Nat) (ps gs : List Int) (j : Nat) (p g : Int), ps[j]? = some p → gs[j]? = some g → (nxR T row i ps gs)[j]? = some (g + p - T * bitR ((i + j : Nat) : Int) row)
  | _, [], gs, j, p, g, h, _ => by simp at h
  | _, _ :: ps, [], j, p, g, _, h => by simp at h
  | i, p' :: ps, g' :: gs, 0, p, g, h1, h2 => by
    simp at h1 h2
    subst h1
    subst h2
    rfl
  | i, p' :: ps, g' :: gs, j + 1, p, g, h1, h2 => by
    have := nxR_get T row (i + 1) ps gs j p g (by simpa using h1) (by simpa using h2)
    rw [show i + 1 + j = i + (j + 1) by omega] at this
    rw [nxR, List.getElem?_cons_succ, this]
theorem hitR_none {T : Int} : ∀ (gs : List Int) (i : Nat), hitR T i gs = none → ∀ (j : Nat) (g : Int), gs[j]? = some g → absI g < T
  | [], i, h, j, g, e => by simp at e
  | g' :: gs, i, h, j, g, e => by
    rw [hitR] at h
    split at h
    · cases h
    · rename_i c
      cases j with
      | zero =>
        simp at e
        subst e
        omega
      | succ j => exact hitR_none gs (i + 1) h j g (by simpa using e)
theorem hitR_some {T : Int} : ∀ (gs : List Int) (i k : Nat), hitR T i gs = some k → ∃ (j : Nat) (g : Int), k = i + j ∧ gs[j]? = some g ∧ T ≤ absI g ∧ ∀ (j' : Nat) (g' : Int), gs[j']? = some g' → T ≤ absI g' → j ≤ j'
  | [], i, k, h => by cases h
  | g :: gs, i, k, h => by
    rw [hitR] at h
    split at h
    · rename_i c
      cases h
      exact ⟨0, g, rfl, rfl, c, fun _ _ _ _ => Nat.zero_le _⟩
    · rename_i c
      obtain ⟨j, g1, e1, e2, e3, e4⟩ := hitR_some gs (i + 1) k h
      refine ⟨j + 1, g1, by omega, by simpa using e2, e3, fun j' g' h1 h2 => ?_⟩
      cases j' with
      | zero =>
        simp at h1
        subst h1
        exact absurd h2 c
      | succ j' =>
        have := e4 j' g' (by simpa using h1) h2
        omega
/-- the least moment, and the least process of it -/
def DueIs (n : Nat) (F : Nat → Option Int) (o : Option (Int × Int)) : Prop := match o with
  | none => ∀ j, j < n → F j = none
  | some (m, k) => ∃ j : Nat, k = j ∧ j < n ∧ F j = some m ∧ ∀ j', j' < n → ∀ m', F j' = some m' → m < m' ∨ (m = m' ∧ j ≤ j')
theorem DueIs.same {n : Nat} {F : Nat → Option Int} {a b : Option (Int × Int)} (h1 : DueIs n F a) (h2 : DueIs n F b) : a = b := by
  match a, b, h1, h2 with
  | none, none, _, _ => rfl
  | none, some (m, k), h1, ⟨j, _, hj, e, _⟩ =>
    have h1' : ∀ j, j < n → F j = none := h1
    rw [h1' j hj] at e
    cases e
  | some (m, k), none, ⟨j, _, hj, e, _⟩, h2 =>
    have h2' : ∀ j, j < n → F j = none := h2
    rw [h2' j hj] at e
    cases e
  | some (m, k), some (m', k'), ⟨j, ek, hj, e, l⟩, ⟨j', ek', hj', e', l'⟩ =>
    have a1 := l j' hj' m' e'
    have a2 := l' j hj m e
    have : m = m' ∧ j = j' := by omega
    rw [ek, ek', this.1, this.2]
theorem absI_iff {T g : Int} : T ≤ absI g ↔ (T ≤ g ∨ g ≤ -T) := by
  unfold absI
  split <;> omega
theorem dueR_is {T : Int} {ps : List Int} : ∀ (ls : List (List Int)) (t : Int) (gs : List Int), gs.length = ps.length → DueIs ps.length (fun j => offS T (ps.getD j 0) j t (gs.getD j 0) ls) (dueR T (t + 1) (lagR T ps gs ls))
  | [], t, gs, _ => fun j _ => rfl
  | row :: ls, t, gs, hl => by
    have hl2 := nxR_len T row 0 ps gs hl
    have at_ : ∀ j, j < ps.length → (nxR T row 0 ps gs)[j]? = some (gs.getD j 0 + ps.getD j 0 - T * bitR (j : Int) row) := fun j hj => by
      have e1 : ps[j]? = some (ps.getD j 0) := by rw [List.getD_eq_getElem?_getD, List.getElem?_eq_getElem hj]; rfl
      have e2 : gs[j]? = some (gs.getD j 0) := by rw [List.getD_eq_getElem?_getD, List.getElem?_eq_getElem (by omega)]; rfl
      have := nxR_get T row 0 ps gs j _ _ e1 e2
      rwa [Nat.zero_add] at this
    rw [lagR, dueR]
    cases hh : hitR T 0 (nxR T row 0 ps gs) with
    | some k =>
      obtain ⟨j, g, ek, e2, e3, e4⟩ := hitR_some _ _ _ hh
      have hj : j < ps.length := by
        have := (List.getElem?_eq_some_iff.mp e2).1
        omega
      rw [at_ j hj] at e2
      cases e2
      refine ⟨j, by omega, hj, ?_, fun j' hj' m' e' => ?_⟩
      · show offS _ _ _ _ _ (row :: ls) = _
        rw [offS, if_pos (absI_iff.mp e3)]
      · have e5 : offS T (ps.getD j' 0) j' t (gs.getD j' 0) (row :: ls) = some m' := e'
        have gt := offS_gt _ _ _ _ e5
        rw [offS] at e5
        split at e5
        · rename_i c
          cases e5
          exact .inr ⟨rfl, e4 j' _ (at_ j' hj') (absI_iff.mpr c)⟩
        · have := offS_gt _ _ _ _ e5
          exact .inl (by omega)
    | none =>
      have no := hitR_none _ _ hh
      have ih := dueR_is (T := T) ls (t + 1) (nxR T row 0 ps gs) hl2
      have key : ∀ j, j < ps.length → offS T (ps.getD j 0) j t (gs.getD j 0) (row :: ls) = offS T (ps.getD j 0) j (t + 1) ((nxR T row 0 ps gs).getD j 0) ls := fun j hj => by
        have a := no j _ (at_ j hj)
        have c : ¬ (T ≤ gs.getD j 0 + ps.getD j 0 - T * bitR (j : Int) row ∨ gs.getD j 0 + ps.getD j 0 - T * bitR (j : Int) row ≤ -T) := fun q => by
          have := absI_iff.mpr q
          omega
        rw [offS, if_neg c, List.getD_eq_getElem?_getD (l := nxR T row 0 ps gs), at_ j hj]
        rfl
      revert ih
      show DueIs _ _ (dueR T (t + 1 + 1) _) → DueIs _ _ (dueR T (t + 1 + 1) _)
      cases dueR T (t + 1 + 1) (lagR T ps (nxR T row 0 ps gs) ls) with
      | none =>
        intro ih j hj
        have ih' : ∀ j, j < ps.length → _ := ih
        exact (key j hj).trans (ih' j hj)
      | some z =>
        obtain ⟨m, k⟩ := z
        rintro ⟨j, ek, hj, e, l⟩
        exact ⟨j, ek, hj, (key j hj).trans e, fun j' hj' m' e' => l j' hj' m' ((key j' hj').symm.trans e')⟩
/-! the least of the pairs -/
theorem minP_least : ∀ (zs : List (Int × Int)) (z : Int × Int), minP z zs ∈ z :: zs ∧ ∀ y ∈ z :: zs, (minP z zs).1 < y.1 ∨ ((minP z zs).1 = y.1 ∧ (minP z zs).2 ≤ y.2)
  | [], z => ⟨List.mem_cons_self, fun y h => by
    rw [List.mem_singleton] at h
    subst h
    exact .inr ⟨rfl, Int.le_refl _⟩⟩
  | x :: zs, z => by
    have e : minP z (x :: zs) = minP (if ltP x z then x else z) zs := rfl
    rw [e]
    by_cases h : ltP x z = true
    · rw [if_pos h]
      obtain ⟨h1, h2⟩ := minP_least zs x
      have q := of_decide_eq_true h
      refine ⟨List.mem_cons_of_mem _ h1, fun y hy => ?_⟩
      rcases List.mem_cons.mp hy with rfl | hy
      · have := h2 x List.mem_cons_self
        omega
      · exact h2 y hy
    · rw [if_neg h]
      obtain ⟨h1, h2⟩ := minP_least zs z
      have q : ¬ (x.1 < z.1 ∨ (x.1 = z.1 ∧ x.2 < z.2)) := fun q => h (decide_eq_true q)
      refine ⟨?_, fun y hy => ?_⟩
      · rcases List.mem_cons.mp h1 with c | c
        · rw [c]
          exact List.mem_cons_self
        · exact List.mem_cons_of_mem _ (List.mem_cons_of_mem _ c)
      · rcases List.mem_cons.mp hy with rfl | hy
        · exact h2 y List.mem_cons_self
        · rcases List.mem_cons.mp hy with rfl | hy
          · have := h2 z List.mem_cons_self
            omega
          · exact h2 y (List.mem_cons_of_mem _ hy)
def pairsO : Nat → List (Option Int) → List (Int × Int)
  | _, [] => []
  | i, some m :: os => (m, (i : Int)) :: pairsO (i + 1) os
  | i, none :: os => pairsO (i + 1) os
theorem pairsO_mem : ∀ (os : List (Option Int)) (i : Nat) (z : Int × Int), z ∈ pairsO i os ↔ ∃ (k : Nat) (m : Int), os[k]? = some (some m) ∧ z = (m, ((i + k : Nat) : Int))
  | [], i, z => by simp [pairsO]
  | o :: os, i, z => by
    have ih := pairsO_mem os (i + 1) z
    have tail : z ∈ pairsO (i + 1) os ↔ ∃ (k : Nat) (m : Int), os[k]? = some (some m) ∧ z = (m, ((i + (k + 1) : Nat) : Int)) := by
      rw [ih]
      constructor
      · rintro ⟨k, m, h, e⟩
        exact ⟨k, m, h, by rw [e, show i + 1 + k = i + (k + 1) by omega]⟩
      · rintro ⟨k, m, h, e⟩
        exact ⟨k, m, h, by rw [e, show i + 1 + k = i + (k + 1) by omega]⟩
    cases o with
    | none =>
      rw [pairsO, tail]
      constructor
      · rintro ⟨k, m, h, e⟩
        exact ⟨k + 1, m, by simpa using h, e⟩
      · rintro ⟨k, m, h, e⟩
        cases k with
        | zero => simp at h
        | succ k => exact ⟨k, m, by simpa using h, e⟩
    | some m0 =>
      rw [pairsO, List.mem_cons, tail]
      constructor
      · rintro (h | ⟨k, m, h, e⟩)
        · exact ⟨0, m0, rfl, h⟩
        · exact ⟨k + 1, m, by simpa using h, e⟩
      · rintro ⟨k, m, h, e⟩
        cases k with
        | zero =>
          simp at h
          subst h
          exact .inl e
        | succ k => exact .inr ⟨k, m, by simpa using h, e⟩
def minO : List (Int × Int) → Option (Int × Int)
  | [] => none
  | z :: zs => some (minP z zs)
theorem minO_is (n : Nat) (F : Nat → Option Int) : DueIs n F (minO (pairsO 0 ((List.range n).map F))) := by
  have mem := pairsO_mem ((List.range n).map F) 0
  have at_ : ∀ (k : Nat) (m : Int), ((List.range n).map F)[k]? = some (some m) ↔ k < n ∧ F k = some m := fun k m => by
    rw [List.getElem?_map]
    by_cases h : k < n
    · rw [List.getElem?_range h]
      simp [h]
    · rw [List.getElem?_eq_none (by rw [List.length_range]; omega)]
      simp [h]
  cases hz : pairsO 0 ((List.range n).map F) with
  | nil =>
    intro j hj
    cases hF : F j with
    | none => rfl
    | some m =>
      have := (mem (m, ((0 + j : Nat) : Int))).mpr ⟨j, m, (at_ j m).mpr ⟨hj, hF⟩, rfl⟩
      rw [hz] at this
      cases this
  | cons z zs =>
    rw [hz] at mem
    obtain ⟨h1, h2⟩ := minP_least zs z
    obtain ⟨k, m, hk, e⟩ := (mem _).mp h1
    obtain ⟨hk1, hk2⟩ := (at_ k m).mp hk
    show DueIs n F (some (minP z zs))
    rw [e] at h2 ⊢
    refine ⟨k, by rw [Nat.zero_add], hk1, hk2, fun j' hj' m' e' => ?_⟩
    have := h2 (m', ((0 + j' : Nat) : Int)) ((mem _).mpr ⟨j', m', (at_ j' m').mpr ⟨hj', e'⟩, rfl⟩)
    simp only [Nat.zero_add] at this
    omega
/-- the program's answer is the law's -/
theorem due_same {T : Int} {ps : List Int} (hT : 0 < T) (hp : ∀ p ∈ ps, 1 ≤ p ∧ p ≤ T) (ls : List (List Int)) :
    minO (pairsO 0 ((List.range ps.length).map fun j => offM T (ps.getD j 0) ls.length 0 (tkI j 0 ls))) = dueR T 0 (List.replicate ps.length 0 :: lagR T ps (List.replicate ps.length 0) ls) := by
  have h0 : hitR T 0 (List.replicate ps.length 0) = none := by
    cases h : hitR T 0 (List.replicate ps.length 0) with
    | none => rfl
    | some k =>
      obtain ⟨j, g, _, e, c, _⟩ := hitR_some _ _ _ h
      have : g = 0 := by
        have := List.mem_of_getElem? e
        exact (List.mem_replicate.mp this).2
      subst this
      have := absI_iff.mp c
      omega
  have e0 : dueR T 0 (List.replicate ps.length 0 :: lagR T ps (List.replicate ps.length 0) ls) = dueR T (0 + 1) (lagR T ps (List.replicate ps.length 0) ls) := by
    rw [dueR, h0]
  rw [e0]
  have a := dueR_is (T := T) (ps := ps) ls 0 (List.replicate ps.length 0) (List.length_replicate ..)
  have b := minO_is ps.length fun j => offM T (ps.getD j 0) ls.length 0 (tkI j 0 ls)
  refine DueIs.same b ?_
  have same : ∀ j, j < ps.length → offM T (ps.getD j 0) ls.length 0 (tkI j 0 ls) = offS T (ps.getD j 0) j 0 ((List.replicate ps.length 0).getD j 0) ls := fun j hj => by
    have hm : ps.getD j 0 ∈ ps := by
      rw [List.getD_eq_getElem?_getD, List.getElem?_eq_getElem hj]
      exact List.getElem_mem hj
    obtain ⟨p1, p2⟩ := hp _ hm
    have z : (List.replicate ps.length (0 : Int)).getD j 0 = 0 := by
      rw [List.getD_eq_getElem?_getD, List.getElem?_replicate, if_pos hj]
      rfl
    rw [z]
    exact offM_eq (j : Int) (by omega) p2 ls 0 0 0 (by omega) (by omega) (by omega) (by omega)
  revert a
  cases dueR T (0 + 1) (lagR T ps (List.replicate ps.length 0) ls) with
  | none =>
    intro a j hj
    have a' : ∀ j, j < ps.length → _ := a
    exact (same j hj).trans (a' j hj)
  | some z =>
    obtain ⟨m, k⟩ := z
    rintro ⟨j, ek, hj, e, l⟩
    exact ⟨j, ek, hj, (same j hj).trans e, fun j' hj' m' e' => l j' hj' m' ((same j' hj').symm.trans e')⟩
end Dx

/-! plans by first ends are never off; nor are the plans of those who wait -/
namespace Dx
open PySem PySem.Spec PyProof.Rows L2
def rowI : Option Nat → List Int
  | some k => [(k : Int)]
  | none => []
def linesFrom (T : Int) (ps : List Int) : Nat → Nat → List (List Int)
  | _, 0 => []
  | t, k + 1 => rowI (chAt T ps t) :: linesFrom T ps (t + 1) k
theorem lines_len (T : Int) (ps : List Int) : ∀ (k t : Nat), (linesFrom T ps t k).length = k
  | 0, _ => rfl
  | k + 1, t => by rw [linesFrom, List.length_cons, lines_len T ps k (t + 1)]
theorem bit_row (i : Nat) (o : Option Nat) : bitR (i : Int) (rowI o) = if o = some i then 1 else 0 := by
  cases o with
  | none => rfl
  | some k =>
    unfold bitR rowI
    by_cases h : k = i
    · subst h
      simp
    · have : ¬ (i : Int) ∈ [(k : Int)] := fun m => h (by rw [List.mem_singleton] at m; omega)
      rw [if_neg this, if_neg (fun q => h (Option.some.inj q))]
theorem nx_is (T : Int) (o : Option Nat) : ∀ (ps gs : List Int) (i : Nat), nxR T (rowI o) i ps gs = nextL T o i ps gs
  | [], gs, i => by cases gs <;> rfl
  | p :: ps, [], i => rfl
  | p :: ps, g :: gs, i => by
    rw [nxR, nextL, nx_is T o ps gs (i + 1), bit_row]
theorem lag_rows (T : Int) (ps : List Int) : ∀ (k t : Nat) (gs : List Int), gs ∈ lagR T ps (lagsAt T ps t) (linesFrom T ps t k) → ∃ s, gs = lagsAt T ps s
  | 0, t, gs, h => by cases h
  | k + 1, t, gs, h => by
    have e : nxR T (rowI (chAt T ps t)) 0 ps (lagsAt T ps t) = lagsAt T ps (t + 1) := nx_is T _ ps _ 0
    rw [linesFrom, lagR, e, List.mem_cons] at h
    rcases h with h | h
    · exact ⟨t + 1, h⟩
    · exact lag_rows T ps k (t + 1) gs h
theorem hit_zero {T : Int} : ∀ (gs : List Int) (i : Nat), (∀ g ∈ gs, absI g < T) → hitR T i gs = none
  | [], i, h => rfl
  | g :: gs, i, h => by
    have := h g List.mem_cons_self
    rw [hitR, if_neg (by omega)]
    exact hit_zero gs (i + 1) fun x hx => h x (List.mem_cons_of_mem _ hx)
theorem dueR_zero {T : Int} : ∀ (rows : List (List Int)) (t : Int), (∀ gs ∈ rows, ∀ g ∈ gs, absI g < T) → dueR T t rows = none
  | [], t, h => rfl
  | gs :: rows, t, h => by
    rw [dueR, hit_zero gs 0 (h gs List.mem_cons_self)]
    exact dueR_zero rows (t + 1) fun x hx => h x (List.mem_cons_of_mem _ hx)
theorem absI_lt {T g : Int} (h1 : g < T) (h2 : -T < g) : absI g < T := by
  unfold absI
  split <;> omega
theorem lags_small {T : Int} {ps : List Int} (hT : 1 ≤ T) (hp : ∀ p ∈ ps, 1 ≤ p) (cap : ps.sum ≤ T) (s : Nat) : ∀ g ∈ lagsAt T ps s, absI g < T := fun g hg => by
  obtain ⟨j, hj⟩ := List.mem_iff_getElem?.mp hg
  have hl : j < ps.length := by
    have := (List.getElem?_eq_some_iff.mp hj).1
    rw [lagsAt_len] at this
    exact this
  have e := lagsAt_get T ps (List.getElem?_eq_getElem hl) s
  rw [e] at hj
  cases hj
  have := run_even hT hp cap (List.getElem?_eq_getElem hl) s
  exact absI_lt this.1 this.2
theorem zeros_small {T : Int} (hT : 1 ≤ T) (n : Nat) : ∀ g ∈ List.replicate n (0 : Int), absI g < T := fun g hg => by
  rw [(List.mem_replicate.mp hg).2]
  exact absI_lt (by omega) (by omega)
theorem even_ends {T : Int} {ps : List Int} (hT : 1 ≤ T) (hp : ∀ p ∈ ps, 1 ≤ p) (cap : ps.sum ≤ T) (k : Nat) : dueR T 0 (List.replicate ps.length 0 :: lagR T ps (List.replicate ps.length 0) (linesFrom T ps 0 k)) = none := by
  refine dueR_zero _ _ fun gs h => ?_
  rcases List.mem_cons.mp h with h | h
  · rw [h]
    exact zeros_small hT _
  · obtain ⟨s, e⟩ := lag_rows T ps k 0 gs h
    rw [e]
    exact lags_small hT hp cap s
theorem pick_lt {T : Int} {ps gs : List Int} {k : Nat} (h : pickL T ps gs = some k) : k < ps.length := by
  have mem := candL_mem T ps gs 0
  unfold pickL at h
  revert h
  cases hc : candL T 0 ps gs with
  | nil => intro h; cases h
  | cons z zs =>
    intro h
    rw [hc] at mem
    obtain ⟨j, p, g, h1, _, _, e⟩ := (mem _).mp (minP_least zs z).1
    have := (List.getElem?_eq_some_iff.mp h1).1
    have h' : (minP z zs).2.toNat = k := Option.some.inj h
    rw [e] at h'
    omega
/-! the sum of the lags -/
theorem next_sum (T : Int) (o : Option Nat) : ∀ (ps gs : List Int) (i : Nat), gs.length = ps.length → (nextL T o i ps gs).sum = gs.sum + ps.sum - T * (match o with
    | some k => if i ≤ k ∧ k < i + ps.length then 1 else 0
    | none => 0)
  | [], gs, i, h => by
    have : gs = [] := List.length_eq_zero_iff.mp h
    subst this
    cases o with
    | none => simp [nextL]
    | some k =>
      have : ¬ (i ≤ k ∧ k < i + 0) := by omega
      show (0 : Int) = 0 + 0 - T * (if i ≤ k ∧ k < i + 0 then 1 else 0)
      rw [if_neg this]
      omega
  | p :: ps, [], i, h => by simp at h
  | p :: ps, g :: gs, i, h => by
    have ih := next_sum T o ps gs (i + 1) (by simpa using h)
    rw [nextL, List.sum_cons, List.sum_cons, List.sum_cons, ih]
    cases o with
    | none =>
      simp
      omega
    | some k =>
      simp only [Option.some.injEq, List.length_cons]
      by_cases a : k = i
      · rw [if_pos a, if_neg (by omega), if_pos (by omega)]
        omega
      · rw [if_neg a]
        by_cases b : i + 1 ≤ k ∧ k < i + 1 + ps.length
        · rw [if_pos b, if_pos (by omega)]
          omega
        · rw [if_neg b, if_neg (by omega)]
          omega
theorem sum_pos : ∀ (ps gs : List Int), gs.length = ps.length → 0 < gs.sum + ps.sum → ∃ (k : Nat) (p g : Int), ps[k]? = some p ∧ gs[k]? = some g ∧ 0 < g + p
  | [], gs, h, hs => by
    have : gs = [] := List.length_eq_zero_iff.mp h
    subst this
    simp at hs
  | p :: ps, [], h, hs => by simp at h
  | p :: ps, g :: gs, h, hs => by
    rw [List.sum_cons, List.sum_cons] at hs
    by_cases c : 0 < g + p
    · exact ⟨0, p, g, rfl, rfl, c⟩
    · obtain ⟨k, p', g', h1, h2, h3⟩ := sum_pos ps gs (by simpa using h) (by omega)
      exact ⟨k + 1, p', g', by simpa using h1, by simpa using h2, h3⟩
theorem pick_one {T : Int} {ps gs : List Int} (hl : gs.length = ps.length) (hs : 0 < gs.sum + ps.sum) : ∃ k, pickL T ps gs = some k ∧ k < ps.length := by
  obtain ⟨j, p, g, h1, h2, h3⟩ := sum_pos ps gs hl hs
  have m := (candL_mem T ps gs 0 _).mpr ⟨j, p, g, h1, h2, h3, rfl⟩
  cases hc : candL T 0 ps gs with
  | nil =>
    rw [hc] at m
    cases m
  | cons z zs =>
    have e : pickL T ps gs = some (minP z zs).2.toNat := by
      unfold pickL
      rw [hc]
    exact ⟨_, e, pick_lt e⟩
theorem full_sum {T : Int} {ps : List Int} (hT : 1 ≤ T) (full : ps.sum = T) : ∀ t : Nat, (lagsAt T ps t).sum = 0 ∧ ∃ k, chAt T ps t = some k ∧ k < ps.length
  | 0 => by
    have z : (lagsAt T ps 0).sum = 0 := by
      show (List.replicate ps.length (0 : Int)).sum = 0
      exact sum_zeros _
    exact ⟨z, pick_one (lagsAt_len T ps 0) (by omega)⟩
  | t + 1 => by
    obtain ⟨a, k, b, hk⟩ := full_sum hT full t
    have b' : pickL T ps (lagsAt T ps t) = some k := b
    have z : (lagsAt T ps (t + 1)).sum = 0 := by
      show (nextL T (pickL T ps (lagsAt T ps t)) 0 ps (lagsAt T ps t)).sum = 0
      rw [next_sum T _ ps _ 0 (lagsAt_len T ps t), b', a, full]
      show 0 + T - T * (if 0 ≤ k ∧ k < 0 + ps.length then 1 else 0) = 0
      rw [if_pos (by omega)]
      omega
    exact ⟨z, pick_one (lagsAt_len T ps (t + 1)) (by omega)⟩
/-! those who wait -/
def waitRow (n : Nat) (row : List Int) : List Int := ((List.range n).map fun i : Nat => (i : Int)).filter fun x => !decide (x ∈ row)
theorem bit_wait {n : Nat} {row : List Int} {i : Nat} (h : i < n) : bitR (i : Int) (waitRow n row) = 1 - bitR (i : Int) row := by
  have m : (i : Int) ∈ waitRow n row ↔ ¬ (i : Int) ∈ row := by
    unfold waitRow
    rw [List.mem_filter, List.mem_map]
    constructor
    · rintro ⟨_, h2⟩
      simpa using h2
    · intro h2
      exact ⟨⟨i, List.mem_range.mpr h, rfl⟩, by simpa using h2⟩
  unfold bitR
  by_cases c : (i : Int) ∈ row
  · rw [if_pos c, if_neg (fun q => m.mp q c)]
    rfl
  · rw [if_neg c, if_pos (m.mpr c)]
    rfl
theorem nx_wait (T : Int) (n : Nat) (row : List Int) : ∀ (ps gs : List Int) (i : Nat), i + ps.length ≤ n → nxR T (waitRow n row) i (ps.map fun p => T - p) (gs.map fun g => -g) = (nxR T row i ps gs).map fun g => -g
  | [], gs, i, h => by cases gs <;> rfl
  | p :: ps, [], i, h => rfl
  | p :: ps, g :: gs, i, h => by
    rw [List.length_cons] at h
    have b := bit_wait (row := row) (show i < n by omega)
    rw [List.map_cons, List.map_cons, nxR, nxR, List.map_cons, nx_wait T n row ps gs (i + 1) (by omega), b]
    refine congrArg (· :: _) ?_
    rw [Int.mul_sub, Int.mul_one]
    omega
theorem lag_wait (T : Int) (ps : List Int) : ∀ (ls : List (List Int)) (gs : List Int), lagR T (ps.map fun p => T - p) (gs.map fun g => -g) (ls.map (waitRow ps.length)) = (lagR T ps gs ls).map fun gs => gs.map fun g => -g
  | [], gs => rfl
  | row :: ls, gs => by
    rw [List.map_cons, lagR, lagR, List.map_cons, nx_wait T ps.length row ps gs 0 (by omega), lag_wait T ps ls]
theorem even_wait {T : Int} {ps : List Int} (hT : 1 ≤ T) (hp : ∀ p ∈ ps, 1 ≤ p) (cap : ps.sum ≤ T) (k : Nat) :
    dueR T 0 (List.replicate (ps.map fun p => T - p).length 0 :: lagR T (ps.map fun p => T - p) (List.replicate (ps.map fun p => T - p).length 0) ((linesFrom T ps 0 k).map (waitRow ps.length))) = none := by
  have z : List.replicate (ps.map fun p => T - p).length (0 : Int) = (List.replicate ps.length (0 : Int)).map fun g => -g := by
    rw [List.map_replicate, List.length_map]
    rfl
  refine dueR_zero _ _ fun gs h => ?_
  rcases List.mem_cons.mp h with h | h
  · rw [h]
    exact zeros_small hT _
  · rw [z, lag_wait, List.mem_map] at h
    obtain ⟨hs, h1, h2⟩ := h
    obtain ⟨s, e⟩ := lag_rows T ps k 0 hs h1
    rw [← h2, e]
    intro g hg
    obtain ⟨x, hx, rfl⟩ := List.mem_map.mp hg
    have := lags_small hT hp cap s x hx
    unfold absI at *
    split at this <;> split <;> omega
theorem range_up (n : Nat) : ((List.range n).map fun i : Nat => (i : Int)).Pairwise (· < ·) := by
  rw [List.pairwise_map]
  have q : (List.range n).Pairwise (· < ·) := by first | exact List.pairwise_lt_range | exact List.pairwise_lt_range _
  exact q.imp fun h => by omega
theorem wait_ok (n : Nat) (row : List Int) : LineOk n (waitRow n row) := by
  refine ⟨(range_up n).filter _, fun x hx => ?_, fun x hx => ?_⟩
  · obtain ⟨i, _, rfl⟩ := List.mem_map.mp (List.mem_filter.mp hx).1
    omega
  · obtain ⟨i, hi, rfl⟩ := List.mem_map.mp (List.mem_filter.mp hx).1
    have := List.mem_range.mp hi
    omega
theorem filter_lt {A : Type} (f : A → Bool) : ∀ (xs : List A) (x : A), x ∈ xs → f x = false → (xs.filter f).length + 1 ≤ xs.length
  | [], x, h, _ => by cases h
  | y :: ys, x, h, hf => by
    rw [List.length_cons]
    rcases List.mem_cons.mp h with e | h
    · subst e
      rw [List.filter_cons, hf]
      have := List.length_filter_le f ys
      simp
      exact this
    · have := filter_lt f ys x h hf
      rw [List.filter_cons]
      split
      · rw [List.length_cons]
        omega
      · omega
theorem wait_len {n k : Nat} (h : k < n) : (waitRow n (rowI (some k))).length + 1 ≤ n := by
  have := filter_lt (fun x => !decide (x ∈ rowI (some k))) ((List.range n).map fun i : Nat => (i : Int)) (k : Int) (List.mem_map.mpr ⟨k, List.mem_range.mpr h, rfl⟩) (by simp [rowI])
  rw [List.length_map, List.length_range] at this
  exact this
theorem wait_le (n : Nat) (row : List Int) : (waitRow n row).length ≤ n := by
  have := List.length_filter_le (fun x => !decide (x ∈ row)) ((List.range n).map fun i : Nat => (i : Int))
  rw [List.length_map, List.length_range] at this
  exact this
theorem row_ok {n : Nat} {o : Option Nat} (h : ∀ k, o = some k → k < n) : LineOk n (rowI o) ∧ (rowI o).length ≤ 1 := by
  cases o with
  | none => exact ⟨⟨List.Pairwise.nil, fun x hx => (nomatch hx), fun x hx => (nomatch hx)⟩, Nat.zero_le _⟩
  | some k =>
    have := h k rfl
    refine ⟨⟨List.pairwise_singleton _ _, fun x hx => ?_, fun x hx => ?_⟩, Nat.le_refl _⟩ <;>
    · rw [rowI, List.mem_singleton] at hx
      omega
theorem mem_lines (T : Int) (ps : List Int) : ∀ (k t : Nat) (row : List Int), row ∈ linesFrom T ps t k → ∃ s, row = rowI (chAt T ps s)
  | 0, t, row, h => by cases h
  | k + 1, t, row, h => by
    rw [linesFrom, List.mem_cons] at h
    rcases h with h | h
    · exact ⟨t, h⟩
    · exact mem_lines T ps k (t + 1) row h
end Dx

/-! plans as data: their shape, their text, their parts -/
namespace Dx
open PySem PySem.Spec PyProof.Rows L2
theorem lay_dI : ∀ h : List Int, PyData.canLayAll0 (dI h) = true ∧ PyData.depthAll (dI h) ≤ 1
  | [] => by simp [dI, PyData.canLayAll0, PyData.depthAll]
  | x :: h => by
    obtain ⟨a, b⟩ := lay_dI h
    refine ⟨?_, ?_⟩
    · simp only [dI, List.map_cons, PyData.canLayAll0, PyData.canLay0] at a ⊢
      simp [a]
    · simp only [dI, List.map_cons, PyData.depthAll, PyData.depth] at b ⊢
      omega
theorem lay_plan : ∀ ls : List (List Int), PyData.canLayAll0 (ls.map rowD) = true ∧ PyData.depthAll (ls.map rowD) ≤ 2
  | [] => by simp [PyData.canLayAll0, PyData.depthAll]
  | h :: ls => by
    obtain ⟨a, b⟩ := lay_plan ls
    obtain ⟨c, d⟩ := lay_dI h
    refine ⟨?_, ?_⟩
    · simp [PyData.canLayAll0, PyData.canLay0, rowD, a, c]
    · have e1 : (rowD h).depth ≤ 2 := by
        unfold rowD
        rw [PyData.depth]
        omega
      simp only [List.map_cons, PyData.depthAll]
      omega
theorem shaped_plan (ls : List (List Int)) : SeqAt.shaped (planD ls) = true := by
  obtain ⟨a, b⟩ := lay_plan ls
  unfold SeqAt.shaped planD
  rw [PyData.canLay0, PyData.depth, a, Bool.true_and]
  exact decide_eq_true (by omega)
theorem eqv_nil (ls : List (List Int)) : PyData.eqv (planD ls) (.list []) = ls.isEmpty := by
  cases ls <;> rfl
theorem eq_plan (ls : List (List Int)) : fEq (planD ls) (.list []) = some (.bool ls.isEmpty) := by
  have e1 := shaped_plan ls
  have e3 : SeqAt.shaped (.list []) = true := PySem.W.ke_shaped_ints []
  have e4 := eqv_nil ls
  unfold planD at *
  simp [fEq, orD, fEqS, fEqD, e1, e3, e4]
theorem ne_plan (ls : List (List Int)) : fNe (planD ls) (.list []) = some (.bool (!ls.isEmpty)) := by
  have e1 := shaped_plan ls
  have e3 : SeqAt.shaped (.list []) = true := PySem.W.ke_shaped_ints []
  have e4 := eqv_nil ls
  unfold planD at *
  simp [fNe, orD, fNeS, fNeD, e1, e3, e4]
theorem cut_to {ds : List PyData} {a : Int} (h0 : 0 ≤ a) (h1 : a ≤ ds.length) : cutD ds none (some a) = ds.take a.toNat := by
  have e : a = (a.toNat : Int) := by omega
  have hn : a.toNat ≤ ds.length := by omega
  unfold cutD
  rw [HT.sIx_none, e, HT.sIx_nat, List.drop_zero, Int.toNat_natCast, Nat.sub_zero, Nat.min_eq_left hn]
theorem cut_from {ds : List PyData} {a : Int} (h0 : 0 ≤ a) (h1 : a ≤ ds.length) : cutD ds (some a) none = ds.drop a.toNat := by
  have e : a = (a.toNat : Int) := by omega
  have hn : a.toNat ≤ ds.length := by omega
  unfold cutD
  rw [HT.sIx_none, e, HT.sIx_nat, Int.toNat_natCast, Nat.min_eq_left hn]
  exact List.take_of_length_le (by rw [List.length_drop]; omega)
/-! texts -/
theorem up_len (n : Int) : ∀ (row : List Int) (a : Int), row.Pairwise (· < ·) → (∀ x ∈ row, a ≤ x) → (∀ x ∈ row, x < n) → row = [] ∨ (row.length : Int) ≤ n - a
  | [], a, _, _, _ => .inl rfl
  | x :: row, a, hu, h0, h1 => by
    obtain ⟨u1, u2⟩ := List.pairwise_cons.mp hu
    have hx := h0 x List.mem_cons_self
    have hy := h1 x List.mem_cons_self
    refine .inr ?_
    rw [List.length_cons]
    rcases up_len n row (x + 1) u2 (fun y hy => by have := u1 y hy; omega) (fun y hy => h1 y (List.mem_cons_of_mem _ hy)) with h | h
    · rw [h, List.length_nil]
      omega
    · omega
theorem LineOk.len {n : Nat} {row : List Int} (h : LineOk n row) : row.length ≤ n := by
  rcases up_len n row 0 h.up h.low h.high with e | e
  · rw [e]
    exact Nat.zero_le _
  · omega
theorem LineOk.nrm {n : Nat} {row : List Int} (h : LineOk n row) (hn : n ≤ 1000) : ∀ x ∈ row, Nrm x := fun x hx => by
  have a := h.low x hx
  have b := h.high x hx
  unfold Nrm
  omega
theorem shw_row {n : Nat} {row : List Int} (h : LineOk n row) (hn : n ≤ 12) : Shw 1300 2 (rowD row) := by
  have l := h.len
  exact (shw_ints (h.nrm (by omega))).le (by omega) (by omega)
theorem shw_plan {n : Nat} {ls : List (List Int)} (h : ∀ row ∈ ls, LineOk n row) (hn : n ≤ 12) (hl : ls.length ≤ 1000) : Shw 1400000 3 (planD ls) := by
  have q := shw_list (ds := ls.map rowD) (L := 1300) (D := 2) fun d hd => by
    obtain ⟨row, hr, rfl⟩ := List.mem_map.mp hd
    exact shw_row (h row hr) hn
  rw [List.length_map] at q
  exact q.le (by omega) (by omega)
theorem shw_two {L D : Nat} {d e : PyData} (h1 : Shw L D d) (h2 : Shw L D e) : Shw (2 * L + 7) (D + 1) (.list [d, e]) := by
  have q := shw_list (ds := [d, e]) (L := L) (D := D) fun x hx => by
    rcases List.mem_cons.mp hx with rfl | hx
    · exact h1
    · rw [List.mem_singleton.mp hx]
      exact h2
  exact q.le (by simp only [List.length_cons, List.length_nil]; omega) (Nat.le_refl _)
theorem shw_tup2 {L D : Nat} {d e : PyData} (h1 : Shw L D d) (h2 : Shw L D e) : Shw (2 * L + 7) (D + 1) (.tuple [d, e]) := by
  have q := shw_tup (ds := [d, e]) (L := L) (D := D) fun x hx => by
    rcases List.mem_cons.mp hx with rfl | hx
    · exact h1
    · rw [List.mem_singleton.mp hx]
      exact h2
  exact q.le (by simp only [List.length_cons, List.length_nil]; omega) (Nat.le_refl _)
theorem shw_none : Shw 101 1 .none := ⟨by decide +kernel, by decide +kernel, by decide +kernel⟩
theorem shw_bool (b : Bool) : Shw 101 1 (.bool b) := by
  cases b <;> exact ⟨by decide +kernel, by decide +kernel, by decide +kernel⟩
/-! bounds of the first moment -/
theorem dueR_bd {T : Int} {n : Nat} : ∀ (rows : List (List Int)) (t m k : Int), (∀ gs ∈ rows, gs.length ≤ n) → dueR T t rows = some (m, k) → t ≤ m ∧ m < t + rows.length ∧ 0 ≤ k ∧ k < n
  | [], t, m, k, h, e => by cases e
  | gs :: rows, t, m, k, h, e => by
    rw [dueR] at e
    rw [List.length_cons]
    cases hh : hitR T 0 gs with
    | some j =>
      rw [hh] at e
      cases e
      obtain ⟨i, g, ei, eg, _, _⟩ := hitR_some _ _ _ hh
      have := (List.getElem?_eq_some_iff.mp eg).1
      have := h gs List.mem_cons_self
      omega
    | none =>
      rw [hh] at e
      have := dueR_bd rows (t + 1) m k (fun x hx => h x (List.mem_cons_of_mem _ hx)) e
      omega
theorem lagR_len (T : Int) (ps : List Int) : ∀ (ls : List (List Int)) (gs : List Int), gs.length = ps.length → (lagR T ps gs ls).length = ls.length ∧ ∀ x ∈ lagR T ps gs ls, x.length = ps.length
  | [], gs, h => ⟨rfl, fun x hx => by cases hx⟩
  | row :: ls, gs, h => by
    have h2 := nxR_len T row 0 ps gs h
    obtain ⟨a, b⟩ := lagR_len T ps ls (nxR T row 0 ps gs) h2
    rw [lagR]
    refine ⟨by rw [List.length_cons, a, List.length_cons], fun x hx => ?_⟩
    rcases List.mem_cons.mp hx with e | hx
    · rw [e, h2]
    · exact b x hx
theorem due_bd {T : Int} {ps : List Int} {ls : List (List Int)} {m k : Int} (e : dueR T 0 (List.replicate ps.length 0 :: lagR T ps (List.replicate ps.length 0) ls) = some (m, k)) : 0 ≤ m ∧ m ≤ ls.length ∧ 0 ≤ k ∧ k < ps.length := by
  have hz : (List.replicate ps.length (0 : Int)).length = ps.length := List.length_replicate ..
  obtain ⟨a, b⟩ := lagR_len T ps ls (List.replicate ps.length 0) hz
  have := dueR_bd (n := ps.length) _ 0 m k (fun gs h => by
    rcases List.mem_cons.mp h with q | h
    · rw [q, hz]
      exact Nat.le_refl _
    · rw [b gs h]
      exact Nat.le_refl _) e
  rw [List.length_cons, a] at this
  omega
/-! calls -/
theorem callk_rt {f : List Cell → SR} {D P d : PyData} {cs : Ev} (h1 : f [.v D, .v P] = .rt d [.u, .u]) : (mCallK 2 0 [1, 0] f (mpure []) (mCons (mVar 1) (mCons (mVar 0) (mpure []))) 2) (.v D :: .v P :: cs) = .ok d (.v D :: .v P :: cs) := by
  have pk : pick [1, 0] [] [Arg.d P, Arg.d D] = [Arg.d D, Arg.d P] := rfl
  simp [pk, h1]
theorem callk_ro {f : List Cell → SR} {D P : PyData} {xs : List PyData} {cs : Ev} (h1 : f [.v D, .v P] = .ro xs [.u, .u]) : (mCallK 2 0 [1, 0] f (mpure []) (mCons (mVar 1) (mCons (mVar 0) (mpure []))) 2) (.v D :: .v P :: cs) = .ok (.list xs) (.v D :: .v P :: cs) := by
  have pk : pick [1, 0] [] [Arg.d P, Arg.d D] = [Arg.d D, Arg.d P] := rfl
  simp [pk, h1]
theorem rep2_of {m : M PyData} {r r1 : Ev} {d : PyData} (h : m r = .ok d r1) : mList (mRep (mFit (mCons m (mpure []))) (mpure (.int 2))) r = .ok (.list [d, d]) r1 := by
  simp [h, size_line]
end Dx

/-! a list of new lists, shown and changed: equations -/
namespace Dx
open PySem PySem.Spec PyProof.Rows L2
section
variable {r r1 r2 : Ev} {i j : Nat}
theorem itl_of {m : M PyData} {ds : List PyData} (h : m r = .ok (.list ds) r1) : mItL m r = .ok ds r1 := by
  show mbind m _ r = _
  simp only [e_bind, h]
  rfl
theorem newX_of {mA mB : M (List PyData)} {n : XS} {as bs : List PyData} (h1 : mA r = .ok as r1) (h2 : mB r1 = .ok bs r2) (h3 : i < r2.length ∧ noPin (r2.set i .u) = true) : newX i mA mB n r = n [as, bs] (r2.set i .u) := by
  unfold newX
  simp only [e_sb, h1, h2]
  rw [if_pos h3]
theorem testX_of {t : M Bool} {n : XS} {dss : List (List PyData)} (h1 : flatR r = true) (h2 : t (r.set i (.v (.list (dss.map .list)))) = .ok false (r.set i (.v (.list (dss.map .list))))) : testX i t n dss r = n dss r := by
  unfold testX
  rw [if_pos ⟨h1, h2⟩]
theorem moreX_of {mA mB : M (List PyData)} {n : XS} {dss : List (List PyData)} {as bs : List PyData} (h1 : mA r = .ok as r1) (h2 : mB r1 = .ok bs r2) (h3 : isU r2[i]? = true ∧ noPin r2 = true ∧ dss.length + 2 ≤ sizeLine) : moreX i mA mB n dss r = n (dss ++ [as, bs]) r2 := by
  unfold moreX
  simp only [e_sb, h1, h2]
  rw [if_pos h3]
theorem eachX_of {d : PyData} {n : XS} {dss : List (List PyData)} (h : i ≠ j ∧ j < r.length ∧ noPin (r.set j .u) = true ∧ dss.all (fun ds => decide (ds.length < sizeLine)) = true) : eachX i j d n dss r = n (dss.map (· ++ [d])) (r.set j .u) := by
  unfold eachX
  rw [if_pos h]
theorem thenX_of {m : RS} {n : XS} {dss d2 : List (List PyData)} (h : m dss r = .nx d2 r1) : thenX m n dss r = n d2 r1 := by
  unfold thenX
  rw [h]
theorem drop_of {m : M PyData} {d : PyData} (h : m r = .ok d r1) : sDrop m r = .nx r1 := by
  rw [e_drop]
  simp only [e_sb, h]
end
theorem call2O_ro {f : List Cell → SR} {D P : PyData} {cs : Ev} {xs : List PyData} (h1 : f [.v D, .v P] = .ro xs [.u, .u]) : (mCallO 2 f (mArg (mVar 0) (mArg (mVar 1) (mpure [])))) (.v D :: .v P :: cs) = .ok xs (.v D :: .v P :: cs) := by
  simp [h1]
theorem callkO_ro {f : List Cell → SR} {D P : PyData} {xs : List PyData} {cs : Ev} (h1 : f [.v D, .v P] = .ro xs [.u, .u]) : (mCallKO 2 0 [1, 0] f (mpure []) (mCons (mVar 1) (mCons (mVar 0) (mpure []))) 2) (.v D :: .v P :: cs) = .ok xs (.v D :: .v P :: cs) := by
  have pk : pick [1, 0] [] [Arg.d P, Arg.d D] = [Arg.d D, Arg.d P] := rfl
  simp [pk, h1]
theorem call1_rt {f : List Cell → SR} {D d : PyData} {cs : Ev} (h1 : f [.v D] = .rt d [.u]) : (mCallD 1 f (mArg (mVar 0) (mpure []))) (.v D :: cs) = .ok d (.v D :: cs) := by
  simp [h1]
theorem call2_ro' {f : List Cell → SR} {D P : PyData} {cs : Ev} {xs : List PyData} (h1 : f [.v D, .v P] = .ro xs [.u, .u]) : (mCallD 2 f (mArg (mVar 0) (mArg (mVar 1) (mpure [])))) (.v D :: .v P :: cs) = .ok (.list xs) (.v D :: .v P :: cs) := call2_ro h1
theorem rep_of {m : M (List PyData)} {n : M PyData} {r : Ev} {ds : List PyData} {i : Int} (hm : m r = .ok ds r) (hn : n r = .ok (.int i) r) (h : -(2 ^ 63) ≤ i ∧ i < 2 ^ 63 ∧ ds.length * i.toNat ≤ sizeLine) : mRep m n r = .ok (List.replicate i.toNat ds).flatten r := by
  rw [e_rep]
  simp only [e_bind, hm, hn]
  rw [if_pos h]
  rfl
theorem flat_zero : ∀ n : Nat, (List.replicate n [PyData.int 0]).flatten = dI (List.replicate n 0)
  | 0 => rfl
  | n + 1 => by
    rw [List.replicate_succ, List.flatten_cons, flat_zero n]
    rfl
theorem zeros_of {m : M PyData} {r : Ev} {i : Int} (hn : m r = .ok (.int i) r) (i0 : 0 ≤ i) (i1 : i ≤ 100) : (mRep (mFit (mCons (mpure (.int 0)) (mpure []))) m) r = .ok (dI (List.replicate i.toNat 0)) r := by
  have sz := size_line
  have h1 : (mFit (mCons (mpure (.int 0)) (mpure []))) r = .ok [.int 0] r := by simp [size_line]
  rw [← flat_zero]
  exact rep_of h1 hn ⟨by omega, by omega, by simp; omega⟩
theorem sown_of {m : M (List PyData)} {r r1 : Ev} {ds : List PyData} {i : Nat} (h : m r = .ok ds r1) (hi : i < r1.length) : sOwn m i r = .nx (r1.set i (.o ds)) := by
  rw [e_ownst]
  simp only [e_sb, h]
  rw [if_pos hi]
theorem comp_gives2 {own : List Nat} {it : M (List PyData)} {g : G1} {t : M Bool} {m : M PyData} {r r1 r2 : Ev} {ds zs : List PyData} (h1 : it r = .ok ds r1) (h2 : mCompL own g t m ds [] r1 = .ok zs r2) : mComp own it g t m r = .ok zs (backR r1 own (wipeR r2 own)) := by
  rw [e_comp]
  simp only [e_bind, h1, h2]
theorem zip_of {m n : M PyData} {r r1 r2 : Ev} {xs ys : List PyData} (h1 : m r = .ok (.list xs) r1) (h2 : n r1 = .ok (.list ys) r2) : mZip (mCons m (mCons n (mpure []))) r = .ok (zipL xs ys) r2 := by
  rw [e_zip]
  simp only [e_bind, e_cons, h1, h2, e_pure]
  rfl
theorem sl_from {m n : M PyData} {r r1 r2 : Ev} {ds : List PyData} {k : Int} (h1 : m r = .ok (.list ds) r1) (h2 : n r1 = .ok (.int k) r2) (k0 : 0 ≤ k) (k1 : k ≤ ds.length) : mList (mSl m (some n) none) r = .ok (.list (ds.drop k.toNat)) r2 := by
  have e := cut_from (ds := ds) k0 k1
  simp [h1, h2, e]
theorem sl_to {m n : M PyData} {r r1 r2 : Ev} {ds : List PyData} {k : Int} (h1 : m r = .ok (.list ds) r1) (h2 : n r1 = .ok (.int k) r2) (k0 : 0 ≤ k) (k1 : k ≤ ds.length) : mList (mSl m none (some n)) r = .ok (.list (ds.take k.toNat)) r2 := by
  have e := cut_to (ds := ds) k0 k1
  simp [h1, h2, e]
theorem or_f {a b : M Bool} {r r1 r2 : Ev} {y : Bool} (h1 : a r = .ok false r1) (h2 : b r1 = .ok y r2) : mOr a b r = .ok y r2 := by
  simp [h1, h2]
end Dx

/-! most behind: lags, the first of the greatest; a list of new lists of lists: equations -/
namespace Dx
open PySem PySem.Spec PyProof.Rows L2
def bhL (L ps : List Int) : List Int := (L.zip ps).map fun z => z.1 + z.2
def mxI : List Int → Int
  | [] => 0
  | n :: ns => ns.foldl max n
def pkI (xs : List Int) : Nat := (idxI (mxI xs) xs).getD 0
theorem mx_some {xs : List Int} (h : xs ≠ []) : maxL xs = some (.int (mxI xs)) := by
  cases xs with
  | nil => exact absurd rfl h
  | cons n ns => rfl
theorem mx_mem {xs : List Int} (h : xs ≠ []) : mxI xs ∈ xs := by
  cases xs with
  | nil => exact absurd rfl h
  | cons n ns =>
    rcases (foldl_max_spec ns n).1 with q | q
    · show ns.foldl max n ∈ _
      rw [q]
      exact List.mem_cons_self
    · exact List.mem_cons_of_mem _ q
theorem idx_mem {e : Int} : ∀ {xs : List Int}, e ∈ xs → ∃ j, idxI e xs = some j ∧ j < xs.length
  | n :: ns, h => by
    by_cases q : n = e
    · exact ⟨0, by unfold idxI; rw [if_pos q], by simp⟩
    · rcases List.mem_cons.mp h with h | h
      · exact absurd h.symm q
      · obtain ⟨j, h1, h2⟩ := idx_mem h
        exact ⟨j + 1, by unfold idxI; rw [if_neg q, h1]; rfl, by simp; omega⟩
theorem pk_spec {xs : List Int} (h : xs ≠ []) : idxI (mxI xs) xs = some (pkI xs) ∧ pkI xs < xs.length := by
  obtain ⟨j, h1, h2⟩ := idx_mem (mx_mem h)
  unfold pkI
  rw [h1]
  exact ⟨rfl, h2⟩
theorem idx_of {m n : M PyData} {r r1 r2 : Ev} {xs : List Int} {e : Int} {j : Nat} (h1 : m r = .ok (.list (xs.map .int)) r1) (h2 : n r1 = .ok (.int e) r2) (h3 : idxI e xs = some j) : mIdx m n r = .ok (.int (j : Nat)) r2 := by
  have q : fIdx (.list (xs.map .int)) (.int e) = some (.int (j : Nat)) := by
    show (intsOf (xs.map .int)).bind _ = _
    rw [ints_map]
    show (idxI e xs).map _ = _
    rw [h3]
    rfl
  show mbind m _ r = _
  simp only [e_bind, h1, h2, q]
  rfl
theorem pick_of {i : Nat} {r : Ev} {xs : List Int} (h : r[i]? = some (.v (.list (xs.map .int)))) (hx : xs ≠ []) : mIdx (mVar i) (mCl (fInts maxL) (mCons (mVar i) (mpure []))) r = .ok (.int (pkI xs : Nat)) r := by
  have h1 : mVar i r = .ok (.list (xs.map .int)) r := by simp [h]
  have h2 : (fInts maxL) [.list (xs.map .int)] = some (.int (mxI xs)) := by
    show (intsOf (xs.map .int)).bind maxL = _
    rw [ints_map]
    exact mx_some hx
  exact idx_of h1 (cl1_of h1 h2) (pk_spec hx).1
theorem zip_int : ∀ L ps : List Int, zipL (L.map PyData.int) (ps.map PyData.int) = (L.zip ps).map fun z => .tuple [.int z.1, .int z.2]
  | [], ps => by cases ps <;> rfl
  | _ :: _, [] => rfl
  | a :: L, b :: ps => by
    rw [List.map_cons, List.map_cons, List.zip_cons_cons, List.map_cons, ← zip_int L ps]
    rfl
/-- a comprehension of new lists -/
theorem comprl_mapA {A : Type} {own : List Nat} {g : G1} {m : M (List PyData)} (D : A → PyData) (f : A → List PyData) (I : Ev → Prop) : ∀ (xs : List A) (acc : Rowz) (r : Ev), I r → (∀ x r, x ∈ xs → I r → ∃ r1 r3, g (D x) (wipeR r own) = .ok () r1 ∧ m r1 = .ok (f x) r3 ∧ I r3) → acc.length + xs.length < 16777216 →
    ∃ r', mCompRL own g m (xs.map D) acc r = some (acc ++ xs.map f, r') ∧ I r'
  | [], acc, r, h, _, _ => ⟨r, by rw [List.map_nil, List.map_nil, List.append_nil]; rfl, h⟩
  | x :: xs, acc, r, h, step, hl => by
    rw [List.length_cons] at hl
    obtain ⟨r1, r3, e1, e2, h3⟩ := step x r List.mem_cons_self h
    obtain ⟨r', e3, h4⟩ := comprl_mapA D f I xs (acc ++ [f x]) r3 h3 (fun d r hd hr => step d r (List.mem_cons_of_mem _ hd) hr) (by rw [List.length_append, List.length_singleton]; omega)
    refine ⟨r', ?_, h4⟩
    rw [List.map_cons]
    show (match g (D x) (wipeR r own) with
      | .ok _ r1 => match m r1 with
        | .ok zs r2 => if acc.length < sizeLine then mCompRL own g m (xs.map D) (acc ++ [zs]) r2 else none
        | _ => none
      | _ => none) = _
    rw [e1]
    dsimp only
    rw [e2]
    dsimp only
    rw [if_pos (by rw [size_line]; omega), e3, List.map_cons, List.append_assoc]
    rfl
theorem compn_of {own : List Nat} {it : M (List PyData)} {g : G1} {m : M (List PyData)} {r r1 r2 : Ev} {ds : List PyData} {zs : Rowz} (h1 : it r = .ok ds r1) (h2 : mCompRL own g m ds [] r1 = some (zs, r2)) : mCompN own it g m r = .ok zs (backR r1 own (wipeR r2 own)) := by
  unfold mCompN compR
  rw [h1]
  dsimp only
  rw [h2]
  rfl
theorem newN_of {mA mB : M Rowz} {n : NS} {i : Nat} {r r1 r2 : Ev} {as bs : Rowz} (h1 : mA r = .ok as r1) (h2 : mB r1 = .ok bs r2) (h3 : i < r2.length ∧ noPin (r2.set i .u) = true) : newN i mA mB n r = n as bs (r2.set i .u) := by
  unfold newN
  simp only [e_sb, h1, h2]
  rw [if_pos h3]
theorem testN_of {t : M Bool} {n : NS} {i : Nat} {r : Ev} {as bs : Rowz} (h1 : flatR r = true) (h2 : t (r.set i (.v (.list [.list (as.map .list), .list (bs.map .list)]))) = .ok false (r.set i (.v (.list [.list (as.map .list), .list (bs.map .list)])))) : testN i t n as bs r = n as bs r := by
  unfold testN
  rw [if_pos ⟨h1, h2⟩]
theorem lastN_of {n : S} {i j : Nat} {r : Ev} {as bs : Rowz} (h : i ≠ j ∧ j < r.length ∧ as.all (fun ds => decide (ds.length < sizeLine)) = true ∧ bs.length < sizeLine) : lastN i j n as bs r = n (r.set j .u) := by
  unfold lastN
  rw [if_pos h]
/-- the lags after t ticks -/
def stepI (span : Int) (ps L : List Int) : List Int := (bhL L ps).modify (pkI (bhL L ps)) (fun x => x - span)
def lagI (span : Int) (ps : List Int) : Nat → List Int
  | 0 => List.replicate ps.length 0
  | t + 1 => stepI span ps (lagI span ps t)
def pickI (span : Int) (ps : List Int) (t : Nat) : Nat := pkI (bhL (lagI span ps t) ps)
theorem bh_len {L ps : List Int} (h : L.length = ps.length) : (bhL L ps).length = ps.length := by
  unfold bhL
  rw [List.length_map, List.length_zip, h, Nat.min_self]
theorem lag_len (span : Int) (ps : List Int) : ∀ t, (lagI span ps t).length = ps.length
  | 0 => List.length_replicate
  | t + 1 => by
    show (stepI span ps (lagI span ps t)).length = _
    unfold stepI
    rw [List.length_modify, bh_len (lag_len span ps t)]
theorem bh_ne {span : Int} {ps : List Int} (t : Nat) (h : ps ≠ []) : bhL (lagI span ps t) ps ≠ [] := fun q => by
  have := bh_len (lag_len span ps t)
  rw [q] at this
  exact h (List.length_eq_zero_iff.mp this.symm)
theorem pickI_lt {span : Int} {ps : List Int} (t : Nat) (h : ps ≠ []) : pickI span ps t < ps.length := by
  have := (pk_spec (bh_ne (span := span) t h)).2
  rw [bh_len (lag_len span ps t)] at this
  exact this
@[simp] theorem e_augixm (i : Nat) (n m : M PyData) (r : Ev) : sAugIxM i n m r = sBind (mHas i n) (fun e => fun r => match numAt e r[i]? with
  | some (j, u) => sBind m (subAt i j u) r
  | none => .no) r := rfl
@[simp] theorem e_subat (i : Nat) (j u v : Int) (r : Ev) : subAt i j u (.int v) r = match setOwn (.int j) (.int (u - v)) r[i]? with
    | some x => .nx (r.set i x)
    | none => .no := rfl
theorem subI_at {es : List Int} {k : Nat} {T : Int} (h1 : k < es.length) : ∃ u, atI (es.map PyData.int) (k : Int) = some (.int u) ∧ ixN es.length (k : Int) = some k ∧ (es.map PyData.int).set k (.int (u - T)) = (es.modify k (fun x => x - T)).map PyData.int := by
  refine ⟨es[k], ?_, ?_, ?_⟩
  · rw [e_at, e_ixn, if_pos (by omega), if_pos (by simpa using h1)]
    simp [List.getElem?_eq_getElem h1]
  · rw [e_ixn, if_pos (by omega), if_pos (by omega)]
    simp
  · refine List.ext_getElem? fun j => ?_
    rw [List.getElem?_map, List.getElem?_modify, List.getElem?_set]
    by_cases q : k = j
    · subst q
      rw [if_pos rfl, if_pos (by simpa using h1), List.getElem?_eq_getElem h1]
      simp
    · rw [if_neg q, List.getElem?_map]
      simp [q]
/-! the first of the least -/
theorem foldl_min_ind : ∀ (ns : List Int) (n : Int), ns.foldl min n = n ∨ ns.foldl min n ∈ ns := fun ns n => (foldl_min_spec ns n).1
def mnI : List Int → Int
  | [] => 0
  | n :: ns => ns.foldl min n
theorem mn_some {xs : List Int} (h : xs ≠ []) : minL xs = some (.int (mnI xs)) := by
  cases xs with
  | nil => exact absurd rfl h
  | cons n ns => rfl
theorem mn_mem {xs : List Int} (h : xs ≠ []) : mnI xs ∈ xs := by
  cases xs with
  | nil => exact absurd rfl h
  | cons n ns =>
    rcases (foldl_min_spec ns n).1 with q | q
    · show ns.foldl min n ∈ _
      rw [q]
      exact List.mem_cons_self
    · exact List.mem_cons_of_mem _ q
theorem mn_le {xs : List Int} {y : Int} (h : y ∈ xs) : mnI xs ≤ y := by
  cases xs with
  | nil => cases h
  | cons n ns =>
    rcases List.mem_cons.mp h with q | q
    · rw [q]
      exact (foldl_min_spec ns n).2.1
    · exact (foldl_min_spec ns n).2.2 y q
def pkN (xs : List Int) : Nat := (idxI (mnI xs) xs).getD 0
theorem pkN_spec {xs : List Int} (h : xs ≠ []) : idxI (mnI xs) xs = some (pkN xs) ∧ pkN xs < xs.length := by
  obtain ⟨j, h1, h2⟩ := idx_mem (mn_mem h)
  unfold pkN
  rw [h1]
  exact ⟨rfl, h2⟩
theorem pickN_of {i : Nat} {r : Ev} {xs : List Int} (h : r[i]? = some (.v (.list (xs.map .int)))) (hx : xs ≠ []) : mIdx (mVar i) (mCl (fInts minL) (mCons (mVar i) (mpure []))) r = .ok (.int (pkN xs : Nat)) r := by
  have h1 : mVar i r = .ok (.list (xs.map .int)) r := by simp [h]
  have h2 : (fInts minL) [.list (xs.map .int)] = some (.int (mnI xs)) := by
    show (intsOf (xs.map .int)).bind minL = _
    rw [ints_map]
    exact mn_some hx
  exact idx_of h1 (cl1_of h1 h2) (pkN_spec hx).1
/-! lags when a process or nobody is picked -/
def opN : Option Nat → PyData
  | none => .none
  | some k => .int (k : Nat)
def rowN : Option Nat → List PyData
  | none => []
  | some k => [.int (k : Nat)]
def stepO (pk : List Int → Option Nat) (span : Int) (ps L : List Int) : List Int := match pk L with
  | none => bhL L ps
  | some k => (bhL L ps).modify k fun x => x - span
def lagO (pk : List Int → Option Nat) (span : Int) (ps : List Int) : Nat → List Int
  | 0 => List.replicate ps.length 0
  | t + 1 => stepO pk span ps (lagO pk span ps t)
theorem lagO_len (pk : List Int → Option Nat) (span : Int) (ps : List Int) : ∀ t, (lagO pk span ps t).length = ps.length
  | 0 => List.length_replicate
  | t + 1 => by
    show (stepO pk span ps (lagO pk span ps t)).length = _
    unfold stepO
    split
    · rw [bh_len (lagO_len pk span ps t)]
    · rw [List.length_modify, bh_len (lagO_len pk span ps t)]
theorem bhz_of {L ps H : List Int} {span t : Int} (e : L = (ps.zip H).map fun z => z.1 * t - span * z.2) (hl : H.length = ps.length) : bhL L ps = (ps.zip H).map fun z => z.1 * (t + 1) - span * z.2 := by
  subst e
  refine List.ext_getElem (by simp [bhL, hl]) fun i h1 h2 => ?_
  simp only [bhL, List.getElem_map, List.getElem_zip]
  rw [Int.mul_add, Int.mul_one]
  omega
/-- how often each was picked -/
def hereO (pk : List Int → Option Nat) (span : Int) (ps : List Int) : Nat → List Int
  | 0 => List.replicate ps.length 0
  | t + 1 => match pk (lagO pk span ps t) with
    | none => hereO pk span ps t
    | some k => (hereO pk span ps t).modify k fun x => x + 1
theorem hereO_len (pk : List Int → Option Nat) (span : Int) (ps : List Int) : ∀ t, (hereO pk span ps t).length = ps.length
  | 0 => List.length_replicate
  | t + 1 => by
    unfold hereO
    split
    · exact hereO_len pk span ps t
    · rw [List.length_modify, hereO_len pk span ps t]
theorem hereO_bd (pk : List Int → Option Nat) (span : Int) (ps : List Int) : ∀ (t : Nat), ∀ x ∈ hereO pk span ps t, 0 ≤ x ∧ x ≤ t
  | 0, x, h => by
    have := List.eq_of_mem_replicate h
    omega
  | t + 1, x, h => by
    unfold hereO at h
    split at h
    · have := hereO_bd pk span ps t x h
      omega
    · obtain ⟨i, hi, e⟩ := List.mem_iff_getElem.mp h
      rw [List.getElem_modify] at e
      have q := hereO_bd pk span ps t ((hereO pk span ps t)[i]'(by rw [List.length_modify] at hi; exact hi)) (List.getElem_mem _)
      split at e <;> omega
theorem lagO_eq (pk : List Int → Option Nat) (span : Int) (ps : List Int) : ∀ t : Nat, lagO pk span ps t = (ps.zip (hereO pk span ps t)).map fun z => z.1 * (t : Int) - span * z.2
  | 0 => List.ext_getElem (by simp [lagO, hereO]) fun i h1 h2 => by simp [lagO, hereO]
  | t + 1 => by
    have l2 := hereO_len pk span ps t
    have b := bhz_of (lagO_eq pk span ps t) l2
    show stepO pk span ps (lagO pk span ps t) = _
    unfold stepO hereO
    rw [show ((t + 1 : Nat) : Int) = (t : Int) + 1 by omega]
    split
    · exact b
    rw [b]
    generalize hereO pk span ps t = H at *
    generalize (t : Int) = tt
    refine List.ext_getElem (by simp) fun i h1 h2 => ?_
    simp only [List.getElem_modify, List.getElem_map, List.getElem_zip]
    split
    · rw [Int.mul_add span, Int.mul_one]
      omega
    · rfl
/-- the first of the least, as a pair -/
theorem min_first {xs : List Int} {j : Nat} (h : idxI (mnI xs) xs = some j) : xs[j]? = some (mnI xs) ∧ (∀ (m : Nat) (z : Int), m < j → xs[m]? = some z → mnI xs < z) ∧ ∀ z ∈ xs, mnI xs ≤ z := by
  obtain ⟨h1, h2⟩ := idxI_spec h
  refine ⟨h1, fun m z hm hz => ?_, fun z hz => mn_le hz⟩
  have a := h2 m z hm hz
  have b := mn_le (List.mem_of_getElem? hz)
  omega
end Dx

namespace k53
open Dx PySem PySem.Spec PyProof.Rows L2
noncomputable section
def m_law_source : S :=
    (sSeq (sAsg (mCl (f1I fun i => .int (absI i)) (mCons (mVar 0) (mpure []))) (gN 2))
    (sRetL (mFit (mCons (mCl (f2I fun i j => .int (maxI i j)) (mCons (mpure (.int 0)) (mCons (mOp fSub (mVar 2) (mOp fPow (mpure (.int 10)) (mpure (.int 18)))) (mpure [])))) (mCons (mOp fAdd (mOp fAdd (mOp fMulI (mOp fMod (mCl fInt (mCons (mVar 2) (mpure []))) (mOp fAdd (mOp fPow (mpure (.int 10)) (mpure (.int 41))) (mpure (.int 61)))) (mpure (.int 83))) (mOp fMulI (mpure (.int 2)) (mVar 1))) (mCl fInt (mCons (mOp fLt (mVar 0) (mpure (.int 0))) (mpure [])))) (mCons (mpure (.int 0)) (mpure [])))))))
def fx_law_source : List Cell → SR := runB 1 m_law_source
def m_is_integer : S :=
    (sRet (mAndV (mUn (isiD "int") (mVar 0)) (mNotV (mUn (isiD "bool") (mVar 0)))))
def fx_is_integer : List Cell → SR := runB 0 m_is_integer
def m_is_integer_from : S :=
    (sRet (mAndV (mCallD 1 fx_is_integer (mArg (mVar 0) (mpure []))) (mChain fLe fLe (mVar 1) (mVar 0) (mVar 2))))
def fx_is_integer_from : List Cell → SR := runB 0 m_is_integer_from
def m_are_shares : S :=
    (sSeq (sCond (mOr (mBool (mUn (tyIs true "list") (mVar 0))) (mNot (mBool (mChain fLe fLe (mpure (.int 1)) (mCl fLen (mCons (mVar 0) (mpure []))) (mpure (.int 12))))))
    (sRet (mpure (.bool false)))
    .nx)
    (sSeq (sFor (mItL (mVar 0)) (gN 3)
    (sCond (mOr (mBool (mUn (tyIs true "int") (mVar 3))) (mNot (mBool (mChain fLe fLe (mpure (.int 1)) (mVar 3) (mVar 2)))))
    (sRet (mpure (.bool false)))
    .nx))
    (sRet (mOp fLe (mCl (fInts fun ns => some (.int ns.sum)) (mCons (mVar 0) (mpure []))) (mOp fMulI (mVar 1) (mVar 2))))))
def fx_are_shares : List Cell → SR := runB 1 m_are_shares
def m_check_load : S :=
    (sSeq (sCond (mOr (mBool (mUn (tyIs true "tuple") (mVar 0))) (mBool (mOp fNe (mCl fLen (mCons (mVar 0) (mpure []))) (mpure (.int 3)))))
    (fun _ => .no)
    .nx)
    (sSeq (sAsg (mVar 0) (gUn 3 (gsCons (gN 1) (gsCons (gN 2) (gsCons (gN 3) gsNil)))))
    (sSeq (sCond (mNot (mTru (mCallD 3 fx_is_integer_from (mArg (mVar 1) (mArg (mpure (.int 1)) (mArg (mpure (.int 12)) (mpure [])))))))
    (fun _ => .no)
    .nx)
    (sSeq (sCond (mNot (mTru (mCallD 3 fx_is_integer_from (mArg (mVar 2) (mArg (mpure (.int 1)) (mArg (mOp fSub (mOp fPow (mpure (.int 10)) (mpure (.int 30))) (mpure (.int 1))) (mpure [])))))))
    (fun _ => .no)
    .nx)
    (sCond (mNot (mTru (mCallD 3 fx_are_shares (mArg (mVar 3) (mArg (mVar 1) (mArg (mVar 2) (mpure [])))))))
    (fun _ => .no)
    .nx)))))
def fx_check_load : List Cell → SR := runB 3 m_check_load
def m_check_rule : S :=
    (sCond (mOr (mBool (mUn (tyIs true "str") (mVar 0))) (mBool (mOp (fIn true) (mVar 0) (mpure (.tuple [.str "first end", .str "without waiting", .str "most behind"])))))
    (fun _ => .no)
    .nx)
def fx_check_rule : List Cell → SR := runB 0 m_check_rule
def m_check_number : S :=
    (sCond (mOr (mNot (mTru (mCallD 1 fx_is_integer (mArg (mVar 0) (mpure []))))) (mOr (mBool (mOp fLt (mVar 0) (mVar 3))) (mAnd (mBool (mOp fIsNot (mVar 2) (mpure .none))) (mBool (mOp fGt (mVar 0) (mVar 2))))))
    (fun _ => .no)
    .nx)
def fx_check_number : List Cell → SR := runB 0 m_check_number
def m_check_single : S :=
    (sCond (mBool (mOp fNe (mOp fIx (mVar 0) (mpure (.int 0))) (mpure (.int 1))))
    (fun _ => .no)
    .nx)
def fx_check_single : List Cell → SR := runB 0 m_check_single
def m_check_match : S :=
    (sSeq (sDrop (mCallD 1 fx_check_single (mArg (mVar 0) (mpure []))))
    (sSeq (sAsg (mVar 0) (gUn 3 (gsCons (gN 2) (gsCons (gN 3) (gsCons (gN 4) gsNil)))))
    (sCond (mAnd (mBool (mOp fNe (mVar 1) (mpure (.str "first end")))) (mBool (mOp fLt (mCl (fInts fun ns => some (.int ns.sum)) (mCons (mVar 4) (mpure []))) (mVar 3))))
    (fun _ => .no)
    .nx)))
def fx_check_match : List Cell → SR := runB 3 m_check_match
def m_most_behind : S :=
    (sSeq (sAsg (mList (mComp [3, 4] (mZip (mCons (mVar 0) (mCons (mVar 1) (mpure [])))) (gUn 2 (gsCons (gN 3) (gsCons (gN 4) gsNil))) (mpure true) (mOp fAdd (mVar 3) (mVar 4)))) (gN 2))
    (sRet (mIdx (mVar 2) (mCl (fInts maxL) (mCons (mVar 2) (mpure []))))))
def fx_most_behind : List Cell → SR := runB 3 m_most_behind
def m_rounded_up : S :=
    (sRet (mUn (fU fun i => .int (-i)) (mOp fDiv (mUn (fU fun i => .int (-i)) (mVar 0)) (mVar 1))))
def fx_rounded_up : List Cell → SR := runB 0 m_rounded_up
def m_first_end : S :=
    (sSeq (sAsg (mList (mComp [5, 6, 7] (mEZ (mCons (mVar 0) (mCons (mVar 1) (mpure [])))) (gUn 2 (gsCons (gN 5) (gsCons (gUn 2 (gsCons (gN 6) (gsCons (gN 7) gsNil))) gsNil))) (mAnd (mBool (mOp fGt (mVar 7) (mpure (.int 0)))) (mAnd (mBool (mOp fGt (mOp fAdd (mVar 6) (mVar 7)) (mpure (.int 0)))) (mBool (mOp fNe (mVar 5) (mVar 3))))) (mTup (mCons (mCallD 2 fx_rounded_up (mArg (mOp fSub (mVar 2) (mVar 6)) (mArg (mVar 7) (mpure [])))) (mCons (mVar 5) (mpure [])))))) (gN 4))
    (sRet (mIf (mTru (mVar 4)) (mOp fIx (mCl fMinP (mCons (mVar 4) (mpure []))) (mpure (.int 1))) (mpure .none))))
def fx_first_end : List Cell → SR := runB 4 m_first_end
def m_next_end : S :=
    (sSeq (sAsg (mList (mComp [4, 5] (mZip (mCons (mVar 0) (mCons (mVar 1) (mpure [])))) (gUn 2 (gsCons (gN 4) (gsCons (gN 5) gsNil))) (mpure true) (mCallD 2 fx_rounded_up (mArg (mOp fSub (mVar 2) (mVar 4)) (mArg (mVar 5) (mpure [])))))) (gN 3))
    (sRet (mIdx (mVar 3) (mCl (fInts minL) (mCons (mVar 3) (mpure []))))))
def fx_next_end : List Cell → SR := runB 3 m_next_end
def m_turn : S :=
    (sSeq (sCond (mBool (mOp fEq (mVar 0) (mpure (.str "first end"))))
    (sRet (mCallD 4 fx_first_end (mDfl (mArg (mVar 1) (mArg (mVar 2) (mArg (mVar 3) (mpure [])))) [PyData.none])))
    .nx)
    (sSeq (sCond (mBool (mOp fEq (mVar 0) (mpure (.str "without waiting"))))
    (sRet (mCallD 3 fx_next_end (mArg (mVar 1) (mArg (mVar 2) (mArg (mVar 3) (mpure []))))))
    .nx)
    (sRet (mCallD 2 fx_most_behind (mArg (mVar 1) (mArg (mVar 2) (mpure [])))))))
def fx_turn : List Cell → SR := runB 0 m_turn
def m_lags_behind : S :=
    (sSeq (sOwn (mComp [5, 6] (mZip (mCons (mVar 0) (mCons (mVar 1) (mpure [])))) (gUn 2 (gsCons (gN 5) (gsCons (gN 6) gsNil))) (mpure true) (mOp fAdd (mVar 5) (mVar 6))) 4)
    (sSeq (sCond (mBool (mOp fIsNot (mVar 3) (mpure .none)))
    (sAugIxM 4 (mVar 3) (mVar 2))
    .nx)
    (sRetL (mTake 4))))
def fx_lags_behind : List Cell → SR := runB 3 m_lags_behind
def m_steps : S :=
    (sSeq (sAsg (mVar 0) (gUn 3 (gsCons (gN 5) (gsCons (gN 6) (gsCons (gN 7) gsNil)))))
    (sSeq (sAsg (mList (mRep (mFit (mCons (mpure (.int 0)) (mpure []))) (mCl fLen (mCons (mVar 7) (mpure []))))) (gN 3))
    (sSeq (sOwn (mFit (mpure [])) 4)
    (sSeq (sFor (mRng1 (mCons (mVar 2) (mpure []))) (gN 5)
    (sSeq (sAsg (mCallD 4 fx_turn (mArg (mVar 1) (mArg (mVar 3) (mArg (mVar 7) (mArg (mVar 6) (mpure [])))))) (gN 8))
    (sSeq (sAsg (mCallD 4 fx_lags_behind (mArg (mVar 3) (mArg (mVar 7) (mArg (mVar 6) (mArg (mVar 8) (mpure [])))))) (gN 3))
    (sApp 4 (mTup (mCons (mVar 8) (mCons (mVar 3) (mpure []))))))))
    (sRetL (mTake 4))))))
def fx_steps : List Cell → SR := runB 6 m_steps
def m_rule_plan : S :=
    (sSeq (sDrop (mCallD 1 fx_check_load (mArg (mVar 0) (mpure []))))
    (sSeq (sDrop (mCallD 1 fx_check_rule (mArg (mVar 1) (mpure []))))
    (sSeq (sDrop (mCallD 4 fx_check_number (mDfl (mArg (mVar 2) (mArg (mpure (.str "many")) (mArg (mpure (.int 1000)) (mpure [])))) [PyData.int 0])))
    (sSeq (sDrop (mCallD 2 fx_check_match (mArg (mVar 0) (mArg (mVar 1) (mpure [])))))
    (sRetL (mComp [3, 4] (mItL (mCallD 3 fx_steps (mArg (mVar 0) (mArg (mVar 1) (mArg (mVar 2) (mpure [])))))) (gUn 2 (gsCons (gN 3) (gsCons (gN 4) gsNil))) (mpure true) (mIf (mBool (mOp fIs (mVar 3) (mpure .none))) (mList (mFit (mpure []))) (mList (mFit (mCons (mVar 3) (mpure [])))))))))))
def fx_rule_plan : List Cell → SR := runB 2 m_rule_plan
def mN_rule_plan : S :=
    (sSeq (sDrop (mCallD 1 fx_check_load (mArg (mVar 0) (mpure []))))
    (sSeq (sDrop (mCallD 1 fx_check_rule (mArg (mVar 1) (mpure []))))
    (sSeq (sDrop (mCallD 4 fx_check_number (mDfl (mArg (mVar 2) (mArg (mpure (.str "many")) (mArg (mpure (.int 1000)) (mpure [])))) [PyData.int 0])))
    (sSeq (sDrop (mCallD 2 fx_check_match (mArg (mVar 0) (mArg (mVar 1) (mpure [])))))
    .nx))))
def rN_rule_plan : M Rowz := (mCompN [3, 4] (mItL (mCallD 3 fx_steps (mArg (mVar 0) (mArg (mVar 1) (mArg (mVar 2) (mpure [])))))) (gUn 2 (gsCons (gN 3) (gsCons (gN 4) gsNil))) (mIf (mBool (mOp fIs (mVar 3) (mpure .none))) (mFit (mpure [])) (mFit (mCons (mVar 3) (mpure [])))))
def fN_rule_plan : List Cell → R Rowz := runN 2 mN_rule_plan rN_rule_plan
def m_law_draw : S :=
    (sSeq (sCond (mBool (mOp fGt (mIxO 0 (mpure (.int 0))) (mpure (.int 0))))
    (sSeq (sAsg (mOp fMod (mCl fInt (mCons (mIxO 0 (mpure (.int 0))) (mpure []))) (mVar 1)) (gN 3))
    (sSeq (sSetIx 0 (mpure (.int 0)) (mOp fDiv (mIxO 0 (mpure (.int 0))) (mVar 1)))
    (sRet (mVar 3))))
    .nx)
    (sSeq (sSetIx 0 (mpure (.int 2)) (mOp fAdd (mIxO 0 (mpure (.int 2))) (mpure (.int 1))))
    (sSeq (sAsg (mOp fMod (mCl fInt (mCons (mOp fPow (mOp fAdd (mIxO 0 (mpure (.int 1))) (mOp fMulI (mpure (.int 800011)) (mIxO 0 (mpure (.int 2))))) (mpure (.int 3))) (mpure []))) (mOp fAdd (mOp fPow (mpure (.int 10)) (mpure (.int 37))) (mpure (.int 43)))) (gN 2))
    (sSeq (sAsg (mOp fMod (mCl fInt (mCons (mOp fPow (mOp fAdd (mOp fMulI (mVar 2) (mIxO 0 (mpure (.int 2)))) (mpure (.int 70001))) (mpure (.int 3))) (mpure []))) (mOp fAdd (mOp fPow (mpure (.int 10)) (mpure (.int 39))) (mpure (.int 3)))) (gN 2))
    (sRet (mOp fMod (mCl fInt (mCons (mOp fDiv (mVar 2) (mpure (.int 65521))) (mpure []))) (mVar 1)))))))
def fx_law_draw : List Cell → SR := runB 2 m_law_draw
def m_law_parts : S :=
    (sSeq (sParOD 5 6 (mFit (mpure [])) (mVar 1))
    (sSeq (sFor (mRng1 (mCons (mVar 2) (mpure []))) (gN 4)
    (sSeq (sParDD 7 8 (mCl (f2I fun i j => .int (maxI i j)) (mCons (mpure (.int 1)) (mCons (mOp fSub (mVar 6) (mOp fMulI (mVar 3) (mOp fSub (mOp fSub (mVar 2) (mVar 4)) (mpure (.int 1))))) (mpure [])))) (mCl (f2I fun i j => .int (minI i j)) (mCons (mVar 3) (mCons (mOp fSub (mVar 6) (mOp fSub (mOp fSub (mVar 2) (mVar 4)) (mpure (.int 1)))) (mpure [])))))
    (sSeq (sApp 5 (mOp fAdd (mVar 7) (mCallD 2 fx_law_draw (mArgS 0 (mArg (mOp fAdd (mOp fSub (mVar 8) (mVar 7)) (mpure (.int 1))) (mpure []))))))
    (sAsg (mOp fSub (mVar 6) (mIxO 5 (mUn (fU fun i => .int (-i)) (mpure (.int 1))))) (gN 6)))))
    (sRetL (mTake 5))))
def fx_law_parts : List Cell → SR := runB 5 m_law_parts
def m_law_due : S :=
    (sSeq (sAsg (mTup (mCons (mOp fIx (mVar 0) (mpure (.int 1))) (mCons (mOp fIx (mVar 0) (mpure (.int 2))) (mpure [])))) (gUn 2 (gsCons (gN 3) (gsCons (gN 4) gsNil))))
    (sSeq (sParOO 5 6 (mFit (mpure [])) (mRep (mFit (mCons (mpure (.int 0)) (mpure []))) (mCl fLen (mCons (mVar 4) (mpure [])))))
    (sSeq (sFor (mRng1 (mCons (mVar 1) (mpure []))) (gN 2)
    (sSeq (sLend 6 7 (mComp [9, 10] (mZip (mCons (mVar 4) (mCons (mVar 6) (mpure [])))) (gUn 2 (gsCons (gN 9) (gsCons (gN 10) gsNil))) (mpure true) (mOp fSub (mOp fMulI (mVar 9) (mOp fAdd (mVar 2) (mpure (.int 1)))) (mOp fMulI (mVar 3) (mVar 10)))))
    (sSeq (sAsg (mIdx (mVar 7) (mCl (fInts maxL) (mCons (mVar 7) (mpure [])))) (gN 8))
    (sSeq (sSetIx 6 (mVar 8) (mOp fAdd (mIxO 6 (mVar 8)) (mpure (.int 1))))
    (sApp 5 (mList (mFit (mCons (mVar 8) (mpure [])))))))))
    (sRetL (mTake 5)))))
def fx_law_due : List Cell → SR := runB 9 m_law_due
def m_law_right : S :=
    (sSeq (sAsg (mOp fAdd (mpure (.int 1)) (mCallD 2 fx_law_draw (mArgS 0 (mArg (mCl (f2I fun i j => .int (minI i j)) (mCons (mVar 2) (mCons (mVar 1) (mpure [])))) (mpure []))))) (gN 4))
    (sSeq (sAsg (mTup (mCons (mpure (.int 1)) (mCons (mVar 1) (mCons (mCallD 4 fx_law_parts (mArgS 0 (mArg (mVar 1) (mArg (mVar 4) (mArg (mVar 1) (mpure [])))))) (mpure []))))) (gN 5))
    (sSeq (sParDD 8 9 (mCallD 2 fx_law_due (mArg (mVar 5) (mArg (mVar 3) (mpure [])))) (mCl fRepr (mCons (mVar 5) (mpure []))))
    (newN 6 (mCallN 3 fN_rule_plan (mArg (mVar 5) (mArg (mpure (.str "most behind")) (mArg (mVar 3) (mpure []))))) (mCallNK 3 0 [2, 1, 0] fN_rule_plan (mpure []) (mCons (mVar 3) (mCons (mpure (.str "most behind")) (mCons (mVar 5) (mpure [])))) 3)
    (testN 6 (mBool (mOp fNe (mCl fRepr (mCons (mVar 6) (mpure []))) (mCl fRepr (mCons (mList (mFit (mCons (mVar 8) (mCons (mVar 8) (mpure []))))) (mpure [])))))
    (lastN 6 7
    (sRet (mAndV (mOp fEq (mCl fRepr (mCons (mCallD 3 fx_rule_plan (mArg (mVar 5) (mArg (mpure (.str "most behind")) (mArg (mVar 3) (mpure []))))) (mpure []))) (mCl fRepr (mCons (mVar 8) (mpure [])))) (mOp fEq (mCl fRepr (mCons (mVar 5) (mpure []))) (mVar 9))))))))))
def fx_law_right : List Cell → SR := runB 6 m_law_right
def m_law : S :=
    (sSeq (sFor (mEnum (mCons (mList (mSl (mOp fAdd (mVar 0) (mList (mFit (mCons (mpure (.int 0)) (mpure []))))) none (some (mCl (f2I fun i j => .int (maxI i j)) (mCons (mpure (.int 1)) (mCons (mCl (f2I fun i j => .int (minI i j)) (mCons (mCl fLen (mCons (mVar 0) (mpure []))) (mCons (mpure (.int 8)) (mpure [])))) (mpure []))))))) (mpure []))) (gUn 2 (gsCons (gN 1) (gsCons (gN 2) gsNil)))
    (sSeq (sOwn (mCallO 2 fx_law_source (mArg (mVar 2) (mArg (mVar 1) (mpure [])))) 3)
    (sSeq (sCond (mAnd (mBool (mOp fEq (mVar 1) (mpure (.int 0)))) (mAnd (mBool (mOp fNe (mVar 0) (mList (mFit (mpure []))))) (mNot (mTru (mCallD 4 fx_law_right (mArgS 3 (mArg (mpure (.int 1000)) (mArg (mpure (.int 12)) (mArg (mpure (.int 1000)) (mpure []))))))))))
    (sRet (mpure (.bool false)))
    .nx)
    (sSeq (sCond (mNot (mTru (mCallD 4 fx_law_right (mArgS 3 (mArg (mOp fAdd (mpure (.int 1)) (mCallD 2 fx_law_draw (mArgS 3 (mArg (mpure (.int 1000)) (mpure []))))) (mArg (mpure (.int 12)) (mArg (mCallD 2 fx_law_draw (mArgS 3 (mArg (mpure (.int 40)) (mpure [])))) (mpure []))))))))
    (sRet (mpure (.bool false)))
    .nx)
    (sFor (mRng1 (mCons (mpure (.int 2)) (mpure []))) (gN 4)
    (sSeq (sAsg (mOp fAdd (mpure (.int 1)) (mCallD 2 fx_law_draw (mArgS 3 (mArg (mOp fIx (mList (mFit (mCons (mpure (.int 9)) (mCons (mpure (.int 60)) (mpure []))))) (mCl fInt (mCons (mOp fNe (mVar 0) (mList (mFit (mpure [])))) (mpure [])))) (mpure []))))) (gN 5))
    (sCond (mNot (mTru (mCallD 4 fx_law_right (mArgS 3 (mArg (mVar 5) (mArg (mpure (.int 6)) (mArg (mCallD 2 fx_law_draw (mArgS 3 (mArg (mOp fIx (mList (mFit (mCons (mpure (.int 20)) (mCons (mpure (.int 150)) (mpure []))))) (mCl fInt (mCons (mOp fNe (mVar 0) (mList (mFit (mpure [])))) (mpure [])))) (mpure [])))) (mpure []))))))))
    (sRet (mpure (.bool false)))
    .nx)))))))
    (sRet (mOp fEq (mCallD 3 fx_rule_plan (mArg (mTup (mCons (mpure (.int 1)) (mCons (mpure (.int 6)) (mCons (mList (mFit (mCons (mpure (.int 3)) (mCons (mpure (.int 2)) (mCons (mpure (.int 1)) (mpure [])))))) (mpure []))))) (mArg (mpure (.str "most behind")) (mArg (mpure (.int 6)) (mpure []))))) (mList (mFit (mCons (mList (mFit (mCons (mpure (.int 0)) (mpure [])))) (mCons (mList (mFit (mCons (mpure (.int 1)) (mpure [])))) (mCons (mList (mFit (mCons (mpure (.int 0)) (mpure [])))) (mCons (mList (mFit (mCons (mpure (.int 2)) (mpure [])))) (mCons (mList (mFit (mCons (mpure (.int 1)) (mpure [])))) (mCons (mList (mFit (mCons (mpure (.int 0)) (mpure [])))) (mpure []))))))))))))
def fx_law : List Cell → SR := runB 5 m_law
end
end k53

namespace k53
open Dx PySem PySem.Spec PyProof.Rows L2
def topS (i : Nat) : Stmt := PySem.Challenge.pw_evenslices_k53_most_behind.main.body.getD i (.Pass ⟨0, 0, 0, 0⟩)
abbrev s_law_source : Stmt := topS 32
abbrev N_law_source : List Str := ["cell", "k", "great"]
theorem sc_law_source : FnScope N_law_source ["cell", "k"] (defScope s_law_source) := ⟨rfl, rfl, rfl, by decide +kernel, rfl, by decide +kernel, by decide +kernel⟩
abbrev s_is_integer : Stmt := topS 10
abbrev N_is_integer : List Str := ["value"]
theorem sc_is_integer : FnScope N_is_integer ["value"] (defScope s_is_integer) := ⟨rfl, rfl, rfl, by decide +kernel, rfl, by decide +kernel, by decide +kernel⟩
abbrev s_is_integer_from : Stmt := topS 11
abbrev N_is_integer_from : List Str := ["value", "least", "most"]
theorem sc_is_integer_from : FnScope N_is_integer_from ["value", "least", "most"] (defScope s_is_integer_from) := ⟨rfl, rfl, rfl, by decide +kernel, rfl, by decide +kernel, by decide +kernel⟩
abbrev s_are_shares : Stmt := topS 12
abbrev N_are_shares : List Str := ["value", "processors", "period", "share"]
theorem sc_are_shares : FnScope N_are_shares ["value", "processors", "period"] (defScope s_are_shares) := ⟨rfl, rfl, rfl, by decide +kernel, rfl, by decide +kernel, by decide +kernel⟩
abbrev s_check_load : Stmt := topS 13
abbrev N_check_load : List Str := ["load", "processors", "period", "shares"]
theorem sc_check_load : FnScope N_check_load ["load"] (defScope s_check_load) := ⟨rfl, rfl, rfl, by decide +kernel, rfl, by decide +kernel, by decide +kernel⟩
abbrev s_check_rule : Stmt := topS 26
abbrev N_check_rule : List Str := ["rule"]
theorem sc_check_rule : FnScope N_check_rule ["rule"] (defScope s_check_rule) := ⟨rfl, rfl, rfl, by decide +kernel, rfl, by decide +kernel, by decide +kernel⟩
abbrev s_check_number : Stmt := topS 15
abbrev N_check_number : List Str := ["value", "name", "most", "least"]
theorem sc_check_number : FnScope N_check_number ["value", "name", "most", "least"] (defScope s_check_number) := ⟨rfl, rfl, rfl, by decide +kernel, rfl, by decide +kernel, by decide +kernel⟩
abbrev s_check_single : Stmt := topS 14
abbrev N_check_single : List Str := ["load"]
theorem sc_check_single : FnScope N_check_single ["load"] (defScope s_check_single) := ⟨rfl, rfl, rfl, by decide +kernel, rfl, by decide +kernel, by decide +kernel⟩
abbrev s_check_match : Stmt := topS 27
abbrev N_check_match : List Str := ["load", "rule", "_", "period", "shares"]
theorem sc_check_match : FnScope N_check_match ["load", "rule"] (defScope s_check_match) := ⟨rfl, rfl, rfl, by decide +kernel, rfl, by decide +kernel, by decide +kernel⟩
abbrev s_most_behind : Stmt := topS 21
abbrev N_most_behind : List Str := ["lags", "shares", "behind", "lag", "share"]
theorem sc_most_behind : FnScope N_most_behind ["lags", "shares"] (defScope s_most_behind) := ⟨rfl, rfl, rfl, by decide +kernel, rfl, by decide +kernel, by decide +kernel⟩
abbrev s_rounded_up : Stmt := topS 17
abbrev N_rounded_up : List Str := ["number", "divisor"]
theorem sc_rounded_up : FnScope N_rounded_up ["number", "divisor"] (defScope s_rounded_up) := ⟨rfl, rfl, rfl, by decide +kernel, rfl, by decide +kernel, by decide +kernel⟩
abbrev s_first_end : Stmt := topS 19
abbrev N_first_end : List Str := ["lags", "shares", "whole", "left_out", "ends", "process", "lag", "share"]
theorem sc_first_end : FnScope N_first_end ["lags", "shares", "whole", "left_out"] (defScope s_first_end) := ⟨rfl, rfl, rfl, by decide +kernel, rfl, by decide +kernel, by decide +kernel⟩
abbrev s_next_end : Stmt := topS 20
abbrev N_next_end : List Str := ["lags", "shares", "whole", "ends", "lag", "share"]
theorem sc_next_end : FnScope N_next_end ["lags", "shares", "whole"] (defScope s_next_end) := ⟨rfl, rfl, rfl, by decide +kernel, rfl, by decide +kernel, by decide +kernel⟩
abbrev s_turn : Stmt := topS 28
abbrev N_turn : List Str := ["rule", "lags", "shares", "period"]
theorem sc_turn : FnScope N_turn ["rule", "lags", "shares", "period"] (defScope s_turn) := ⟨rfl, rfl, rfl, by decide +kernel, rfl, by decide +kernel, by decide +kernel⟩
abbrev s_lags_behind : Stmt := topS 22
abbrev N_lags_behind : List Str := ["lags", "shares", "whole", "process", "behind", "lag", "share"]
theorem sc_lags_behind : FnScope N_lags_behind ["lags", "shares", "whole", "process"] (defScope s_lags_behind) := ⟨rfl, rfl, rfl, by decide +kernel, rfl, by decide +kernel, by decide +kernel⟩
abbrev s_steps : Stmt := topS 29
abbrev N_steps : List Str := ["load", "rule", "many", "lags", "found", "_", "period", "shares", "process"]
theorem sc_steps : FnScope N_steps ["load", "rule", "many"] (defScope s_steps) := ⟨rfl, rfl, rfl, by decide +kernel, rfl, by decide +kernel, by decide +kernel⟩
abbrev s_rule_plan : Stmt := topS 30
abbrev N_rule_plan : List Str := ["load", "rule", "many", "process", "_"]
theorem sc_rule_plan : FnScope N_rule_plan ["load", "rule", "many"] (defScope s_rule_plan) := ⟨rfl, rfl, rfl, by decide +kernel, rfl, by decide +kernel, by decide +kernel⟩
abbrev s_law_draw : Stmt := topS 33
abbrev N_law_draw : List Str := ["source", "count", "mixed", "digit"]
theorem sc_law_draw : FnScope N_law_draw ["source", "count"] (defScope s_law_draw) := ⟨rfl, rfl, rfl, by decide +kernel, rfl, by decide +kernel, by decide +kernel⟩
abbrev s_law_parts : Stmt := topS 34
abbrev N_law_parts : List Str := ["source", "whole", "often", "far", "turn_v", "found", "left", "low", "high"]
theorem sc_law_parts : FnScope N_law_parts ["source", "whole", "often", "far"] (defScope s_law_parts) := ⟨rfl, rfl, rfl, by decide +kernel, rfl, by decide +kernel, by decide +kernel⟩
abbrev s_law_due : Stmt := topS 35
abbrev N_law_due : List Str := ["task", "often", "at", "span", "parts", "found", "here", "some", "best", "part", "size"]
theorem sc_law_due : FnScope N_law_due ["task", "often"] (defScope s_law_due) := ⟨rfl, rfl, rfl, by decide +kernel, rfl, by decide +kernel, by decide +kernel⟩
abbrev s_law_right : Stmt := topS 36
abbrev N_law_right : List Str := ["source", "span", "most_often", "often", "size", "task", "told", "line", "due", "kept"]
theorem sc_law_right : FnScope N_law_right ["source", "span", "most_often", "often"] (defScope s_law_right) := ⟨rfl, rfl, rfl, by decide +kernel, rfl, by decide +kernel, by decide +kernel⟩
abbrev s_law : Stmt := topS 37
abbrev N_law : List Str := ["script", "k", "cell", "source", "turn_v", "span"]
theorem sc_law : FnScope N_law ["script"] (defScope s_law) := ⟨rfl, rfl, rfl, by decide +kernel, rfl, by decide +kernel, by decide +kernel⟩
structure Facts (mg : Str → Option Value) : Prop where
  z_abs : mg "abs" = none
  z_bool : mg "bool" = none
  z_enumerate : mg "enumerate" = none
  z_int : mg "int" = none
  z_isinstance : mg "isinstance" = none
  z_len : mg "len" = none
  z_list : mg "list" = none
  z_max : mg "max" = none
  z_min : mg "min" = none
  z_range : mg "range" = none
  z_repr : mg "repr" = none
  z_str : mg "str" = none
  z_sum : mg "sum" = none
  z_tuple : mg "tuple" = none
  z_type : mg "type" = none
  z_zip : mg "zip" = none
  c_MOST_PROCESSES : ∃ t, mg "MOST_PROCESSES" = some (.int 12 t)
  c_MOST_PROCESSORS : ∃ t, mg "MOST_PROCESSORS" = some (.int 12 t)
  c_MOST_TICKS : ∃ t, mg "MOST_TICKS" = some (.int 1000 t)
theorem bb_abs : bootBuiltins "abs" = some (.builtin "abs") := by decide +kernel
theorem bb_bool : bootBuiltins "bool" = some (.type "bool") := by decide +kernel
theorem bb_enumerate : bootBuiltins "enumerate" = some (.type "enumerate") := by decide +kernel
theorem bb_int : bootBuiltins "int" = some (.type "int") := by decide +kernel
theorem bb_isinstance : bootBuiltins "isinstance" = some (.builtin "isinstance") := by decide +kernel
theorem bb_len : bootBuiltins "len" = some (.builtin "len") := by decide +kernel
theorem bb_list : bootBuiltins "list" = some (.type "list") := by decide +kernel
theorem bb_max : bootBuiltins "max" = some (.builtin "max") := by decide +kernel
theorem bb_min : bootBuiltins "min" = some (.builtin "min") := by decide +kernel
theorem bb_range : bootBuiltins "range" = some (.type "range") := by decide +kernel
theorem bb_repr : bootBuiltins "repr" = some (.builtin "repr") := by decide +kernel
theorem bb_str : bootBuiltins "str" = some (.type "str") := by decide +kernel
theorem bb_sum : bootBuiltins "sum" = some (.builtin "sum") := by decide +kernel
theorem bb_tuple : bootBuiltins "tuple" = some (.type "tuple") := by decide +kernel
theorem bb_type : bootBuiltins "type" = some (.type "type") := by decide +kernel
theorem bb_zip : bootBuiltins "zip" = some (.type "zip") := by decide +kernel
section
variable {P : Program} {w : World} {k : Kn} {mg : Str → Option Value} {base : Heap} {fa : Addr} {fd : FuncData}
theorem ok_law_source (T : Facts mg) (F : Fun k.K "_law_source" "_law_source" s_law_source fa fd) : FnG P w k.K mg base 1 fa fd ["cell", "k"] (spF k 2 fx_law_source) := by
  refine okF (st := s_law_source) (body := m_law_source) F sc_law_source rfl fun cdv A outer s H E hr hgd => ?_
  have tk : Takes (cxOf (L2.CX P w) P w k.K mg base N_law_source "_law_source" (defScope s_law_source) fa cdv A outer s H E) (fun cls d _ H => E cls d H) := takes_of rfl rfl rfl rfl
  have po := passes_of (X := cxOf (L2.CX P w) P w k.K mg base N_law_source "_law_source" (defScope s_law_source) fa cdv A outer s H E) rfl
  have hcalm : (cxOf (L2.CX P w) P w k.K mg base N_law_source "_law_source" (defScope s_law_source) fa cdv A outer s H E).calm = true := rfl
  exact (sCons (sSet (i := 2) sc_law_source.nd rfl (.inl rfl) (dB bAbs (by rfl) T.z_abs bb_abs (lCons (de_var (pv 0)) lNil)))
    (sOne (sRetO (dLst (lCons (dB (bMax2 hcalm) (by rfl) T.z_max bb_max (lCons (de_c pe_int) (lCons (dSub (de_var (pv 2)) (dPow (de_c pe_int) (de_c pe_int))) lNil))) (lCons (dAdd (dAdd (dMulI (dMod (dTy bInt (by rfl) T.z_int bb_int (lCons (de_var (pv 2)) lNil)) (dAdd (dPow (de_c pe_int) (de_c pe_int)) (de_c pe_int))) (de_c pe_int)) (dMulI (de_c pe_int) (de_var (pv 1)))) (dTy bInt (by rfl) T.z_int bb_int (lCons (dCmp cLt (de_var (pv 0)) (de_c pe_int) (nomark _)) lNil))) (lCons (de_c pe_int) lNil)))))))
theorem ok_is_integer (T : Facts mg) (F : Fun k.K "is_integer" "is_integer" s_is_integer fa fd) : FnG P w k.K mg base 1 fa fd ["value"] (spF k 1 fx_is_integer) := by
  refine okF (st := s_is_integer) (body := m_is_integer) F sc_is_integer rfl fun cdv A outer s H E hr hgd => ?_
  have tk : Takes (cxOf (L2.CX P w) P w k.K mg base N_is_integer "is_integer" (defScope s_is_integer) fa cdv A outer s H E) (fun cls d _ H => E cls d H) := takes_of rfl rfl rfl rfl
  have po := passes_of (X := cxOf (L2.CX P w) P w k.K mg base N_is_integer "is_integer" (defScope s_is_integer) fa cdv A outer s H E) rfl
  have hcalm : (cxOf (L2.CX P w) P w k.K mg base N_is_integer "is_integer" (defScope s_is_integer) fa cdv A outer s H E).calm = true := rfl
  exact (sOne (sRetD (dAnd (dIsi (TN := "int") (de_var (pv 0)) (by rfl) T.z_isinstance bb_isinstance (pe_bltn (v := .ty "int") (by rfl) T.z_int bb_int rfl)) (dOne (op := .And) (dNot (dIsi (TN := "bool") (de_var (pv 0)) (by rfl) T.z_isinstance bb_isinstance (pe_bltn (v := .ty "bool") (by rfl) T.z_bool bb_bool rfl)))))))
theorem ok_is_integer_from (T : Facts mg) (F : Fun k.K "is_integer_from" "is_integer_from" s_is_integer_from fa fd) (G_is_integer : Def P w k.K mg base k "is_integer" s_is_integer ["value"] 1 fx_is_integer) : FnG P w k.K mg base 2 fa fd ["value", "least", "most"] (spF k 3 fx_is_integer_from) := by
  refine okF (st := s_is_integer_from) (body := m_is_integer_from) F sc_is_integer_from rfl fun cdv A outer s H E hr hgd => ?_
  have tk : Takes (cxOf (L2.CX P w) P w k.K mg base N_is_integer_from "is_integer_from" (defScope s_is_integer_from) fa cdv A outer s H E) (fun cls d _ H => E cls d H) := takes_of rfl rfl rfl rfl
  have po := passes_of (X := cxOf (L2.CX P w) P w k.K mg base N_is_integer_from "is_integer_from" (defScope s_is_integer_from) fa cdv A outer s H E) rfl
  have hcalm : (cxOf (L2.CX P w) P w k.K mg base N_is_integer_from "is_integer_from" (defScope s_is_integer_from) fa cdv A outer s H E).calm = true := rfl
  exact (sOne (sRetD (dAnd (dCall G_is_integer (hr.mono (by decide)) hgd (by rfl) tk (aCons (de_var (pv 0)) aNil)) (dOne (op := .And) (dChain cLe cLe (de_var (pv 1)) (de_var (pv 0)) (de_var (pv 2)))))))
theorem ok_are_shares (T : Facts mg) (F : Fun k.K "are_shares" "are_shares" s_are_shares fa fd) : FnG P w k.K mg base 1 fa fd ["value", "processors", "period"] (spF k 3 fx_are_shares) := by
  refine okF (st := s_are_shares) (body := m_are_shares) F sc_are_shares rfl fun cdv A outer s H E hr hgd => ?_
  have tk : Takes (cxOf (L2.CX P w) P w k.K mg base N_are_shares "are_shares" (defScope s_are_shares) fa cdv A outer s H E) (fun cls d _ H => E cls d H) := takes_of rfl rfl rfl rfl
  have po := passes_of (X := cxOf (L2.CX P w) P w k.K mg base N_are_shares "are_shares" (defScope s_are_shares) fa cdv A outer s H E) rfl
  have hcalm : (cxOf (L2.CX P w) P w k.K mg base N_are_shares "are_shares" (defScope s_are_shares) fa cdv A outer s H E).calm = true := rfl
  exact (sCons (sIf (PW.pt (wOr (tTyIsNot (TN := "list") (de_var (pv 0)) (by rfl) T.z_type bb_type (pe_bltn (v := .ty "list") (by rfl) T.z_list bb_list rfl)) (wOne (op := .Or) (tNotD (tChainD cLe cLe (de_c pe_int) (dB bLen (by rfl) T.z_len bb_len (lCons (de_var (pv 0)) lNil)) (de_c (pe_glob (v := .int 12) (by rfl) T.c_MOST_PROCESSES.choose_spec ⟨_, rfl⟩)))))))
    (sOne (sRetD (de_c pe_bl)))
    sNil)
    (sCons (sForD po hcalm (iList (de_var (pv 0))) (gName_d (pg_name (i := 3) sc_are_shares.nd rfl (.inl rfl)))
    (sOne (sIf (PW.pt (wOr (tTyIsNot (TN := "int") (de_var (pv 3)) (by rfl) T.z_type bb_type (pe_bltn (v := .ty "int") (by rfl) T.z_int bb_int rfl)) (wOne (op := .Or) (tNotD (tChainD cLe cLe (de_c pe_int) (de_var (pv 3)) (de_var (pv 2)))))))
    (sOne (sRetD (de_c pe_bl)))
    sNil)))
    (sOne (sRetD (dCmp cLe (dB (bSum hcalm) (by rfl) T.z_sum bb_sum (lCons (de_var (pv 0)) lNil)) (dMulI (de_var (pv 1)) (de_var (pv 2))) (nomark _))))))
theorem ok_check_load (T : Facts mg) (F : Fun k.K "check_load" "check_load" s_check_load fa fd) (G_is_integer_from : Def P w k.K mg base k "is_integer_from" s_is_integer_from ["value", "least", "most"] 2 fx_is_integer_from) (G_are_shares : Def P w k.K mg base k "are_shares" s_are_shares ["value", "processors", "period"] 1 fx_are_shares) : FnG P w k.K mg base 3 fa fd ["load"] (spF k 1 fx_check_load) := by
  refine okF (st := s_check_load) (body := m_check_load) F sc_check_load rfl fun cdv A outer s H E hr hgd => ?_
  have tk : Takes (cxOf (L2.CX P w) P w k.K mg base N_check_load "check_load" (defScope s_check_load) fa cdv A outer s H E) (fun cls d _ H => E cls d H) := takes_of rfl rfl rfl rfl
  have po := passes_of (X := cxOf (L2.CX P w) P w k.K mg base N_check_load "check_load" (defScope s_check_load) fa cdv A outer s H E) rfl
  have hcalm : (cxOf (L2.CX P w) P w k.K mg base N_check_load "check_load" (defScope s_check_load) fa cdv A outer s H E).calm = true := rfl
  exact (sCons (sIf (PW.pt (wOr (tTyIsNot (TN := "tuple") (de_var (pv 0)) (by rfl) T.z_type bb_type (pe_bltn (v := .ty "tuple") (by rfl) T.z_tuple bb_tuple rfl)) (wOne (op := .Or) (tCmpD (cNe hr.units) (dB bLen (by rfl) T.z_len bb_len (lCons (de_var (pv 0)) lNil)) (de_c pe_int) (nomark _)))))
    (sOne sNever)
    sNil)
    (sCons (sAsgG (de_var (pv 0)) (gTup_d hcalm (gCons_d (gName_d (pg_name (i := 1) sc_check_load.nd rfl (.inl rfl))) (gCons_d (gName_d (pg_name (i := 2) sc_check_load.nd rfl (.inl rfl))) (gCons_d (gName_d (pg_name (i := 3) sc_check_load.nd rfl (.inl rfl))) gNil_d)))))
    (sCons (sIf (tNotD (tTru (dCall G_is_integer_from (hr.mono (by decide)) hgd (by rfl) tk (aCons (de_var (pv 1)) (aCons (de_c pe_int) (aCons (de_c (pe_glob (v := .int 12) (by rfl) T.c_MOST_PROCESSORS.choose_spec ⟨_, rfl⟩)) aNil))))))
    (sOne sNever)
    sNil)
    (sCons (sIf (tNotD (tTru (dCall G_is_integer_from (hr.mono (by decide)) hgd (by rfl) tk (aCons (de_var (pv 2)) (aCons (de_c pe_int) (aCons (dSub (dPow (de_c pe_int) (de_c pe_int)) (de_c pe_int)) aNil))))))
    (sOne sNever)
    sNil)
    (sOne (sIf (tNotD (tTru (dCall G_are_shares (hr.mono (by decide)) hgd (by rfl) tk (aCons (de_var (pv 3)) (aCons (de_var (pv 1)) (aCons (de_var (pv 2)) aNil))))))
    (sOne sNever)
    sNil))))))
theorem ok_check_rule (T : Facts mg) (F : Fun k.K "check_rule" "check_rule" s_check_rule fa fd) (U_RULES : TupG k.K mg "RULES" ["first end", "without waiting", "most behind"]) : FnG P w k.K mg base 1 fa fd ["rule"] (spF k 1 fx_check_rule) := by
  refine okF (st := s_check_rule) (body := m_check_rule) F sc_check_rule rfl fun cdv A outer s H E hr hgd => ?_
  have tk : Takes (cxOf (L2.CX P w) P w k.K mg base N_check_rule "check_rule" (defScope s_check_rule) fa cdv A outer s H E) (fun cls d _ H => E cls d H) := takes_of rfl rfl rfl rfl
  have po := passes_of (X := cxOf (L2.CX P w) P w k.K mg base N_check_rule "check_rule" (defScope s_check_rule) fa cdv A outer s H E) rfl
  have hcalm : (cxOf (L2.CX P w) P w k.K mg base N_check_rule "check_rule" (defScope s_check_rule) fa cdv A outer s H E).calm = true := rfl
  exact (sOne (sIf (PW.pt (wOr (tTyIsNot (TN := "str") (de_var (pv 0)) (by rfl) T.z_type bb_type (pe_bltn (v := .ty "str") (by rfl) T.z_str bb_str rfl)) (wOne (op := .Or) (tCmpD (cNotIn (hu65 hr)) (de_var (pv 0)) (dTupG (ss := ["first end", "without waiting", "most behind"]) U_RULES (by rfl)) (by with_unfolding_all rfl)))))
    (sOne sNever)
    sNil))
theorem ok_check_number (T : Facts mg) (F : FunD k.K "check_number" "check_number" (defArgs s_check_number) (defBody s_check_number) (defScope s_check_number) [V.non, V.int 0] [] fa fd) (G_is_integer : Def P w k.K mg base k "is_integer" s_is_integer ["value"] 1 fx_is_integer) : FnG P w k.K mg base 2 fa fd ["value", "name", "most", "least"] (spF k 4 fx_check_number) := by
  refine okFD (st := s_check_number) (body := m_check_number) F sc_check_number rfl fun cdv A outer s H E hr hgd => ?_
  have tk : Takes (cxOf (L2.CX P w) P w k.K mg base N_check_number "check_number" (defScope s_check_number) fa cdv A outer s H E) (fun cls d _ H => E cls d H) := takes_of rfl rfl rfl rfl
  have po := passes_of (X := cxOf (L2.CX P w) P w k.K mg base N_check_number "check_number" (defScope s_check_number) fa cdv A outer s H E) rfl
  have hcalm : (cxOf (L2.CX P w) P w k.K mg base N_check_number "check_number" (defScope s_check_number) fa cdv A outer s H E).calm = true := rfl
  exact (sOne (sIf (PW.pt (wOr (tNotD (tTru (dCall G_is_integer (hr.mono (by decide)) hgd (by rfl) tk (aCons (de_var (pv 0)) aNil)))) (wOr (tCmpD cLt (de_var (pv 0)) (de_var (pv 3)) (nomark _)) (wOne (op := .Or) (PW.pt (wAnd (tCmpD cIsNot (de_var (pv 2)) (de_c pe_non) (nomark _)) (wOne (op := .And) (tCmpD cGt (de_var (pv 0)) (de_var (pv 2)) (nomark _)))))))))
    (sOne sNever)
    sNil))
theorem ok_check_single (T : Facts mg) (F : Fun k.K "check_single" "check_single" s_check_single fa fd) : FnG P w k.K mg base 1 fa fd ["load"] (spF k 1 fx_check_single) := by
  refine okF (st := s_check_single) (body := m_check_single) F sc_check_single rfl fun cdv A outer s H E hr hgd => ?_
  have tk : Takes (cxOf (L2.CX P w) P w k.K mg base N_check_single "check_single" (defScope s_check_single) fa cdv A outer s H E) (fun cls d _ H => E cls d H) := takes_of rfl rfl rfl rfl
  have po := passes_of (X := cxOf (L2.CX P w) P w k.K mg base N_check_single "check_single" (defScope s_check_single) fa cdv A outer s H E) rfl
  have hcalm : (cxOf (L2.CX P w) P w k.K mg base N_check_single "check_single" (defScope s_check_single) fa cdv A outer s H E).calm = true := rfl
  exact (sOne (sIf (tCmpD (cNe hr.units) (dIx (de_var (pv 0)) (de_c pe_int)) (de_c pe_int) (nomark _))
    (sOne sNever)
    sNil))
theorem ok_check_match (T : Facts mg) (F : Fun k.K "check_match" "check_match" s_check_match fa fd) (G_check_single : Def P w k.K mg base k "check_single" s_check_single ["load"] 1 fx_check_single) : FnG P w k.K mg base 2 fa fd ["load", "rule"] (spF k 2 fx_check_match) := by
  refine okF (st := s_check_match) (body := m_check_match) F sc_check_match rfl fun cdv A outer s H E hr hgd => ?_
  have tk : Takes (cxOf (L2.CX P w) P w k.K mg base N_check_match "check_match" (defScope s_check_match) fa cdv A outer s H E) (fun cls d _ H => E cls d H) := takes_of rfl rfl rfl rfl
  have po := passes_of (X := cxOf (L2.CX P w) P w k.K mg base N_check_match "check_match" (defScope s_check_match) fa cdv A outer s H E) rfl
  have hcalm : (cxOf (L2.CX P w) P w k.K mg base N_check_match "check_match" (defScope s_check_match) fa cdv A outer s H E).calm = true := rfl
  exact (sCons (sExpr (dCall G_check_single (hr.mono (by decide)) hgd (by rfl) tk (aCons (de_var (pv 0)) aNil)))
    (sCons (sAsgG (de_var (pv 0)) (gTup_d hcalm (gCons_d (gName_d (pg_name (i := 2) sc_check_match.nd rfl (.inl rfl))) (gCons_d (gName_d (pg_name (i := 3) sc_check_match.nd rfl (.inl rfl))) (gCons_d (gName_d (pg_name (i := 4) sc_check_match.nd rfl (.inl rfl))) gNil_d)))))
    (sOne (sIf (PW.pt (wAnd (tCmpD (cNe hr.units) (de_var (pv 1)) (de_c pe_str) (nomark _)) (wOne (op := .And) (tCmpD cLt (dB (bSum hcalm) (by rfl) T.z_sum bb_sum (lCons (de_var (pv 4)) lNil)) (de_var (pv 3)) (nomark _)))))
    (sOne sNever)
    sNil))))
theorem ok_most_behind (T : Facts mg) (F : Fun k.K "most_behind" "most_behind" s_most_behind fa fd) : FnG P w k.K mg base 1 fa fd ["lags", "shares"] (spF k 2 fx_most_behind) := by
  refine okF (st := s_most_behind) (body := m_most_behind) F sc_most_behind rfl fun cdv A outer s H E hr hgd => ?_
  have tk : Takes (cxOf (L2.CX P w) P w k.K mg base N_most_behind "most_behind" (defScope s_most_behind) fa cdv A outer s H E) (fun cls d _ H => E cls d H) := takes_of rfl rfl rfl rfl
  have po := passes_of (X := cxOf (L2.CX P w) P w k.K mg base N_most_behind "most_behind" (defScope s_most_behind) fa cdv A outer s H E) rfl
  have hcalm : (cxOf (L2.CX P w) P w k.K mg base N_most_behind "most_behind" (defScope s_most_behind) fa cdv A outer s H E).calm = true := rfl
  exact (sCons (sSetLcD (i := 2) (own := [("lag", 3), ("share", 4)]) hcalm sc_most_behind.nd rfl rfl (sw_true rfl rfl rfl (by decide +kernel)) (iZip (by rfl) T.z_zip (lCons (de_var (pv 0)) (lCons (de_var (pv 1)) lNil))) (blkOk_by (N := N_most_behind) (sc := (defScope s_most_behind)) (by decide +kernel)) (fun _ _ _ _ _ => by exact (gTup_d hcalm (gCons_d (gName_d (pg_name (i := 3) sc_most_behind.nd rfl (.inl rfl))) (gCons_d (gName_d (pg_name (i := 4) sc_most_behind.nd rfl (.inl rfl))) gNil_d)))) (fun _ _ _ _ _ => by exact tsNil) (fun _ _ _ _ _ => by exact (dAdd (de_var (pv 3)) (de_var (pv 4)))))
    (sOne (sRetD (dIdx (de_var (pv 2)) (dB (bMaxL hcalm) (by rfl) T.z_max bb_max (lCons (de_var (pv 2)) lNil))))))
theorem ok_rounded_up (T : Facts mg) (F : Fun k.K "rounded_up" "rounded_up" s_rounded_up fa fd) : FnG P w k.K mg base 1 fa fd ["number", "divisor"] (spF k 2 fx_rounded_up) := by
  refine okF (st := s_rounded_up) (body := m_rounded_up) F sc_rounded_up rfl fun cdv A outer s H E hr hgd => ?_
  have tk : Takes (cxOf (L2.CX P w) P w k.K mg base N_rounded_up "rounded_up" (defScope s_rounded_up) fa cdv A outer s H E) (fun cls d _ H => E cls d H) := takes_of rfl rfl rfl rfl
  have po := passes_of (X := cxOf (L2.CX P w) P w k.K mg base N_rounded_up "rounded_up" (defScope s_rounded_up) fa cdv A outer s H E) rfl
  have hcalm : (cxOf (L2.CX P w) P w k.K mg base N_rounded_up "rounded_up" (defScope s_rounded_up) fa cdv A outer s H E).calm = true := rfl
  exact (sOne (sRetD (dNeg (dDiv (dNeg (de_var (pv 0))) (de_var (pv 1))))))
theorem ok_first_end (T : Facts mg) (F : FunD k.K "first_end" "first_end" (defArgs s_first_end) (defBody s_first_end) (defScope s_first_end) [V.non] [] fa fd) (G_rounded_up : Def P w k.K mg base k "rounded_up" s_rounded_up ["number", "divisor"] 1 fx_rounded_up) : FnG P w k.K mg base 2 fa fd ["lags", "shares", "whole", "left_out"] (spF k 4 fx_first_end) := by
  refine okFD (st := s_first_end) (body := m_first_end) F sc_first_end rfl fun cdv A outer s H E hr hgd => ?_
  have tk : Takes (cxOf (L2.CX P w) P w k.K mg base N_first_end "first_end" (defScope s_first_end) fa cdv A outer s H E) (fun cls d _ H => E cls d H) := takes_of rfl rfl rfl rfl
  have po := passes_of (X := cxOf (L2.CX P w) P w k.K mg base N_first_end "first_end" (defScope s_first_end) fa cdv A outer s H E) rfl
  have hcalm : (cxOf (L2.CX P w) P w k.K mg base N_first_end "first_end" (defScope s_first_end) fa cdv A outer s H E).calm = true := rfl
  exact (sCons (sSetLcD (i := 4) (own := [("process", 5), ("lag", 6), ("share", 7)]) hcalm sc_first_end.nd rfl rfl (sw_true rfl rfl rfl (by decide +kernel)) (iEZ (by rfl) T.z_zip (by rfl) T.z_enumerate (lCons (de_var (pv 0)) (lCons (de_var (pv 1)) lNil))) (blkOk_by (N := N_first_end) (sc := (defScope s_first_end)) (by decide +kernel)) (fun _ _ _ _ _ => by exact (gTup_d hcalm (gCons_d (gName_d (pg_name (i := 5) sc_first_end.nd rfl (.inl rfl))) (gCons_d (gTup_d hcalm (gCons_d (gName_d (pg_name (i := 6) sc_first_end.nd rfl (.inl rfl))) (gCons_d (gName_d (pg_name (i := 7) sc_first_end.nd rfl (.inl rfl))) gNil_d))) gNil_d)))) (fun _ _ _ _ _ => by exact (tsOne (PW.pt (wAnd (tCmpD cGt (de_var (pv 7)) (de_c pe_int) (nomark _)) (wAnd (tCmpD cGt (dAdd (de_var (pv 6)) (de_var (pv 7))) (de_c pe_int) (nomark _)) (wOne (op := .And) (tCmpD (cNe hr.units) (de_var (pv 5)) (de_var (pv 3)) (nomark _)))))))) (fun _ _ _ _ _ => by exact (dTup (lCons (dCall (ps := ["number", "divisor"]) G_rounded_up (hr.mono (by decide)) hgd (by rfl) takes0 (aCons (dSub (de_var (pv 2)) (de_var (pv 6))) (aCons (de_var (pv 7)) aNil))) (lCons (de_var (pv 5)) lNil)))))
    (sOne (sRetD (dIf (tTru (de_var (pv 4))) (dIx (dB (bMinP hcalm (hu66 hr)) (by rfl) T.z_min bb_min (lCons (de_var (pv 4)) lNil)) (de_c pe_int)) (de_c pe_non)))))
theorem ok_next_end (T : Facts mg) (F : Fun k.K "next_end" "next_end" s_next_end fa fd) (G_rounded_up : Def P w k.K mg base k "rounded_up" s_rounded_up ["number", "divisor"] 1 fx_rounded_up) : FnG P w k.K mg base 2 fa fd ["lags", "shares", "whole"] (spF k 3 fx_next_end) := by
  refine okF (st := s_next_end) (body := m_next_end) F sc_next_end rfl fun cdv A outer s H E hr hgd => ?_
  have tk : Takes (cxOf (L2.CX P w) P w k.K mg base N_next_end "next_end" (defScope s_next_end) fa cdv A outer s H E) (fun cls d _ H => E cls d H) := takes_of rfl rfl rfl rfl
  have po := passes_of (X := cxOf (L2.CX P w) P w k.K mg base N_next_end "next_end" (defScope s_next_end) fa cdv A outer s H E) rfl
  have hcalm : (cxOf (L2.CX P w) P w k.K mg base N_next_end "next_end" (defScope s_next_end) fa cdv A outer s H E).calm = true := rfl
  exact (sCons (sSetLcD (i := 3) (own := [("lag", 4), ("share", 5)]) hcalm sc_next_end.nd rfl rfl (sw_true rfl rfl rfl (by decide +kernel)) (iZip (by rfl) T.z_zip (lCons (de_var (pv 0)) (lCons (de_var (pv 1)) lNil))) (blkOk_by (N := N_next_end) (sc := (defScope s_next_end)) (by decide +kernel)) (fun _ _ _ _ _ => by exact (gTup_d hcalm (gCons_d (gName_d (pg_name (i := 4) sc_next_end.nd rfl (.inl rfl))) (gCons_d (gName_d (pg_name (i := 5) sc_next_end.nd rfl (.inl rfl))) gNil_d)))) (fun _ _ _ _ _ => by exact tsNil) (fun _ _ _ _ _ => by exact (dCall (ps := ["number", "divisor"]) G_rounded_up (hr.mono (by decide)) hgd (by rfl) takes0 (aCons (dSub (de_var (pv 2)) (de_var (pv 4))) (aCons (de_var (pv 5)) aNil)))))
    (sOne (sRetD (dIdx (de_var (pv 3)) (dB (bMinL hcalm) (by rfl) T.z_min bb_min (lCons (de_var (pv 3)) lNil))))))
theorem ok_turn (T : Facts mg) (F : Fun k.K "turn" "turn" s_turn fa fd) (G_most_behind : Def P w k.K mg base k "most_behind" s_most_behind ["lags", "shares"] 1 fx_most_behind) (G_first_end : DefD P w k.K mg base k "first_end" s_first_end ["lags", "shares", "whole", "left_out"] [V.non] 2 fx_first_end) (G_next_end : Def P w k.K mg base k "next_end" s_next_end ["lags", "shares", "whole"] 2 fx_next_end) : FnG P w k.K mg base 3 fa fd ["rule", "lags", "shares", "period"] (spF k 4 fx_turn) := by
  refine okF (st := s_turn) (body := m_turn) F sc_turn rfl fun cdv A outer s H E hr hgd => ?_
  have tk : Takes (cxOf (L2.CX P w) P w k.K mg base N_turn "turn" (defScope s_turn) fa cdv A outer s H E) (fun cls d _ H => E cls d H) := takes_of rfl rfl rfl rfl
  have po := passes_of (X := cxOf (L2.CX P w) P w k.K mg base N_turn "turn" (defScope s_turn) fa cdv A outer s H E) rfl
  have hcalm : (cxOf (L2.CX P w) P w k.K mg base N_turn "turn" (defScope s_turn) fa cdv A outer s H E).calm = true := rfl
  exact (sCons (sIf (tCmpD (cEq hr.units) (de_var (pv 0)) (de_c pe_str) (nomark _))
    (sOne (sRetD (dCallW (dvs := [V.non]) (ps := ["lags", "shares", "whole", "left_out"]) 3 0 G_first_end (fun _ _ _ _ _ _ _ us its hu hi => match us, hu, its, hi with | [_, _, _], _, [_], _ => ⟨_, rfl, rfl⟩) (List.cons_ne_nil _ _) (by rfl) (fun _ _ => (DpAll.cons Dp.non DpAll.nil)) (hr.mono (by decide)) hgd (by rfl) tk (aCons (de_var (pv 1)) (aCons (de_var (pv 2)) (aCons (de_var (pv 3)) aNil))))))
    sNil)
    (sCons (sIf (tCmpD (cEq hr.units) (de_var (pv 0)) (de_c pe_str) (nomark _))
    (sOne (sRetD (dCall G_next_end (hr.mono (by decide)) hgd (by rfl) tk (aCons (de_var (pv 1)) (aCons (de_var (pv 2)) (aCons (de_var (pv 3)) aNil))))))
    sNil)
    (sOne (sRetD (dCall G_most_behind (hr.mono (by decide)) hgd (by rfl) tk (aCons (de_var (pv 1)) (aCons (de_var (pv 2)) aNil)))))))
theorem ok_lags_behind (T : Facts mg) (F : Fun k.K "lags_behind" "lags_behind" s_lags_behind fa fd) : FnG P w k.K mg base 1 fa fd ["lags", "shares", "whole", "process"] (spF k 4 fx_lags_behind) := by
  refine okF (st := s_lags_behind) (body := m_lags_behind) F sc_lags_behind rfl fun cdv A outer s H E hr hgd => ?_
  have tk : Takes (cxOf (L2.CX P w) P w k.K mg base N_lags_behind "lags_behind" (defScope s_lags_behind) fa cdv A outer s H E) (fun cls d _ H => E cls d H) := takes_of rfl rfl rfl rfl
  have po := passes_of (X := cxOf (L2.CX P w) P w k.K mg base N_lags_behind "lags_behind" (defScope s_lags_behind) fa cdv A outer s H E) rfl
  have hcalm : (cxOf (L2.CX P w) P w k.K mg base N_lags_behind "lags_behind" (defScope s_lags_behind) fa cdv A outer s H E).calm = true := rfl
  exact (sCons (sSetLc (i := 4) (own := [("lag", 5), ("share", 6)]) hcalm sc_lags_behind.nd rfl rfl (sw_true rfl rfl rfl (by decide +kernel)) (iZip (by rfl) T.z_zip (lCons (de_var (pv 0)) (lCons (de_var (pv 1)) lNil))) (blkOk_by (N := N_lags_behind) (sc := (defScope s_lags_behind)) (by decide +kernel)) (fun _ _ _ _ _ => by exact (gTup_d hcalm (gCons_d (gName_d (pg_name (i := 5) sc_lags_behind.nd rfl (.inl rfl))) (gCons_d (gName_d (pg_name (i := 6) sc_lags_behind.nd rfl (.inl rfl))) gNil_d)))) (fun _ _ _ _ _ => by exact tsNil) (fun _ _ _ _ _ => by exact (dAdd (de_var (pv 5)) (de_var (pv 6)))))
    (sCons (sIf (tCmpD cIsNot (de_var (pv 3)) (de_c pe_non) (nomark _))
    (sOne (sAugIxMD (pv 4) (de_var (pv 3)) (de_var (pv 2))))
    sNil)
    (sOne (sRetO (oTake (pv 4))))))
theorem ok_steps (T : Facts mg) (F : Fun k.K "steps" "steps" s_steps fa fd) (G_turn : Def P w k.K mg base k "turn" s_turn ["rule", "lags", "shares", "period"] 3 fx_turn) (G_lags_behind : Def P w k.K mg base k "lags_behind" s_lags_behind ["lags", "shares", "whole", "process"] 1 fx_lags_behind) : FnG P w k.K mg base 4 fa fd ["load", "rule", "many"] (spF k 3 fx_steps) := by
  refine okF (st := s_steps) (body := m_steps) F sc_steps rfl fun cdv A outer s H E hr hgd => ?_
  have tk : Takes (cxOf (L2.CX P w) P w k.K mg base N_steps "steps" (defScope s_steps) fa cdv A outer s H E) (fun cls d _ H => E cls d H) := takes_of rfl rfl rfl rfl
  have po := passes_of (X := cxOf (L2.CX P w) P w k.K mg base N_steps "steps" (defScope s_steps) fa cdv A outer s H E) rfl
  have hcalm : (cxOf (L2.CX P w) P w k.K mg base N_steps "steps" (defScope s_steps) fa cdv A outer s H E).calm = true := rfl
  exact (sCons (sAsgG (de_var (pv 0)) (gTup_d hcalm (gCons_d (gName_d (pg_name (i := 5) sc_steps.nd rfl (.inl rfl))) (gCons_d (gName_d (pg_name (i := 6) sc_steps.nd rfl (.inl rfl))) (gCons_d (gName_d (pg_name (i := 7) sc_steps.nd rfl (.inl rfl))) gNil_d)))))
    (sCons (sSet (i := 3) sc_steps.nd rfl (.inl rfl) (de_list (dRep (dLst (lCons (de_c pe_int) lNil)) (dB bLen (by rfl) T.z_len bb_len (lCons (de_var (pv 7)) lNil)))))
    (sCons (sSetO (i := 4) sc_steps.nd rfl (.inl rfl) (dLst lNil))
    (sCons (sForD po hcalm (iRng1 (by rfl) T.z_range (lCons (de_var (pv 2)) lNil)) (gName_d (pg_name (i := 5) sc_steps.nd rfl (.inl rfl)))
    (sCons (sSet (i := 8) sc_steps.nd rfl (.inl rfl) (dCall G_turn (hr.mono (by decide)) hgd (by rfl) tk (aCons (de_var (pv 1)) (aCons (de_var (pv 3)) (aCons (de_var (pv 7)) (aCons (de_var (pv 6)) aNil))))))
    (sCons (sSet (i := 3) sc_steps.nd rfl (.inl rfl) (dCall G_lags_behind (hr.mono (by decide)) hgd (by rfl) tk (aCons (de_var (pv 3)) (aCons (de_var (pv 7)) (aCons (de_var (pv 6)) (aCons (de_var (pv 8)) aNil))))))
    (sOne (sAppD (pv 4) (dTup (lCons (de_var (pv 8)) (lCons (de_var (pv 3)) lNil))))))))
    (sOne (sRetO (oTake (pv 4))))))))
theorem ok_rule_plan (T : Facts mg) (F : Fun k.K "rule_plan" "rule_plan" s_rule_plan fa fd) (G_check_load : Def P w k.K mg base k "check_load" s_check_load ["load"] 3 fx_check_load) (G_check_rule : Def P w k.K mg base k "check_rule" s_check_rule ["rule"] 1 fx_check_rule) (G_check_number : DefD P w k.K mg base k "check_number" s_check_number ["value", "name", "most", "least"] [V.non, V.int 0] 2 fx_check_number) (G_check_match : Def P w k.K mg base k "check_match" s_check_match ["load", "rule"] 2 fx_check_match) (G_steps : Def P w k.K mg base k "steps" s_steps ["load", "rule", "many"] 4 fx_steps) : FnG P w k.K mg base 5 fa fd ["load", "rule", "many"] (spF k 3 fx_rule_plan) := by
  refine okF (st := s_rule_plan) (body := m_rule_plan) F sc_rule_plan rfl fun cdv A outer s H E hr hgd => ?_
  have tk : Takes (cxOf (L2.CX P w) P w k.K mg base N_rule_plan "rule_plan" (defScope s_rule_plan) fa cdv A outer s H E) (fun cls d _ H => E cls d H) := takes_of rfl rfl rfl rfl
  have po := passes_of (X := cxOf (L2.CX P w) P w k.K mg base N_rule_plan "rule_plan" (defScope s_rule_plan) fa cdv A outer s H E) rfl
  have hcalm : (cxOf (L2.CX P w) P w k.K mg base N_rule_plan "rule_plan" (defScope s_rule_plan) fa cdv A outer s H E).calm = true := rfl
  exact (sCons (sExpr (dCall G_check_load (hr.mono (by decide)) hgd (by rfl) tk (aCons (de_var (pv 0)) aNil)))
    (sCons (sExpr (dCall G_check_rule (hr.mono (by decide)) hgd (by rfl) tk (aCons (de_var (pv 1)) aNil)))
    (sCons (sExpr (dCallW (dvs := [V.non, V.int 0]) (ps := ["value", "name", "most", "least"]) 3 1 G_check_number (fun _ _ _ _ _ _ _ us its hu hi => match us, hu, its, hi with | [_, _, _], _, [_, _], _ => ⟨_, rfl, rfl⟩) (List.cons_ne_nil _ _) (by rfl) (fun _ _ => (DpAll.cons (Dp.int _) DpAll.nil)) (hr.mono (by decide)) hgd (by rfl) tk (aCons (de_var (pv 2)) (aCons (de_c pe_str) (aCons (de_c (pe_glob (v := .int 1000) (by rfl) T.c_MOST_TICKS.choose_spec ⟨_, rfl⟩)) aNil)))))
    (sCons (sExpr (dCall G_check_match (hr.mono (by decide)) hgd (by rfl) tk (aCons (de_var (pv 0)) (aCons (de_var (pv 1)) aNil))))
    (sOne (sRetO (dComp (own := [("process", 3), ("_", 4)]) hcalm sc_rule_plan.nd (iList (dCall G_steps (hr.mono (by decide)) hgd (by rfl) tk (aCons (de_var (pv 0)) (aCons (de_var (pv 1)) (aCons (de_var (pv 2)) aNil))))) (blkOk_by (N := N_rule_plan) (sc := (defScope s_rule_plan)) (by decide +kernel)) (fun _ _ _ _ _ => by exact (gTup_d hcalm (gCons_d (gName_d (pg_name (i := 3) sc_rule_plan.nd rfl (.inl rfl))) (gCons_d (gName_d (pg_name (i := 4) sc_rule_plan.nd rfl (.inl rfl))) gNil_d)))) (fun _ _ _ _ _ => by exact tsNil) (fun _ _ _ _ _ => by exact (dIf (tCmpD cIs (de_var (pv 3)) (de_c pe_non) (nomark _)) (de_list (dLst lNil)) (de_list (dLst (lCons (de_var (pv 3)) lNil))))))))))))
theorem okN_rule_plan (T : Facts mg) (F : Fun k.K "rule_plan" "rule_plan" s_rule_plan fa fd) (G_check_load : Def P w k.K mg base k "check_load" s_check_load ["load"] 3 fx_check_load) (G_check_rule : Def P w k.K mg base k "check_rule" s_check_rule ["rule"] 1 fx_check_rule) (G_check_number : DefD P w k.K mg base k "check_number" s_check_number ["value", "name", "most", "least"] [V.non, V.int 0] 2 fx_check_number) (G_check_match : Def P w k.K mg base k "check_match" s_check_match ["load", "rule"] 2 fx_check_match) (G_steps : Def P w k.K mg base k "steps" s_steps ["load", "rule", "many"] 4 fx_steps) : FnG P w k.K mg base 5 fa fd ["load", "rule", "many"] (spN k 3 fN_rule_plan) := by
  refine okFN (st := s_rule_plan) (body := mN_rule_plan) (mt := rN_rule_plan) F sc_rule_plan rfl fun cdv A outer s H E hr hgd => ?_
  have tk : Takes (cxOf (L2.CX P w) P w k.K mg base N_rule_plan "rule_plan" (defScope s_rule_plan) fa cdv A outer s H E) (fun cls d _ H => E cls d H) := takes_of rfl rfl rfl rfl
  have po := passes_of (X := cxOf (L2.CX P w) P w k.K mg base N_rule_plan "rule_plan" (defScope s_rule_plan) fa cdv A outer s H E) rfl
  have hcalm : (cxOf (L2.CX P w) P w k.K mg base N_rule_plan "rule_plan" (defScope s_rule_plan) fa cdv A outer s H E).calm = true := rfl
  exact (nCons (sExpr (dCall G_check_load (hr.mono (by decide)) hgd (by rfl) tk (aCons (de_var (pv 0)) aNil)))
    (nCons (sExpr (dCall G_check_rule (hr.mono (by decide)) hgd (by rfl) tk (aCons (de_var (pv 1)) aNil)))
    (nCons (sExpr (dCallW (dvs := [V.non, V.int 0]) (ps := ["value", "name", "most", "least"]) 3 1 G_check_number (fun _ _ _ _ _ _ _ us its hu hi => match us, hu, its, hi with | [_, _, _], _, [_, _], _ => ⟨_, rfl, rfl⟩) (List.cons_ne_nil _ _) (by rfl) (fun _ _ => (DpAll.cons (Dp.int _) DpAll.nil)) (hr.mono (by decide)) hgd (by rfl) tk (aCons (de_var (pv 2)) (aCons (de_c pe_str) (aCons (de_c (pe_glob (v := .int 1000) (by rfl) T.c_MOST_TICKS.choose_spec ⟨_, rfl⟩)) aNil)))))
    (nCons (sExpr (dCall G_check_match (hr.mono (by decide)) hgd (by rfl) tk (aCons (de_var (pv 0)) (aCons (de_var (pv 1)) aNil))))
    (nRet (own := [("process", 3), ("_", 4)]) hcalm sc_rule_plan.nd (iList (dCall G_steps (hr.mono (by decide)) hgd (by rfl) tk (aCons (de_var (pv 0)) (aCons (de_var (pv 1)) (aCons (de_var (pv 2)) aNil))))) (blkOk_by (N := N_rule_plan) (sc := (defScope s_rule_plan)) (by decide +kernel)) (fun _ _ _ _ _ => by exact (gTup_d hcalm (gCons_d (gName_d (pg_name (i := 3) sc_rule_plan.nd rfl (.inl rfl))) (gCons_d (gName_d (pg_name (i := 4) sc_rule_plan.nd rfl (.inl rfl))) gNil_d)))) (fun _ _ _ _ _ => by exact (oIf (tCmpD cIs (de_var (pv 3)) (de_c pe_non) (nomark _)) (dLst lNil) (dLst (lCons (de_var (pv 3)) lNil)))))))))
theorem ok_law_draw (T : Facts mg) (F : Fun k.K "_law_draw" "_law_draw" s_law_draw fa fd) : FnG P w k.K mg base 1 fa fd ["source", "count"] (spF k 2 fx_law_draw) := by
  refine okF (st := s_law_draw) (body := m_law_draw) F sc_law_draw rfl fun cdv A outer s H E hr hgd => ?_
  have tk : Takes (cxOf (L2.CX P w) P w k.K mg base N_law_draw "_law_draw" (defScope s_law_draw) fa cdv A outer s H E) (fun cls d _ H => E cls d H) := takes_of rfl rfl rfl rfl
  have po := passes_of (X := cxOf (L2.CX P w) P w k.K mg base N_law_draw "_law_draw" (defScope s_law_draw) fa cdv A outer s H E) rfl
  have hcalm : (cxOf (L2.CX P w) P w k.K mg base N_law_draw "_law_draw" (defScope s_law_draw) fa cdv A outer s H E).calm = true := rfl
  exact (sCons (sIf (tCmpD cGt (dIxO (pv 0) (de_c pe_int)) (de_c pe_int) (nomark _))
    (sCons (sSet (i := 3) sc_law_draw.nd rfl (.inl rfl) (dMod (dTy bInt (by rfl) T.z_int bb_int (lCons (dIxO (pv 0) (de_c pe_int)) lNil)) (de_var (pv 1))))
    (sCons (sSetIxD (pg_sub (pv 0) (de_c pe_int) set_list) (dDiv (dIxO (pv 0) (de_c pe_int)) (de_var (pv 1))))
    (sOne (sRetD (de_var (pv 3))))))
    sNil)
    (sCons (sSetIxD (pg_sub (pv 0) (de_c pe_int) set_list) (dAdd (dIxO (pv 0) (de_c pe_int)) (de_c pe_int)))
    (sCons (sSet (i := 2) sc_law_draw.nd rfl (.inl rfl) (dMod (dTy bInt (by rfl) T.z_int bb_int (lCons (dPow (dAdd (dIxO (pv 0) (de_c pe_int)) (dMulI (de_c pe_int) (dIxO (pv 0) (de_c pe_int)))) (de_c pe_int)) lNil)) (dAdd (dPow (de_c pe_int) (de_c pe_int)) (de_c pe_int))))
    (sCons (sSet (i := 2) sc_law_draw.nd rfl (.inl rfl) (dMod (dTy bInt (by rfl) T.z_int bb_int (lCons (dPow (dAdd (dMulI (de_var (pv 2)) (dIxO (pv 0) (de_c pe_int))) (de_c pe_int)) (de_c pe_int)) lNil)) (dAdd (dPow (de_c pe_int) (de_c pe_int)) (de_c pe_int))))
    (sOne (sRetD (dMod (dTy bInt (by rfl) T.z_int bb_int (lCons (dDiv (de_var (pv 2)) (de_c pe_int)) lNil)) (de_var (pv 1)))))))))
theorem ok_law_parts (T : Facts mg) (F : Fun k.K "_law_parts" "_law_parts" s_law_parts fa fd) (G_law_draw : Def P w k.K mg base k "_law_draw" s_law_draw ["source", "count"] 1 fx_law_draw) : FnG P w k.K mg base 2 fa fd ["source", "whole", "often", "far"] (spF k 4 fx_law_parts) := by
  refine okF (st := s_law_parts) (body := m_law_parts) F sc_law_parts rfl fun cdv A outer s H E hr hgd => ?_
  have tk : Takes (cxOf (L2.CX P w) P w k.K mg base N_law_parts "_law_parts" (defScope s_law_parts) fa cdv A outer s H E) (fun cls d _ H => E cls d H) := takes_of rfl rfl rfl rfl
  have po := passes_of (X := cxOf (L2.CX P w) P w k.K mg base N_law_parts "_law_parts" (defScope s_law_parts) fa cdv A outer s H E) rfl
  have hcalm : (cxOf (L2.CX P w) P w k.K mg base N_law_parts "_law_parts" (defScope s_law_parts) fa cdv A outer s H E).calm = true := rfl
  exact (sCons (sPar_od (i := 5) (j := 6) hcalm sc_law_parts.nd rfl rfl (by decide) rfl rfl (dLst lNil) (de_var (pv 1)))
    (sCons (sForD po hcalm (iRng1 (by rfl) T.z_range (lCons (de_var (pv 2)) lNil)) (gName_d (pg_name (i := 4) sc_law_parts.nd rfl (.inl rfl)))
    (sCons (sPar_dd (i := 7) (j := 8) hcalm sc_law_parts.nd rfl rfl (by decide) rfl rfl (dB (bMax2 hcalm) (by rfl) T.z_max bb_max (lCons (de_c pe_int) (lCons (dSub (de_var (pv 6)) (dMulI (de_var (pv 3)) (dSub (dSub (de_var (pv 2)) (de_var (pv 4))) (de_c pe_int)))) lNil))) (dB (bMin2 hcalm) (by rfl) T.z_min bb_min (lCons (de_var (pv 3)) (lCons (dSub (de_var (pv 6)) (dSub (dSub (de_var (pv 2)) (de_var (pv 4))) (de_c pe_int))) lNil))))
    (sCons (sAppD (pv 5) (dAdd (de_var (pv 7)) (dCall G_law_draw (hr.mono (by decide)) hgd (by rfl) tk (aSlot (pv 0) (aCons (dAdd (dSub (de_var (pv 8)) (de_var (pv 7))) (de_c pe_int)) aNil)))))
    (sOne (sSet (i := 6) sc_law_parts.nd rfl (.inl rfl) (dSub (de_var (pv 6)) (dIxO (pv 5) (dNeg (de_c pe_int)))))))))
    (sOne (sRetO (oTake (pv 5))))))
theorem ok_law_due (T : Facts mg) (F : Fun k.K "_law_due" "_law_due" s_law_due fa fd) : FnG P w k.K mg base 1 fa fd ["task", "often"] (spF k 2 fx_law_due) := by
  refine okF (st := s_law_due) (body := m_law_due) F sc_law_due rfl fun cdv A outer s H E hr hgd => ?_
  have tk : Takes (cxOf (L2.CX P w) P w k.K mg base N_law_due "_law_due" (defScope s_law_due) fa cdv A outer s H E) (fun cls d _ H => E cls d H) := takes_of rfl rfl rfl rfl
  have po := passes_of (X := cxOf (L2.CX P w) P w k.K mg base N_law_due "_law_due" (defScope s_law_due) fa cdv A outer s H E) rfl
  have hcalm : (cxOf (L2.CX P w) P w k.K mg base N_law_due "_law_due" (defScope s_law_due) fa cdv A outer s H E).calm = true := rfl
  exact (sCons (sAsgG (dTup (lCons (dIx (de_var (pv 0)) (de_c pe_int)) (lCons (dIx (de_var (pv 0)) (de_c pe_int)) lNil))) (gTup_d hcalm (gCons_d (gName_d (pg_name (i := 3) sc_law_due.nd rfl (.inr rfl))) (gCons_d (gName_d (pg_name (i := 4) sc_law_due.nd rfl (.inl rfl))) gNil_d))))
    (sCons (sPar_oo (i := 5) (j := 6) hcalm sc_law_due.nd rfl rfl (by decide) rfl rfl (dLst lNil) (dRep (dLst (lCons (de_c pe_int) lNil)) (dB bLen (by rfl) T.z_len bb_len (lCons (de_var (pv 4)) lNil))))
    (sCons (sForD po hcalm (iRng1 (by rfl) T.z_range (lCons (de_var (pv 1)) lNil)) (gName_d (pg_name (i := 2) sc_law_due.nd rfl (.inr rfl)))
    (sCons (sSetLcL (i := 7) (l := 6) (own := [("part", 9), ("size", 10)]) hcalm sc_law_due.nd rfl rfl (sw_true rfl rfl rfl (by decide +kernel)) (iZip (by rfl) T.z_zip (lCons (de_var (pv 4)) (lCons (de_var (pv 6)) lNil))) (blkOk_by (N := N_law_due) (sc := (defScope s_law_due)) (by decide +kernel)) (fun _ _ _ _ _ => by exact (gTup_d hcalm (gCons_d (gName_d (pg_name (i := 9) sc_law_due.nd rfl (.inl rfl))) (gCons_d (gName_d (pg_name (i := 10) sc_law_due.nd rfl (.inl rfl))) gNil_d)))) (fun _ _ _ _ _ => by exact tsNil) (fun _ _ _ _ _ => by exact (dSub (dMulI (de_var (pv 9)) (dAdd (de_var (pv 2)) (de_c pe_int))) (dMulI (de_var (pv 3)) (de_var (pv 10))))))
    (sCons (sSet (i := 8) sc_law_due.nd rfl (.inl rfl) (dIdx (de_var (pv 7)) (dB (bMaxL hcalm) (by rfl) T.z_max bb_max (lCons (de_var (pv 7)) lNil))))
    (sCons (sSetIxD (pg_sub (pv 6) (de_var (pv 8)) set_list) (dAdd (dIxO (pv 6) (de_var (pv 8))) (de_c pe_int)))
    (sOne (sAppD (pv 5) (de_list (dLst (lCons (de_var (pv 8)) lNil)))))))))
    (sOne (sRetO (oTake (pv 5)))))))
theorem ok_law_right (T : Facts mg) (F : Fun k.K "_law_right" "_law_right" s_law_right fa fd) (G_rule_plan : Def P w k.K mg base k "rule_plan" s_rule_plan ["load", "rule", "many"] 5 fx_rule_plan) (G_law_draw : Def P w k.K mg base k "_law_draw" s_law_draw ["source", "count"] 1 fx_law_draw) (G_law_parts : Def P w k.K mg base k "_law_parts" s_law_parts ["source", "whole", "often", "far"] 2 fx_law_parts) (G_law_due : Def P w k.K mg base k "_law_due" s_law_due ["task", "often"] 1 fx_law_due) (G_rule_plan_N : DefN P w k.K mg base k "rule_plan" s_rule_plan ["load", "rule", "many"] 5 fN_rule_plan) : FnG P w k.K mg base 6 fa fd ["source", "span", "most_often", "often"] (spF k 4 fx_law_right) := by
  refine okF (st := s_law_right) (body := m_law_right) F sc_law_right rfl fun cdv A outer s H E hr hgd => ?_
  have tk : Takes (cxOf (L2.CX P w) P w k.K mg base N_law_right "_law_right" (defScope s_law_right) fa cdv A outer s H E) (fun cls d _ H => E cls d H) := takes_of rfl rfl rfl rfl
  have po := passes_of (X := cxOf (L2.CX P w) P w k.K mg base N_law_right "_law_right" (defScope s_law_right) fa cdv A outer s H E) rfl
  have hcalm : (cxOf (L2.CX P w) P w k.K mg base N_law_right "_law_right" (defScope s_law_right) fa cdv A outer s H E).calm = true := rfl
  exact (sCons (sSet (i := 4) sc_law_right.nd rfl (.inl rfl) (dAdd (de_c pe_int) (dCall G_law_draw (hr.mono (by decide)) hgd (by rfl) tk (aSlot (pv 0) (aCons (dB (bMin2 hcalm) (by rfl) T.z_min bb_min (lCons (de_var (pv 2)) (lCons (de_var (pv 1)) lNil))) aNil)))))
    (sCons (sSet (i := 5) sc_law_right.nd rfl (.inl rfl) (dTup (lCons (de_c pe_int) (lCons (de_var (pv 1)) (lCons (dCall G_law_parts (hr.mono (by decide)) hgd (by rfl) tk (aSlot (pv 0) (aCons (de_var (pv 1)) (aCons (de_var (pv 4)) (aCons (de_var (pv 1)) aNil))))) lNil)))))
    (sCons (sPar_dd (i := 8) (j := 9) hcalm sc_law_right.nd rfl rfl (by decide) rfl rfl (dCall G_law_due (hr.mono (by decide)) hgd (by rfl) tk (aCons (de_var (pv 5)) (aCons (de_var (pv 3)) aNil))) (dB (bRepr hgd (hu66 hr)) (by rfl) T.z_repr bb_repr (lCons (de_var (pv 5)) lNil)))
    (nNew (i := 6) sc_law_right.nd rfl (.inl rfl) (nCall G_rule_plan_N (hr.mono (by decide)) hgd (by rfl) tk (aCons (de_var (pv 5)) (aCons (de_c pe_str) (aCons (de_var (pv 3)) aNil)))) (nCallK0 (ks := ["many", "rule", "load"]) (is := [2, 1, 0]) G_rule_plan_N (fun _ _ _ _ _ _ us ws hu hw => match us, hu, ws, hw with | [], _, [_, _, _], _ => rfl) (hr.mono (by decide)) hgd (by rfl) tk (kCons (de_var (pv 3)) (kCons (de_c pe_str) (kCons (de_var (pv 5)) kNil))))
    (nTest (tCmpD (cNe hr.units) (dB (bRepr hgd (hu66 hr)) (by rfl) T.z_repr bb_repr (lCons (de_var (pv 6)) lNil)) (dB (bRepr hgd (hu66 hr)) (by rfl) T.z_repr bb_repr (lCons (de_list (dLst (lCons (de_var (pv 8)) (lCons (de_var (pv 8)) lNil)))) lNil)) (nomark _)) (sOne (sRetD (de_c pe_bl)))
    (nLast (i := 6) (j := 7) po hcalm sc_law_right.nd rfl (.inl rfl) (pv 6) (de_c pe_int) (pv 7) (de_c pe_non) (pv 6) (de_c pe_int) (de_c pe_non)
    (sOne (sRetD (dAnd (dCmp (cEq hr.units) (dB (bRepr hgd (hu66 hr)) (by rfl) T.z_repr bb_repr (lCons (dCall G_rule_plan (hr.mono (by decide)) hgd (by rfl) tk (aCons (de_var (pv 5)) (aCons (de_c pe_str) (aCons (de_var (pv 3)) aNil)))) lNil)) (dB (bRepr hgd (hu66 hr)) (by rfl) T.z_repr bb_repr (lCons (de_var (pv 8)) lNil)) (nomark _)) (dOne (op := .And) (dCmp (cEq hr.units) (dB (bRepr hgd (hu66 hr)) (by rfl) T.z_repr bb_repr (lCons (de_var (pv 5)) lNil)) (de_var (pv 9)) (nomark _))))))))))))
theorem ok_law (T : Facts mg) (F : Fun k.K "law" "law" s_law fa fd) (G_law_source : Def P w k.K mg base k "_law_source" s_law_source ["cell", "k"] 1 fx_law_source) (G_rule_plan : Def P w k.K mg base k "rule_plan" s_rule_plan ["load", "rule", "many"] 5 fx_rule_plan) (G_law_draw : Def P w k.K mg base k "_law_draw" s_law_draw ["source", "count"] 1 fx_law_draw) (G_law_right : Def P w k.K mg base k "_law_right" s_law_right ["source", "span", "most_often", "often"] 6 fx_law_right) : FnG P w k.K mg base 7 fa fd ["script"] (spF k 1 fx_law) := by
  refine okF (st := s_law) (body := m_law) F sc_law rfl fun cdv A outer s H E hr hgd => ?_
  have tk : Takes (cxOf (L2.CX P w) P w k.K mg base N_law "law" (defScope s_law) fa cdv A outer s H E) (fun cls d _ H => E cls d H) := takes_of rfl rfl rfl rfl
  have po := passes_of (X := cxOf (L2.CX P w) P w k.K mg base N_law "law" (defScope s_law) fa cdv A outer s H E) rfl
  have hcalm : (cxOf (L2.CX P w) P w k.K mg base N_law "law" (defScope s_law) fa cdv A outer s H E).calm = true := rfl
  exact (sCons (sForD po hcalm (iEnum (by rfl) T.z_enumerate (lCons (de_list (dSl (dAdd (de_var (pv 0)) (de_list (dLst (lCons (de_c pe_int) lNil)))) pNone (pSome (dB (bMax2 hcalm) (by rfl) T.z_max bb_max (lCons (de_c pe_int) (lCons (dB (bMin2 hcalm) (by rfl) T.z_min bb_min (lCons (dB bLen (by rfl) T.z_len bb_len (lCons (de_var (pv 0)) lNil)) (lCons (de_c pe_int) lNil))) lNil)))))) lNil)) (gTup_d hcalm (gCons_d (gName_d (pg_name (i := 1) sc_law.nd rfl (.inl rfl))) (gCons_d (gName_d (pg_name (i := 2) sc_law.nd rfl (.inl rfl))) gNil_d)))
    (sCons (sSetO (i := 3) sc_law.nd rfl (.inl rfl) (oCall G_law_source (hr.mono (by decide)) hgd (by rfl) tk (aCons (de_var (pv 2)) (aCons (de_var (pv 1)) aNil))))
    (sCons (sIf (PW.pt (wAnd (tCmpD (cEq hr.units) (de_var (pv 1)) (de_c pe_int) (nomark _)) (wAnd (tCmpD (cNe hr.units) (de_var (pv 0)) (de_list (dLst lNil)) (nomark _)) (wOne (op := .And) (tNotD (tTru (dCall G_law_right (hr.mono (by decide)) hgd (by rfl) tk (aSlot (pv 3) (aCons (de_c pe_int) (aCons (de_c pe_int) (aCons (de_c pe_int) aNil)))))))))))
    (sOne (sRetD (de_c pe_bl)))
    sNil)
    (sCons (sIf (tNotD (tTru (dCall G_law_right (hr.mono (by decide)) hgd (by rfl) tk (aSlot (pv 3) (aCons (dAdd (de_c pe_int) (dCall G_law_draw (hr.mono (by decide)) hgd (by rfl) tk (aSlot (pv 3) (aCons (de_c pe_int) aNil)))) (aCons (de_c pe_int) (aCons (dCall G_law_draw (hr.mono (by decide)) hgd (by rfl) tk (aSlot (pv 3) (aCons (de_c pe_int) aNil))) aNil)))))))
    (sOne (sRetD (de_c pe_bl)))
    sNil)
    (sOne (sForD po hcalm (iRng1 (by rfl) T.z_range (lCons (de_c pe_int) lNil)) (gName_d (pg_name (i := 4) sc_law.nd rfl (.inl rfl)))
    (sCons (sSet (i := 5) sc_law.nd rfl (.inl rfl) (dAdd (de_c pe_int) (dCall G_law_draw (hr.mono (by decide)) hgd (by rfl) tk (aSlot (pv 3) (aCons (dIx (de_list (dLst (lCons (de_c pe_int) (lCons (de_c pe_int) lNil)))) (dTy bInt (by rfl) T.z_int bb_int (lCons (dCmp (cNe hr.units) (de_var (pv 0)) (de_list (dLst lNil)) (nomark _)) lNil))) aNil)))))
    (sOne (sIf (tNotD (tTru (dCall G_law_right (hr.mono (by decide)) hgd (by rfl) tk (aSlot (pv 3) (aCons (de_var (pv 5)) (aCons (de_c pe_int) (aCons (dCall G_law_draw (hr.mono (by decide)) hgd (by rfl) tk (aSlot (pv 3) (aCons (dIx (de_list (dLst (lCons (de_c pe_int) (lCons (de_c pe_int) lNil)))) (dTy bInt (by rfl) T.z_int bb_int (lCons (dCmp (cNe hr.units) (de_var (pv 0)) (de_list (dLst lNil)) (nomark _)) lNil))) aNil))) aNil)))))))
    (sOne (sRetD (de_c pe_bl)))
    sNil)))))))))
    (sOne (sRetD (dCmp (cEq hr.units) (dCall G_rule_plan (hr.mono (by decide)) hgd (by rfl) tk (aCons (dTup (lCons (de_c pe_int) (lCons (de_c pe_int) (lCons (de_list (dLst (lCons (de_c pe_int) (lCons (de_c pe_int) (lCons (de_c pe_int) lNil))))) lNil)))) (aCons (de_c pe_str) (aCons (de_c pe_int) aNil)))) (de_list (dLst (lCons (de_list (dLst (lCons (de_c pe_int) lNil))) (lCons (de_list (dLst (lCons (de_c pe_int) lNil))) (lCons (de_list (dLst (lCons (de_c pe_int) lNil))) (lCons (de_list (dLst (lCons (de_c pe_int) lNil))) (lCons (de_list (dLst (lCons (de_c pe_int) lNil))) (lCons (de_list (dLst (lCons (de_c pe_int) lNil))) lNil)))))))) (nomark _)))))
end
end k53

namespace k53
open Dx PySem PySem.Spec PyProof.Rows L2
def Src (B : Int) (ds : List PyData) : Prop := ∃ g m z : Int, ds = [.int g, .int m, .int z] ∧ 0 ≤ m ∧ m ≤ 10 ^ 44 ∧ 0 ≤ z ∧ z ≤ B
theorem draw_ok {B c : Int} {ds : List PyData} (j : Nat) (h : Src B ds) (hB : B ≤ 10 ^ 12) (hc : 0 < c) (hc2 : Sml c) : ∃ d ds', fx_law_draw [.io j ds, .v (.int c)] = .rt (.int d) [.io j ds', .u] ∧ Src (B + 1) ds' ∧ 0 ≤ d ∧ d < c := by
  obtain ⟨g, m, z, rfl, m0, m1, z0, z1⟩ := h
  have hd : ∀ i, okDiv i c = true := fun i => ok_div hc hc2
  by_cases hg : 0 < g
  · refine ⟨g % c, [.int (g / c), .int m, .int z], ?_, ⟨g / c, m, z, rfl, m0, m1, z0, by omega⟩, Int.emod_nonneg _ (by omega), Int.emod_lt_of_pos _ hc⟩
    simp [fx_law_draw, m_law_draw, hg, hd, hc]
  · have k1 : okMul 800011 (z + 1) = true := ok_mul (by unfold Sml; omega) (by unfold Sml; omega)
    have k2 : okPow (m + 800011 * (z + 1)) 3 = true := ok_pow (by unfold Sml; omega) (by omega) (by omega)
    have p37 : okPow 10 37 = true := by decide
    have p39 : okPow 10 39 = true := by decide
    let q := (m + 800011 * (z + 1)) ^ 3 % (10 ^ 37 + 43)
    have q0 : 0 ≤ q := Int.emod_nonneg _ (by decide)
    have q1 : q < 10 ^ 37 + 43 := Int.emod_lt_of_pos _ (by decide)
    have k3 : okMul q (z + 1) = true := ok_mul (by unfold Sml; omega) (by unfold Sml; omega)
    have k5 : 0 ≤ q * (z + 1) := Int.mul_nonneg q0 (by omega)
    have k6 : q * (z + 1) ≤ (10 ^ 37 + 43) * (10 ^ 12 + 1) := Int.mul_le_mul (by omega) (by omega) (by omega) (by decide)
    have k4 : okPow (q * (z + 1) + 70001) 3 = true := ok_pow (by unfold Sml; omega) (by omega) (by omega)
    have d1 : okDiv ((q * (z + 1) + 70001) ^ 3 % (10 ^ 39 + 3)) 65521 = true := ok_div (by decide) (by unfold Sml; decide)
    refine ⟨((q * (z + 1) + 70001) ^ 3 % (10 ^ 39 + 3) / 65521) % c, [.int g, .int m, .int (z + 1)], ?_, ⟨g, m, z + 1, rfl, m0, m1, by omega, by omega⟩, Int.emod_nonneg _ (by omega), Int.emod_lt_of_pos _ hc⟩
    simp only [q, Int.reducePow, Int.reduceAdd] at k3 k4 d1 ⊢
    simp [fx_law_draw, m_law_draw, hg, hd, hc, k1, k2, p37, p39, k3, k4, d1]
theorem Src.le {B C : Int} {ds : List PyData} (h : Src B ds) (e : B ≤ C) : Src C ds := by
  obtain ⟨g, m, z, rfl, m0, m1, z0, z1⟩ := h
  exact ⟨g, m, z, rfl, m0, m1, z0, by omega⟩
def pBody : S := (sSeq (sParDD 7 8 (mCl (f2I fun i j => .int (maxI i j)) (mCons (mpure (.int 1)) (mCons (mOp fSub (mVar 6) (mOp fMulI (mVar 3) (mOp fSub (mOp fSub (mVar 2) (mVar 4)) (mpure (.int 1))))) (mpure [])))) (mCl (f2I fun i j => .int (minI i j)) (mCons (mVar 3) (mCons (mOp fSub (mVar 6) (mOp fSub (mOp fSub (mVar 2) (mVar 4)) (mpure (.int 1)))) (mpure [])))))
    (sSeq (sApp 5 (mOp fAdd (mVar 7) (mCallD 2 fx_law_draw (mArgS 0 (mArg (mOp fAdd (mOp fSub (mVar 8) (mVar 7)) (mpure (.int 1))) (mpure []))))))
    (sAsg (mOp fSub (mVar 6) (mIxO 5 (mUn (fU fun i => .int (-i)) (mpure (.int 1))))) (gN 6))))
theorem last_at (acc : List PyData) (x : PyData) : atI (acc ++ [x]) (-1) = some x := by
  have e : ixN (acc ++ [x]).length (-1) = some acc.length := by
    rw [e_ixn, if_neg (by decide), if_pos (by simp; omega)]
    simp
    omega
  rw [e_at, e]
  simp
theorem parts_loop (j : Nat) (whole often far : Int) (hf : 1 ≤ far) (hf2 : Sml far) (ho : often ≤ 1000) : ∀ (n : Nat) (t left B : Int) (acc : List Int) (ds : List PyData) (c4 c7 c8 : Cell), 0 ≤ t → t + n = often → n ≤ left → left ≤ n * far → Src B ds → B + n ≤ 10 ^ 12 → acc.length + n ≤ 1000 →
    ∃ (ps : List Int) (ds' : List PyData) (l : Int) (d4 d7 d8 : Cell), sForL (gN 4) pBody (upL t n) [.io j ds, .v (.int whole), .v (.int often), .v (.int far), c4, .o (acc.map .int), .v (.int left), c7, c8] =
      .nx [.io j ds', .v (.int whole), .v (.int often), .v (.int far), d4, .o ((acc ++ ps).map .int), .v (.int l), d7, d8] ∧ ps.length = n ∧ (∀ p ∈ ps, 1 ≤ p ∧ p ≤ far) ∧ ps.sum = left ∧ Src (B + n) ds'
  | 0, t, left, B, acc, ds, c4, c7, c8, ht, hn, h1, h2, hs, hB, hl => ⟨[], ds, left, c4, c7, c8, by rw [List.append_nil]; rfl, rfl, fun p hp => (by cases hp), by simp; omega, hs.le (by omega)⟩
  | n + 1, t, left, B, acc, ds, c4, c7, c8, ht, hn, h1, h2, hs, hB, hl => by
    have hk : often - t - 1 = n := by omega
    have hm : okMul far (often - t - 1) = true := ok_mul hf2 (by unfold Sml; omega)
    have h2' : left ≤ n * far + far := by
      have : ((n + 1 : Nat) : Int) * far = n * far + far := by
        rw [Int.natCast_add, Int.add_mul]; simp
      omega
    have hfn : far * (n : Int) = n * far := Int.mul_comm _ _
    have hnf : (n : Int) ≤ n * far := by
      have := Int.mul_le_mul_of_nonneg_left hf (Int.natCast_nonneg n)
      omega
    have hlo : 1 ≤ maxI 1 (left - far * (often - t - 1)) ∧ left - n * far ≤ maxI 1 (left - far * (often - t - 1)) ∧ (maxI 1 (left - far * (often - t - 1)) = 1 ∨ maxI 1 (left - far * (often - t - 1)) = left - n * far) := by
      rw [hk, hfn]
      unfold maxI
      split <;> omega
    have hhi : minI far (left - (often - t - 1)) ≤ far ∧ minI far (left - (often - t - 1)) ≤ left - n ∧ (minI far (left - (often - t - 1)) = far ∨ minI far (left - (often - t - 1)) = left - n) := by
      rw [hk]
      unfold minI
      split <;> omega
    obtain ⟨d, ds1, e1, hs1, hd0, hd1⟩ := draw_ok (c := minI far (left - (often - t - 1)) - maxI 1 (left - far * (often - t - 1)) + 1) 0 hs (by omega) (by omega) (by unfold Sml at *; omega)
    have hL : acc.length < sizeLine := by rw [size_line]; omega
    have la := last_at (acc.map PyData.int) (.int (maxI 1 (left - far * (often - t - 1)) + d))
    obtain ⟨ps, ds', l, d4, d7, d8, e2, p1, p2, p3, p4⟩ := parts_loop j whole often far hf hf2 ho n (t + 1) (left - (maxI 1 (left - far * (often - t - 1)) + d)) (B + 1) (acc ++ [maxI 1 (left - far * (often - t - 1)) + d]) ds1 (.v (.int t)) (.v (.int (maxI 1 (left - far * (often - t - 1))))) (.v (.int (minI far (left - (often - t - 1))))) (by omega) (by omega) (by omega) (by omega) hs1 (by omega) (by simp; omega)
    refine ⟨(maxI 1 (left - far * (often - t - 1)) + d) :: ps, ds', l, d4, d7, d8, ?_, by simp [p1], ?_, ?_, p4.le (by omega)⟩
    · rw [← List.append_cons] at e2
      rw [← e2]
      refine e_for1 (u := ()) (r1 := [.io j ds, .v (.int whole), .v (.int often), .v (.int far), .v (.int t), .o (acc.map .int), .v (.int left), c7, c8]) (by simp) ?_
      simp [pBody, hm, e1, hL, -e_at, -e_ixn, la]
    · intro p hp
      rcases List.mem_cons.1 hp with rfl | hp
      · omega
      · exact p2 p hp
    · rw [List.sum_cons, p3]
      omega
theorem parts_ok {B whole often far : Int} {ds : List PyData} (j : Nat) (hf : 1 ≤ far) (hf2 : Sml far) (h0 : 0 ≤ often) (ho : often ≤ 12) (h1 : often ≤ whole) (h2 : whole ≤ often * far) (hs : Src B ds) (hB : B + 12 ≤ 10 ^ 12) :
    ∃ (ps : List Int) (ds' : List PyData), fx_law_parts [.io j ds, .v (.int whole), .v (.int often), .v (.int far)] = .ro (ps.map .int) [.io j ds', .u, .u, .u] ∧ ps.length = often.toNat ∧ (∀ p ∈ ps, 1 ≤ p ∧ p ≤ far) ∧ ps.sum = whole ∧ Src (B + 12) ds' := by
  have e0 : (often.toNat : Int) = often := Int.toNat_of_nonneg h0
  obtain ⟨ps, ds', l, d4, d7, d8, e, p1, p2, p3, p4⟩ := parts_loop j whole often far hf hf2 (by omega) often.toNat 0 whole B [] ds .u .u .u (by omega) (by omega) (by omega) (by rw [e0]; exact h2) hs (by omega) (by simp; omega)
  refine ⟨ps, ds', ?_, p1, p2, p3, p4.le (by omega)⟩
  have er := e_rng (n := often) (by omega) h0
  have z := size_line
  simp only [pBody, List.map_nil, List.nil_append] at e
  simp [fx_law_parts, m_law_parts, er, e, size_line]
/-- a load -/
def Load (units span : Int) (ps : List Int) : Prop := 1 ≤ units ∧ units ≤ 12 ∧ 1 ≤ span ∧ span < 10 ^ 30 ∧ 1 ≤ ps.length ∧ ps.length ≤ 12 ∧ (∀ p ∈ ps, 1 ≤ p ∧ p ≤ span) ∧ ps.sum ≤ units * span
abbrev loadD (units span : Int) (ps : List Int) : PyData := .tuple [.int units, .int span, .list (ps.map .int)]
theorem isint_ok (v : Int) : fx_is_integer [.v (.int v)] = .rt (.bool true) [.u] := by
  simp [fx_is_integer, m_is_integer]
theorem from_ok (v lo hi : Int) : fx_is_integer_from [.v (.int v), .v (.int lo), .v (.int hi)] = .rt (.bool (decide (lo ≤ v ∧ v ≤ hi))) [.u, .u, .u] := by
  by_cases h : lo ≤ v <;> simp [fx_is_integer_from, m_is_integer_from, isint_ok, h]
def shBody : S := (sCond (mOr (mBool (mUn (tyIs true "int") (mVar 3))) (mNot (mBool (mChain fLe fLe (mpure (.int 1)) (mVar 3) (mVar 2)))))
    (sRet (mpure (.bool false)))
    .nx)
theorem shares_loop (a b : Cell) (span : Int) : ∀ (ps : List Int) (c : Cell), (∀ p ∈ ps, 1 ≤ p ∧ p ≤ span) → ∃ c', sForL (gN 3) shBody (ps.map .int) [a, b, .v (.int span), c] = .nx [a, b, .v (.int span), c']
  | [], c, _ => ⟨c, rfl⟩
  | p :: ps, c, h => by
    obtain ⟨c', e⟩ := shares_loop a b span ps (.v (.int p)) fun q hq => h q (List.mem_cons_of_mem _ hq)
    obtain ⟨h1, h2⟩ := h p List.mem_cons_self
    refine ⟨c', ?_⟩
    rw [← e]
    refine e_for1 (u := ()) (r1 := [a, b, .v (.int span), .v (.int p)]) (by simp) ?_
    simp [shBody, h1, h2]
theorem Load.mul {units span : Int} {ps : List Int} (L : Load units span ps) : okMul units span = true := by
  obtain ⟨u1, u2, s1, s2, l1, l2, hp, hsum⟩ := L
  exact ok_mul (by unfold Sml; omega) (by unfold Sml; omega)
theorem shares_ok {units span : Int} {ps : List Int} (L : Load units span ps) : fx_are_shares [.v (.list (ps.map .int)), .v (.int units), .v (.int span)] = .rt (.bool true) [.u, .u, .u] := by
  have k := L.mul
  obtain ⟨u1, u2, s1, s2, l1, l2, hp, hsum⟩ := L
  obtain ⟨c', e⟩ := shares_loop (.v (.list (ps.map .int))) (.v (.int units)) span ps .u hp
  have a1 : (1 : Int) ≤ ps.length := by omega
  have a2 : (ps.length : Int) ≤ 12 := by omega
  simp only [shBody] at e
  simp [fx_are_shares, m_are_shares, a1, a2, e, k, hsum]
theorem check_load_ok {units span : Int} {ps : List Int} (L : Load units span ps) : fx_check_load [.v (loadD units span ps)] = .rt .none [.u] := by
  have e := shares_ok L
  obtain ⟨u1, u2, s1, s2, l1, l2, hp, hsum⟩ := L
  have s3 : span ≤ 999999999999999999999999999999 := by omega
  have p30 : okPow 10 30 = true := by decide
  simp [fx_check_load, m_check_load, from_ok, e, u1, u2, s1, s3, p30]
theorem check_number_ok {v : Int} {s : PyData} (h0 : 0 ≤ v) : fx_check_number [.v (.int v), .v s, .v .none, .v (.int 0)] = .rt .none [.u, .u, .u, .u] := by
  have h2 : ¬ v < 0 := by omega
  simp [fx_check_number, m_check_number, isint_ok, h2]
theorem check_most_ok {v m : Int} {s : PyData} (h0 : 0 ≤ v) (h1 : v ≤ m) : fx_check_number [.v (.int v), .v s, .v (.int m), .v (.int 0)] = .rt .none [.u, .u, .u, .u] := by
  have h2 : ¬ v < 0 := by omega
  have h3 : ¬ m < v := by omega
  simp [fx_check_number, m_check_number, isint_ok, h2, h3]
theorem check_single_ok {span : Int} {ps : List Int} : fx_check_single [.v (loadD 1 span ps)] = .rt .none [.u] := by
  simp [fx_check_single, m_check_single]
theorem rounded_ok {a b : Int} (hb : 0 < b) (hs : Sml b) : fx_rounded_up [.v (.int a), .v (.int b)] = .rt (.int (-(-a / b))) [.u, .u] := by
  have k : okDiv (-a) b = true := ok_div hb hs
  simp [fx_rounded_up, m_rounded_up, k]
theorem at_map {ps : List Int} {one part : Int} (h0 : 0 ≤ one) (h1 : one < ps.length) (hp : ps[one.toNat]? = some part) : atI (ps.map PyData.int) one = some (.int part) := by
  have e : ixN (ps.map PyData.int).length one = some one.toNat := by
    rw [e_ixn, if_pos h0, if_pos (by simpa using h1)]
  rw [e_at, e]
  simp [hp]
/-- a share of a load, for the places below -/
structure Pl (units span one part : Int) (ps : List Int) : Prop where
  L : Load units span ps
  o0 : 0 ≤ one
  o1 : one < ps.length
  hp : ps[one.toNat]? = some part
theorem Pl.p1 {units span one part : Int} {ps : List Int} (P : Pl units span one part ps) : 1 ≤ part := (P.L.2.2.2.2.2.2.1 part (List.mem_of_getElem? P.hp)).1
theorem Pl.p2 {units span one part : Int} {ps : List Int} (P : Pl units span one part ps) : part ≤ span := (P.L.2.2.2.2.2.2.1 part (List.mem_of_getElem? P.hp)).2
theorem Pl.s1 {units span one part : Int} {ps : List Int} (P : Pl units span one part ps) : 1 ≤ span := P.L.2.2.1
theorem Pl.s2 {units span one part : Int} {ps : List Int} (P : Pl units span one part ps) : span < 10 ^ 30 := P.L.2.2.2.1
theorem Pl.ix1 {units span one part : Int} {ps : List Int} (P : Pl units span one part ps) : atI [PyData.int units, .int span, .list (ps.map .int)] 1 = some (.int span) := rfl
theorem Pl.ix2 {units span one part : Int} {ps : List Int} (P : Pl units span one part ps) : atI [PyData.int units, .int span, .list (ps.map .int)] 2 = some (.list (ps.map .int)) := rfl
theorem Pl.ixp {units span one part : Int} {ps : List Int} (P : Pl units span one part ps) : atI (ps.map PyData.int) one = some (.int part) := at_map P.o0 P.o1 P.hp
/-- the slices at a tick: first, how many -/
def sF (part span x : Int) : Int := x * part / span
def sB (part span x : Int) : Int := -(-((x + 1) * part) / span)
theorem sB_bd {units span one part : Int} {ps : List Int} (P : Pl units span one part ps) (x : Int) : sF part span x < sB part span x ∧ sB part span x ≤ sF part span x + 2 := by
  have p1 := P.p1
  have p2 := P.p2
  have s1 := P.s1
  have e : (x + 1) * part = x * part + part := by rw [Int.add_mul]; omega
  obtain ⟨a1, a2⟩ := fl_bd (x * part) span (by omega)
  obtain ⟨b1, b2⟩ := ce_bd ((x + 1) * part) span (by omega)
  unfold sF sB
  generalize -(-((x + 1) * part) / span) = c at b1 b2 ⊢
  generalize x * part / span = f at a1 a2 ⊢
  constructor
  · have : span * f < span * c := by omega
    exact Int.lt_of_mul_lt_mul_left this (by omega)
  · have e2 : span * (f + 1) + span = span * (f + 2) := by rw [Int.mul_add, Int.mul_add]; omega
    have : span * (c - 1) < span * (f + 2) := by omega
    have := Int.lt_of_mul_lt_mul_left this (by omega)
    omega
def wW (part span x y : Int) : Int := maxI 0 (y * part / span - -(-(x * part) / span))
/-- the window of a slice -/
def wF (part span x : Int) : Int := x * span / part
def wL (part span x : Int) : Int := -(-((x + 1) * span) / part) - 1
theorem dual {units span one part : Int} {ps : List Int} (P : Pl units span one part ps) (x y : Int) : (sF part span x ≤ y ∧ y < sB part span x) ↔ (wF part span y ≤ x ∧ x ≤ wL part span y) := by
  have a := fits_iff (part := part) (span := span) (spot := y) (at_ := x) (by have := P.p1; omega)
  have b := fits_iff (part := span) (span := part) (spot := x) (at_ := y) (by have := P.s1; omega)
  unfold sF sB wF wL
  rw [← a]
  constructor
  · intro h
    have := b.2 ⟨h.1, by omega⟩
    exact ⟨this.2, this.1⟩
  · intro h
    have := b.1 ⟨h.2, h.1⟩
    exact ⟨this.1, by omega⟩
theorem in_slices {units span one part : Int} {ps : List Int} (P : Pl units span one part ps) (x y : Int) : fIn false (.int y) (.list (upL (sF part span x) (sB part span x - sF part span x).toNat)) = some (.bool (decide (wF part span y ≤ x ∧ x ≤ wL part span y))) := by
  rw [in_upL]
  have d := dual P x y
  have bd := sB_bd P x
  congr 2
  apply decide_eq_decide.2
  rw [← d]
  omega
theorem wF_bd {units span one part : Int} {ps : List Int} (P : Pl units span one part ps) {x : Int} (x0 : 0 ≤ x) (x1 : x ≤ 10 ^ 31) : 0 ≤ wF part span x ∧ wF part span x ≤ wL part span x ∧ wL part span x ≤ 10 ^ 62 ∧ part * wF part span x ≤ span * x ∧ span * x < part * (wF part span x + 1) ∧ part * wL part span x < span * (x + 1) ∧ span * (x + 1) ≤ part * (wL part span x + 1) := by
  have p1 := P.p1
  have p2 := P.p2
  have s1 := P.s1
  have s2 := P.s2
  have c1 : x * span = span * x := Int.mul_comm _ _
  have c2 : (x + 1) * span = span * (x + 1) := Int.mul_comm _ _
  have c3 : span * (x + 1) = span * x + span := by rw [Int.mul_add]; omega
  have m0 : 0 ≤ span * x := Int.mul_nonneg (by omega) x0
  have m1 : span * x ≤ 10 ^ 30 * 10 ^ 31 := Int.mul_le_mul (by omega) x1 x0 (by decide)
  obtain ⟨a1, a2⟩ := fl_bd (x * span) part (by omega)
  obtain ⟨b1, b2⟩ := ce_bd ((x + 1) * span) part (by omega)
  have f0 : 0 ≤ x * span / part := Int.ediv_nonneg (by omega) (by omega)
  have cf := ce_fl ((x + 1) * span) part (by omega)
  have fle : (x + 1) * span / part ≤ (x + 1) * span := Int.ediv_le_self _ (by omega)
  unfold wF wL
  generalize -(-((x + 1) * span) / part) = c at b1 b2 cf ⊢
  generalize x * span / part = f at a1 a2 f0 ⊢
  have e1 : part * (c - 1 + 1) = part * c := by congr 1; omega
  have lt : part * f < part * c := by omega
  have lt2 := Int.lt_of_mul_lt_mul_left lt (by omega)
  exact ⟨f0, by omega, by omega, by omega, by omega, by omega, by omega⟩
theorem mul_sh (x k a b : Int) : (x + k * a) * b = x * b + k * b * a := by
  rw [Int.add_mul, Int.mul_right_comm]
theorem mul_sh2 (x k a b : Int) : b * (x + k * a) = b * x + k * b * a := by
  rw [Int.mul_comm b, mul_sh, Int.mul_comm b]
theorem wF_sh {part span : Int} (hp : 0 < part) (x k : Int) : wF part span (x + k * part) = wF part span x + k * span := by
  unfold wF
  rw [mul_sh, fl_shift _ _ hp]
theorem wL_sh {part span : Int} (hp : 0 < part) (x k : Int) : wL part span (x + k * part) = wL part span x + k * span := by
  unfold wL
  have e : x + k * part + 1 = x + 1 + k * part := by omega
  rw [e, mul_sh, ce_shift _ _ hp]
  omega
theorem sF_sh {part span : Int} (hs : 0 < span) (x k : Int) : sF part span (x + k * span) = sF part span x + k * part := by
  unfold sF
  rw [mul_sh, fl_shift _ _ hs]
theorem sB_sh {part span : Int} (hs : 0 < span) (x k : Int) : sB part span (x + k * span) = sB part span x + k * part := by
  unfold sB
  have e : x + k * span + 1 = x + 1 + k * span := by omega
  rw [e, mul_sh, ce_shift _ _ hs]
theorem wW_sh {part span : Int} (hs : 0 < span) (x y k : Int) : wW part span (x + k * span) (y + k * span) = wW part span x y := by
  unfold wW
  rw [mul_sh, mul_sh, fl_shift _ _ hs, ce_shift _ _ hs]
  congr 1
  omega
theorem wW_split {part span : Int} (hs : 0 < span) (hp : 0 ≤ part) {x m y : Int} (h1 : x ≤ m) (h2 : m ≤ y) : wW part span x y - 1 ≤ wW part span x m + wW part span m y ∧ wW part span x m + wW part span m y ≤ wW part span x y := by
  have a1 := Int.ediv_le_ediv hs (Int.mul_le_mul_of_nonneg_right h1 hp)
  have a2 := Int.ediv_le_ediv hs (Int.mul_le_mul_of_nonneg_right h2 hp)
  have b1 := ce_mono hs (Int.mul_le_mul_of_nonneg_right h1 hp)
  have b2 := ce_mono hs (Int.mul_le_mul_of_nonneg_right h2 hp)
  have c0 := ce_fl (x * part) span hs
  have c1 := ce_fl (m * part) span hs
  have c2 := ce_fl (y * part) span hs
  unfold wW maxI
  generalize -(-(x * part) / span) = p1 at *
  generalize -(-(m * part) / span) = p2 at *
  generalize -(-(y * part) / span) = p3 at *
  split <;> split <;> split <;> omega
theorem wW_zero {part span : Int} (hs : 0 < span) (hp : 0 ≤ part) {x y : Int} (h : y ≤ x) : wW part span x y = 0 := by
  have a1 := Int.ediv_le_ediv hs (Int.mul_le_mul_of_nonneg_right h hp)
  have c0 := ce_fl (x * part) span hs
  unfold wW maxI
  split <;> omega
theorem wW_bd {part span : Int} (hs : 0 < span) (hp : 0 ≤ part) {x y : Int} (h0 : 0 ≤ x) : 0 ≤ wW part span x y := by
  unfold wW maxI
  split <;> omega
theorem source_ok (cell k : Int) (h0 : 0 ≤ k) (h1 : k ≤ 100) : ∃ ds, fx_law_source [.v (.int cell), .v (.int k)] = .ro ds [.u, .u] ∧ Src 0 ds := by
  have p18 : okPow 10 18 = true := by decide
  have p41 : okPow 10 41 = true := by decide
  have q0 := Int.emod_nonneg (absI cell) (by decide : (10 ^ 41 + 61 : Int) ≠ 0)
  have q1 := Int.emod_lt_of_pos (absI cell) (by decide : (0 : Int) < 10 ^ 41 + 61)
  have k1 : okMul (absI cell % (10 ^ 41 + 61)) 83 = true := ok_mul (by unfold Sml; omega) (by unfold Sml; omega)
  have k2 : okMul 2 k = true := ok_mul (by unfold Sml; omega) (by unfold Sml; omega)
  have b : (0 : Int) ≤ (if cell < 0 then 1 else 0) ∧ (if cell < 0 then (1 : Int) else 0) ≤ 1 := by split <;> decide
  refine ⟨[.int (maxI 0 (absI cell - 10 ^ 18)), .int (absI cell % (10 ^ 41 + 61) * 83 + 2 * k + if cell < 0 then 1 else 0), .int 0], ?_, ⟨_, _, _, rfl, by omega, by omega, by omega, by omega⟩⟩
  simp only [Int.reducePow, Int.reduceAdd] at k1 ⊢
  simp [fx_law_source, m_law_source, p18, p41, k1, k2, size_line]
theorem five : Load 1 10 [4, 5, 1] := by
  refine ⟨by decide, by decide, by decide, by decide, by decide, by decide, ?_, by decide⟩
  intro p hp
  simp at hp
  omega
theorem ints_all : ∀ ns : List Int, (∀ n ∈ ns, n.natAbs < 10 ^ 100) → ((PyData.shownAll (ns.map .int)).map (·.length)).sum ≤ 101 * ns.length ∧ (PyData.shownAll (ns.map .int)).length = ns.length ∧ PyData.showableAll (ns.map .int) = true ∧ PyData.depthAll (ns.map .int) ≤ 1
  | [], _ => by simp [PyData.shownAll, PyData.showableAll, PyData.depthAll]
  | n :: ns, h => by
    obtain ⟨a1, a2, a3, a4⟩ := ints_all ns fun x hx => h x (List.mem_cons_of_mem _ hx)
    have b1 := shown_int (h n List.mem_cons_self)
    have b2 := showable_int (h n List.mem_cons_self)
    refine ⟨?_, ?_, ?_, ?_⟩
    · simp only [List.map_cons, PyData.shownAll, List.sum_cons, List.length_cons]
      omega
    · simp only [List.map_cons, PyData.shownAll, List.length_cons, a2]
    · simp [PyData.showableAll, b2, a3]
    · simp only [List.map_cons, PyData.depthAll, PyData.depth]
      omega
theorem sh_load {units span : Int} {ps : List Int} (hu : units.natAbs < 10 ^ 100) (hs : span.natAbs < 10 ^ 100) (hl : ps.length ≤ 12) (hp : ∀ p ∈ ps, p.natAbs < 10 ^ 100) :
    (loadD units span ps).shown.length ≤ 2000 ∧ (loadD units span ps).showable = true ∧ (loadD units span ps).depth ≤ 4 := by
  obtain ⟨a1, a2, a3, a4⟩ := ints_all ps hp
  have b1 := shown_int hu
  have b2 := showable_int hu
  have c1 := shown_int hs
  have c2 := showable_int hs
  have d1 : (PyData.list (ps.map .int)).shown.length ≤ 1400 := by
    rw [PyData.shown]
    refine Nat.le_trans (listText_len_le _) ?_
    rw [a2]
    omega
  have d2 : (PyData.list (ps.map .int)).showable = true := by
    rw [PyData.showable]
    exact a3
  refine ⟨?_, ?_, ?_⟩
  · rw [PyData.shown]
    refine Nat.le_trans (tupleText_len_le _) ?_
    simp only [PyData.shownAll, List.map_cons, List.map_nil, List.sum_cons, List.sum_nil, List.length_cons, List.length_nil]
    omega
  · rw [PyData.showable]
    simp [PyData.showableAll, b2, c2, d2]
  · rw [PyData.depth]
    simp only [PyData.depthAll, PyData.depth]
    omega
theorem repr_of {d : PyData} (h1 : d.shown.length ≤ sizeLine) (h2 : d.showable = true) (h3 : d.depth ≤ 64) : fRepr [d] = some (.str d.shown) := by
  have key : reprOk d = true := by
    unfold reprOk
    rw [decide_eq_true h1, h2, decide_eq_true h3]
    rfl
  show (if reprOk _ = true then _ else _) = _
  rw [if_pos key]
theorem repr_two {d : PyData} (h1 : d.shown.length ≤ 2000) (h2 : d.showable = true) (h3 : d.depth ≤ 4) : fRepr [.list [d, d]] = some (.str (PyData.list [d, d]).shown) := by
  have sz := size_line
  refine repr_of ?_ ?_ ?_
  · rw [PyData.shown]
    refine Nat.le_trans (listText_len_le _) ?_
    simp only [PyData.shownAll, List.map_cons, List.map_nil, List.sum_cons, List.sum_nil, List.length_cons, List.length_nil]
    omega
  · rw [PyData.showable]
    simp [PyData.showableAll, h2]
  · rw [PyData.depth]
    simp only [PyData.depthAll]
    omega
theorem eq_str (s : Str) : fEq (.str s) (.str s) = some (.bool true) := by simp [fEq, orD, fEqS]
theorem eq_int (a b : Int) (h : a = b) : fEq (.int a) (.int b) = some (.bool true) := by
  subst h
  simp [fEq, orD, fEqS]
theorem not_in {z : Int} {ns : List Int} (h : z ∉ ns) : fIn false (.int z) (.list (ns.map .int)) = some (.bool false) := by
  have e : ∀ ms : List Int, z ∉ ms → (ms.map PyData.int).any (fun d => PyData.eqv d (.int z)) = false := fun ms => by
    induction ms with
    | nil => intro _; rfl
    | cons m ms ih =>
      intro hm
      have e1 : ((m :: ms).map PyData.int).any (fun d => PyData.eqv d (.int z)) = (PyData.eqv (.int m) (.int z) || (ms.map PyData.int).any (fun d => PyData.eqv d (.int z))) := rfl
      have e2 : PyData.eqv (.int m) (.int z) = decide (m = z) := by
        simp [PyData.eqv]
        try rfl
      rw [e1, ih fun q => hm (List.mem_cons_of_mem _ q), e2, decide_eq_false (show ¬ m = z from fun q => hm (by rw [← q]; exact List.mem_cons_self))]
      rfl
  have f : ∀ ms : List Int, (ms.map PyData.int).all flatD = true := fun ms => by
    induction ms with
    | nil => rfl
    | cons m ms ih =>
      rw [List.map_cons, List.all_cons, ih]
      rfl
  have c : flatD (.int z) = true ∧ (ns.map PyData.int).all flatD = true := ⟨rfl, f ns⟩
  have q : fInF false (.int z) (.list (ns.map .int)) = some (.bool false) := by
    show (if flatD (.int z) = true ∧ (ns.map PyData.int).all flatD = true then some (inD false (.int z) (ns.map .int)) else none) = _
    rw [if_pos c]
    unfold inD
    rw [if_neg (by decide), e ns h]
  unfold fIn orD
  rw [q]
  rfl

end k53

namespace k53
open Dx PySem PySem.Spec PyProof.Rows L2
abbrev RU : PyData := .str "most behind"
def pk (span : Int) (ps : List Int) (L : List Int) : Option Nat := some (pkI (bhL L ps))
abbrev LD0 (L : List Int) : PyData := .list (L.map .int)
theorem bhl_ne {L ps : List Int} (h : L.length = ps.length) (h0 : ps ≠ []) : bhL L ps ≠ [] := fun q => by
  have := bh_len h
  rw [q] at this
  exact h0 (List.length_eq_zero_iff.mp this.symm)
theorem pk_lt {span : Int} {ps L : List Int} {k : Nat} (h : L.length = ps.length) (h0 : ps ≠ []) (e : pk span ps L = some k) : k < ps.length := by
  cases e
  have := (pk_spec (bhl_ne h h0)).2
  rw [bh_len h] at this
  exact this
theorem most_ok {L ps : List Int} (hl : L.length = ps.length) (h0 : ps ≠ []) (h1 : ps.length ≤ 12) : fx_most_behind [.v (LD0 L), .v (LD0 ps)] = .rt (.int (pkI (bhL L ps) : Nat)) [.u, .u] := by
  have hz : (L.zip ps).length ≤ 12 := by
    rw [List.length_zip]
    omega
  have hne : bhL L ps ≠ [] := fun q => by
    have := bh_len hl
    rw [q] at this
    exact h0 (List.length_eq_zero_iff.mp this.symm)
  obtain ⟨r', e, i1⟩ := comp_mapA (own := [3, 4]) (g := gUn 2 (gsCons (gN 3) (gsCons (gN 4) gsNil))) (m := mOp fAdd (mVar 3) (mVar 4)) (fun z : Int × Int => .tuple [.int z.1, .int z.2]) (fun z => .int (z.1 + z.2))
    (fun r => ∃ c3 c4, r = [.v (LD0 L), .v (LD0 ps), .u, c3, c4]) (L.zip ps) [] [.v (LD0 L), .v (LD0 ps), .u, .u, .u] ⟨_, _, rfl⟩ (fun z r _ ⟨c3, c4, h⟩ => by
      subst h
      exact ⟨[.v (LD0 L), .v (LD0 ps), .u, .v (.int z.1), .v (.int z.2)], [.v (LD0 L), .v (LD0 ps), .u, .v (.int z.1), .v (.int z.2)], rfl, by simp, _, _, rfl⟩) (by rw [List.length_nil]; omega)
  obtain ⟨c3, c4, rfl⟩ := i1
  have zi : mZip (mCons (mVar 0) (mCons (mVar 1) (mpure []))) [.v (LD0 L), .v (LD0 ps), .u, .u, .u] = .ok ((L.zip ps).map fun z => .tuple [.int z.1, .int z.2]) [.v (LD0 L), .v (LD0 ps), .u, .u, .u] := by
    rw [← zip_int]
    exact zip_of rfl rfl
  have q := comp_gives zi e
  have eb : [] ++ (L.zip ps).map (fun z => PyData.int (z.1 + z.2)) = (bhL L ps).map .int := by
    rw [List.nil_append, bhL, List.map_map]
    rfl
  rw [eb] at q
  have s1 : sAsg (mList (mComp [3, 4] (mZip (mCons (mVar 0) (mCons (mVar 1) (mpure [])))) (gUn 2 (gsCons (gN 3) (gsCons (gN 4) gsNil))) (mpure true) (mOp fAdd (mVar 3) (mVar 4)))) (gN 2) [.v (LD0 L), .v (LD0 ps), .u, .u, .u] = .nx [.v (LD0 L), .v (LD0 ps), .v (LD0 (bhL L ps)), .u, .u] :=
    asg_of (u := ()) (list_of q) rfl
  show outS _ (m_most_behind [.v (LD0 L), .v (LD0 ps), .u, .u, .u]) = _
  rw [m_most_behind, seq_nx s1, ret_of (pick_of (i := 2) (xs := bhL L ps) rfl hne)]
  exact out_v2
theorem turn_ok {L ps : List Int} {span : Int} (hl : L.length = ps.length) (h0 : ps ≠ []) (h1 : ps.length ≤ 12) (hp : ∀ p ∈ ps, 1 ≤ p ∧ p < 10 ^ 30) : fx_turn [.v RU, .v (LD0 L), .v (LD0 ps), .v (.int span)] = .rt (opN (pk span ps L)) [.u, .u, .u, .u] := by
  have e := most_ok hl h0 h1
  have q1 : fEq RU (.str "first end") = some (.bool false) := by
    simp [fEq, orD, fEqS]
    decide
  have q2 : fEq RU (.str "without waiting") = some (.bool false) := by
    simp [fEq, orD, fEqS]
    decide
  show _ = SR.rt (.int (pkI (bhL L ps) : Nat)) _
  generalize (PyData.int (pkI (bhL L ps) : Nat)) = P at *
  generalize LD0 L = A at *
  generalize LD0 ps = B at *
  generalize RU = R at *
  simp [fx_turn, m_turn, q1, q2, e]
theorem check_rule_ok : fx_check_rule [.v RU] = .rt .none [.u] := by
  have q : fIn true RU (.tuple [.str "first end", .str "without waiting", .str "most behind"]) = some (.bool false) := by rfl
  have q2 : tyIs true "str" RU = some (.bool false) := by rfl
  simp [fx_check_rule, m_check_rule, q, q2]
theorem check_match_ok {span : Int} {ps : List Int} (hs : ps.sum = span) : fx_check_match [.v (loadD 1 span ps), .v RU] = .rt .none [.u, .u] := by
  have e := check_single_ok (span := span) (ps := ps)
  have q1 : fNe RU (.str "first end") = some (.bool true) := by rfl
  have q3 : (fInts fun ns => some (.int ns.sum)) [.list (ps.map .int)] = some (.int span) := by
    show (intsOf (ps.map .int)).bind _ = _
    rw [Dx.ints_map, ← hs]
    rfl
  have q4 : fLt (.int span) (.int span) = some (.bool false) := by simp
  have s1 : sDrop (mCallD 1 fx_check_single (mArg (mVar 0) (mpure []))) [.v (loadD 1 span ps), .v RU, .u, .u, .u] = .nx [.v (loadD 1 span ps), .v RU, .u, .u, .u] := drop_of (call1_rt e)
  have s2 : sAsg (mVar 0) (gUn 3 (gsCons (gN 2) (gsCons (gN 3) (gsCons (gN 4) gsNil)))) [.v (loadD 1 span ps), .v RU, .u, .u, .u] = .nx [.v (loadD 1 span ps), .v RU, .v (.int 1), .v (.int span), .v (LD0 ps)] := rfl
  show outS _ (m_check_match [.v (loadD 1 span ps), .v RU, .u, .u, .u]) = _
  rw [m_check_match, seq_nx s1, seq_nx s2]
  generalize loadD 1 span ps = D at *
  have q5 : (fInts fun ns => some (.int ns.sum)) [LD0 ps] = some (.int span) := q3
  generalize LD0 ps = B at *
  simp [q1, q4, q5]
end k53

namespace k53
open Dx PySem PySem.Spec PyProof.Rows L2
abbrev LD (L : List Int) : PyData := .list (L.map .int)
def afterO (L ps : List Int) (span : Int) : Option Nat → List Int
  | none => bhL L ps
  | some k => (bhL L ps).modify k fun x => x - span
theorem lags_some {L ps : List Int} {span : Int} (hl : L.length = ps.length) (h1 : ps.length ≤ 12) {j : Nat} (hj : j < ps.length) : fx_lags_behind [.v (LD L), .v (LD ps), .v (.int span), .v (.int (j : Nat))] = .ro (((bhL L ps).modify j (fun x => x - span)).map .int) [.u, .u, .u, .u] := by
  have hz : (L.zip ps).length ≤ 12 := by
    rw [List.length_zip]
    omega
  obtain ⟨r', e, i1⟩ := comp_mapA (own := [5, 6]) (g := gUn 2 (gsCons (gN 5) (gsCons (gN 6) gsNil))) (m := mOp fAdd (mVar 5) (mVar 6)) (fun z : Int × Int => .tuple [.int z.1, .int z.2]) (fun z => .int (z.1 + z.2))
    (fun r => ∃ c3 c4, r = [.v (LD L), .v (LD ps), .v (.int span), .v (.int (j : Nat)), .u, c3, c4]) (L.zip ps) [] [.v (LD L), .v (LD ps), .v (.int span), .v (.int (j : Nat)), .u, .u, .u] ⟨_, _, rfl⟩ (fun z r _ ⟨c3, c4, h⟩ => by
      subst h
      exact ⟨[.v (LD L), .v (LD ps), .v (.int span), .v (.int (j : Nat)), .u, .v (.int z.1), .v (.int z.2)], [.v (LD L), .v (LD ps), .v (.int span), .v (.int (j : Nat)), .u, .v (.int z.1), .v (.int z.2)], rfl, by simp, _, _, rfl⟩) (by rw [List.length_nil]; omega)
  obtain ⟨c3, c4, rfl⟩ := i1
  have zi : mZip (mCons (mVar 0) (mCons (mVar 1) (mpure []))) [.v (LD L), .v (LD ps), .v (.int span), .v (.int (j : Nat)), .u, .u, .u] = .ok ((L.zip ps).map fun z => .tuple [.int z.1, .int z.2]) [.v (LD L), .v (LD ps), .v (.int span), .v (.int (j : Nat)), .u, .u, .u] := by
    rw [← zip_int]
    exact zip_of rfl rfl
  have q := comp_gives zi e
  have eb : [] ++ (L.zip ps).map (fun z => PyData.int (z.1 + z.2)) = (bhL L ps).map .int := by
    rw [List.nil_append, bhL, List.map_map]
    rfl
  rw [eb] at q
  have bl := bh_len hl
  generalize bhL L ps = B at *
  have s1 : sOwn (mComp [5, 6] (mZip (mCons (mVar 0) (mCons (mVar 1) (mpure [])))) (gUn 2 (gsCons (gN 5) (gsCons (gN 6) gsNil))) (mpure true) (mOp fAdd (mVar 5) (mVar 6))) 4 [.v (LD L), .v (LD ps), .v (.int span), .v (.int (j : Nat)), .u, .u, .u] = .nx [.v (LD L), .v (LD ps), .v (.int span), .v (.int (j : Nat)), .o (B.map .int), .u, .u] := sown_of q (by show 4 < 7; omega)
  obtain ⟨u, a1, a2, a3⟩ := subI_at (es := B) (k := j) (T := span) (by omega)
  have a2' : ixN (B.map PyData.int).length (j : Int) = some j := by rw [List.length_map]; exact a2
  have s2 : sCond (mBool (mOp fIsNot (mVar 3) (mpure .none))) (sAugIxM 4 (mVar 3) (mVar 2)) .nx [.v (LD L), .v (LD ps), .v (.int span), .v (.int (j : Nat)), .o (B.map .int), .u, .u] = .nx [.v (LD L), .v (LD ps), .v (.int span), .v (.int (j : Nat)), .o ((B.modify j (fun x => x - span)).map .int), .u, .u] := by
    generalize (j : Int) = jj at *
    simp [-e_at, -e_ixn, a1, a2, a2', a3]
  show outS _ (m_lags_behind [.v (LD L), .v (LD ps), .v (.int span), .v (.int (j : Nat)), .u, .u, .u]) = _
  rw [m_lags_behind, seq_nx s1, seq_nx s2]
  simp
theorem lags_none {L ps : List Int} {span : Int} (hl : L.length = ps.length) (h1 : ps.length ≤ 12) : fx_lags_behind [.v (LD L), .v (LD ps), .v (.int span), .v .none] = .ro ((bhL L ps).map .int) [.u, .u, .u, .u] := by
  have hz : (L.zip ps).length ≤ 12 := by
    rw [List.length_zip]
    omega
  obtain ⟨r', e, i1⟩ := comp_mapA (own := [5, 6]) (g := gUn 2 (gsCons (gN 5) (gsCons (gN 6) gsNil))) (m := mOp fAdd (mVar 5) (mVar 6)) (fun z : Int × Int => .tuple [.int z.1, .int z.2]) (fun z => .int (z.1 + z.2))
    (fun r => ∃ c3 c4, r = [.v (LD L), .v (LD ps), .v (.int span), .v .none, .u, c3, c4]) (L.zip ps) [] [.v (LD L), .v (LD ps), .v (.int span), .v .none, .u, .u, .u] ⟨_, _, rfl⟩ (fun z r _ ⟨c3, c4, h⟩ => by
      subst h
      exact ⟨[.v (LD L), .v (LD ps), .v (.int span), .v .none, .u, .v (.int z.1), .v (.int z.2)], [.v (LD L), .v (LD ps), .v (.int span), .v .none, .u, .v (.int z.1), .v (.int z.2)], rfl, by simp, _, _, rfl⟩) (by rw [List.length_nil]; omega)
  obtain ⟨c3, c4, rfl⟩ := i1
  have zi : mZip (mCons (mVar 0) (mCons (mVar 1) (mpure []))) [.v (LD L), .v (LD ps), .v (.int span), .v .none, .u, .u, .u] = .ok ((L.zip ps).map fun z => .tuple [.int z.1, .int z.2]) [.v (LD L), .v (LD ps), .v (.int span), .v .none, .u, .u, .u] := by
    rw [← zip_int]
    exact zip_of rfl rfl
  have q := comp_gives zi e
  have eb : [] ++ (L.zip ps).map (fun z => PyData.int (z.1 + z.2)) = (bhL L ps).map .int := by
    rw [List.nil_append, bhL, List.map_map]
    rfl
  rw [eb] at q
  have bl := bh_len hl
  generalize bhL L ps = B at *
  have s1 : sOwn (mComp [5, 6] (mZip (mCons (mVar 0) (mCons (mVar 1) (mpure [])))) (gUn 2 (gsCons (gN 5) (gsCons (gN 6) gsNil))) (mpure true) (mOp fAdd (mVar 5) (mVar 6))) 4 [.v (LD L), .v (LD ps), .v (.int span), .v .none, .u, .u, .u] = .nx [.v (LD L), .v (LD ps), .v (.int span), .v .none, .o (B.map .int), .u, .u] := sown_of q (by show 4 < 7; omega)
  have s2 : sCond (mBool (mOp fIsNot (mVar 3) (mpure .none))) (sAugIxM 4 (mVar 3) (mVar 2)) .nx [.v (LD L), .v (LD ps), .v (.int span), .v .none, .o (B.map .int), .u, .u] = .nx [.v (LD L), .v (LD ps), .v (.int span), .v .none, .o (B.map .int), .u, .u] := by
    have q : fIsNot .none .none = some (.bool false) := rfl
    simp [q]
  show outS _ (m_lags_behind [.v (LD L), .v (LD ps), .v (.int span), .v .none, .u, .u, .u]) = _
  rw [m_lags_behind, seq_nx s1, seq_nx s2]
  simp
theorem lags_ok {L ps : List Int} {span : Int} (hl : L.length = ps.length) (h1 : ps.length ≤ 12) (o : Option Nat) (ho : ∀ k, o = some k → k < ps.length) : fx_lags_behind [.v (LD L), .v (LD ps), .v (.int span), .v (opN o)] = .ro ((afterO L ps span o).map .int) [.u, .u, .u, .u] := by
  cases o with
  | none => exact lags_none hl h1
  | some k => exact lags_some hl h1 (ho k rfl)
def stepB : S := (sSeq (sAsg (mCallD 4 fx_turn (mArg (mVar 1) (mArg (mVar 3) (mArg (mVar 7) (mArg (mVar 6) (mpure [])))))) (gN 8))
    (sSeq (sAsg (mCallD 4 fx_lags_behind (mArg (mVar 3) (mArg (mVar 7) (mArg (mVar 6) (mArg (mVar 8) (mpure [])))))) (gN 3))
    (sApp 4 (mTup (mCons (mVar 8) (mCons (mVar 3) (mpure [])))))))
theorem stepB_gen {D R N LL PP S P : PyData} {nl acc : List PyData} (c5 c8 : Cell) (e1 : fx_turn [.v R, .v LL, .v PP, .v S] = .rt P [.u, .u, .u, .u]) (e2 : fx_lags_behind [.v LL, .v PP, .v S, .v P] = .ro nl [.u, .u, .u, .u]) (h : acc.length < 16777216) :
    stepB [.v D, .v R, .v N, .v LL, .o acc, c5, .v S, .v PP, c8] = .nx [.v D, .v R, .v N, .v (.list nl), .o (acc ++ [.tuple [P, .list nl]]), c5, .v S, .v PP, .v P] := by
  have sz := size_line
  simp [stepB, e1, e2, size_line, h]
abbrev lagS (span : Int) (ps : List Int) (t : Nat) : List Int := lagO (pk span ps) span ps t
abbrev pkS (span : Int) (ps : List Int) (t : Nat) : Option Nat := pk span ps (lagS span ps t)
theorem lagS_next (span : Int) (ps : List Int) (t : Nat) : lagS span ps (t + 1) = afterO (lagS span ps t) ps span (pkS span ps t) := by
  show stepO _ _ _ _ = _
  unfold stepO pkS afterO
  split <;> rename_i q <;> rw [q]
theorem lagS_len (span : Int) (ps : List Int) (t : Nat) : (lagS span ps t).length = ps.length := lagO_len _ span ps t
def stepsD (span : Int) (ps : List Int) (n : Nat) : List PyData := (List.range n).map fun t => .tuple [opN (pkS span ps t), LD (lagS span ps (t + 1))]
theorem stepsD_succ (span : Int) (ps : List Int) (n : Nat) : stepsD span ps (n + 1) = stepsD span ps n ++ [.tuple [opN (pkS span ps n), LD (lagS span ps (n + 1))]] := by
  rw [stepsD, List.range_succ, List.map_append]
  rfl
theorem stepsD_len (span : Int) (ps : List Int) (n : Nat) : (stepsD span ps n).length = n := by rw [stepsD, List.length_map, List.length_range]
theorem steps_loop {span : Int} {ps : List Int} (D N : PyData) (h0 : ps ≠ []) (h1 : ps.length ≤ 12) (hp : ∀ p ∈ ps, 1 ≤ p ∧ p < 10 ^ 30) (n : Nat) (hn : n ≤ 1000) (c8 : Cell) : ∃ c5 c8', sForL (gN 5) stepB (upL 0 n) [.v D, .v RU, .v N, .v (LD (lagS span ps 0)), .o [], .v (.int 1), .v (.int span), .v (LD ps), c8] =
    .nx [.v D, .v RU, .v N, .v (LD (lagS span ps n)), .o (stepsD span ps n), c5, .v (.int span), .v (LD ps), c8'] := by
  obtain ⟨r', e, c5, c8', _, rfl⟩ := for_keeps (g := gN 5) (body := stepB) (fun t r => ∃ c5 c8, t ≤ n ∧ r = [.v D, .v RU, .v N, .v (LD (lagS span ps t)), .o (stepsD span ps t), c5, .v (.int span), .v (LD ps), c8]) (upL 0 n) 0
    [.v D, .v RU, .v N, .v (LD (lagS span ps 0)), .o [], .v (.int 1), .v (.int span), .v (LD ps), c8] ⟨_, _, Nat.zero_le n, rfl⟩ (fun i d r hd ⟨c5, c8, hi, hr⟩ => by
      subst hr
      have hin : i < n := by
        have := (List.getElem?_eq_some_iff.mp hd).1
        rw [upL_zero, List.length_map, List.length_range] at this
        exact this
      rw [Nat.zero_add]
      have ll := lagS_len span ps i
      have e1 := turn_ok (span := span) ll h0 h1 hp
      have e2 := lags_ok (span := span) ll h1 (pkS span ps i) (fun k hk => pk_lt ll h0 hk)
      rw [← lagS_next] at e2
      refine ⟨[.v D, .v RU, .v N, .v (LD (lagS span ps i)), .o (stepsD span ps i), .v d, .v (.int span), .v (LD ps), c8], _, rfl, stepB_gen (.v d) c8 e1 e2 (by rw [stepsD_len]; omega), .v d, .v (opN (pkS span ps i)), by omega, ?_⟩
      rw [stepsD_succ])
  rw [upL_zero, List.length_map, List.length_range, Nat.zero_add] at e
  rw [← upL_zero] at e
  exact ⟨c5, c8', e⟩
theorem steps_ok {span : Int} {ps : List Int} (h0 : ps ≠ []) (h1 : ps.length ≤ 12) (hp : ∀ p ∈ ps, 1 ≤ p ∧ p < 10 ^ 30) {n : Int} (n0 : 0 ≤ n) (n1 : n ≤ 1000) : fx_steps [.v (loadD 1 span ps), .v RU, .v (.int n)] = .ro (stepsD span ps n.toNat) [.u, .u, .u] := by
  obtain ⟨c5, c8', e⟩ := steps_loop (span := span) (loadD 1 span ps) (.int n) h0 h1 hp n.toNat (by omega) .u
  have sA : sAsg (mVar 0) (gUn 3 (gsCons (gN 5) (gsCons (gN 6) (gsCons (gN 7) gsNil)))) [.v (loadD 1 span ps), .v RU, .v (.int n), .u, .u, .u, .u, .u, .u] = .nx [.v (loadD 1 span ps), .v RU, .v (.int n), .u, .u, .v (.int 1), .v (.int span), .v (LD ps), .u] := rfl
  have ln : (mCl fLen (mCons (mVar 7) (mpure []))) [.v (loadD 1 span ps), .v RU, .v (.int n), .u, .u, .v (.int 1), .v (.int span), .v (LD ps), .u] = .ok (.int (ps.length : Nat)) [.v (loadD 1 span ps), .v RU, .v (.int n), .u, .u, .v (.int 1), .v (.int span), .v (LD ps), .u] := cl1_of rfl (by
    show some (PyData.int _) = _
    rw [List.length_map])
  have z := zeros_of ln (by omega) (by omega)
  rw [Int.toNat_natCast] at z
  have sB : sAsg (mList (mRep (mFit (mCons (mpure (.int 0)) (mpure []))) (mCl fLen (mCons (mVar 7) (mpure []))))) (gN 3) [.v (loadD 1 span ps), .v RU, .v (.int n), .u, .u, .v (.int 1), .v (.int span), .v (LD ps), .u] = .nx [.v (loadD 1 span ps), .v RU, .v (.int n), .v (LD (lagS span ps 0)), .u, .v (.int 1), .v (.int span), .v (LD ps), .u] := asg_of (u := ()) (list_of z) rfl
  generalize loadD 1 span ps = D at *
  generalize LD (lagS span ps 0) = LL at *
  have sC : sOwn (mFit (mpure [])) 4 [.v D, .v RU, .v (.int n), .v LL, .u, .v (.int 1), .v (.int span), .v (LD ps), .u] = .nx [.v D, .v RU, .v (.int n), .v LL, .o [], .v (.int 1), .v (.int span), .v (LD ps), .u] := by simp [size_line]
  have sD : sFor (mRng1 (mCons (mVar 2) (mpure []))) (gN 5) stepB [.v D, .v RU, .v (.int n), .v LL, .o [], .v (.int 1), .v (.int span), .v (LD ps), .u] = _ := (for_of (rng_of rfl n0 (by omega))).trans e
  have hm : m_steps = sSeq (sAsg (mVar 0) (gUn 3 (gsCons (gN 5) (gsCons (gN 6) (gsCons (gN 7) gsNil))))) (sSeq (sAsg (mList (mRep (mFit (mCons (mpure (.int 0)) (mpure []))) (mCl fLen (mCons (mVar 7) (mpure []))))) (gN 3)) (sSeq (sOwn (mFit (mpure [])) 4) (sSeq (sFor (mRng1 (mCons (mVar 2) (mpure []))) (gN 5) stepB) (sRetL (mTake 4))))) := rfl
  show outS _ (m_steps [.v D, .v RU, .v (.int n), .u, .u, .u, .u, .u, .u]) = _
  rw [hm, seq_nx sA, seq_nx sB, seq_nx sC, seq_nx sD]
  simp
def rowsK (span : Int) (ps : List Int) (n : Nat) : Rowz := (List.range n).map fun t => rowN (pkS span ps t)
abbrev elN : M (List PyData) := mIf (mBool (mOp fIs (mVar 3) (mpure .none))) (mFit (mpure [])) (mFit (mCons (mVar 3) (mpure [])))
abbrev elD : M PyData := mIf (mBool (mOp fIs (mVar 3) (mpure .none))) (mList (mFit (mpure []))) (mList (mFit (mCons (mVar 3) (mpure []))))
abbrev elG : G1 := gUn 2 (gsCons (gN 3) (gsCons (gN 4) gsNil))
theorem if_f {A : Type} {t : M Bool} {m n : M A} {r r1 : Ev} (h : t r = .ok false r1) : mIf t m n r = n r1 := by
  show mbind t _ r = _
  simp only [e_bind, h]
  rfl
theorem if_t {A : Type} {t : M Bool} {m n : M A} {r r1 : Ev} (h : t r = .ok true r1) : mIf t m n r = m r1 := by
  show mbind t _ r = _
  simp only [e_bind, h]
  rfl
theorem el_n {D R N : PyData} {o : Option Nat} {c4 : Cell} : elN [.v D, .v R, .v N, .v (opN o), c4] = .ok (rowN o) [.v D, .v R, .v N, .v (opN o), c4] := by
  cases o with
  | none => exact (if_t (r1 := [.v D, .v R, .v N, .v .none, c4]) rfl).trans (by simp [size_line, rowN, opN])
  | some k => exact (if_f (r1 := [.v D, .v R, .v N, .v (.int (k : Nat)), c4]) rfl).trans (by simp [size_line, rowN, opN])
theorem el_d {D R N : PyData} {o : Option Nat} {c4 : Cell} : elD [.v D, .v R, .v N, .v (opN o), c4] = .ok (.list (rowN o)) [.v D, .v R, .v N, .v (opN o), c4] := by
  cases o with
  | none => exact (if_t (r1 := [.v D, .v R, .v N, .v .none, c4]) rfl).trans (by simp [size_line, rowN, opN])
  | some k => exact (if_f (r1 := [.v D, .v R, .v N, .v (.int (k : Nat)), c4]) rfl).trans (by simp [size_line, rowN, opN])
theorem call3_ro {f : List Cell → SR} {D P N : PyData} {cs : Ev} {xs : List PyData} (h1 : f [.v D, .v P, .v N] = .ro xs [.u, .u, .u]) : (mCallD 3 f (mArg (mVar 0) (mArg (mVar 1) (mArg (mVar 2) (mpure []))))) (.v D :: .v P :: .v N :: cs) = .ok (.list xs) (.v D :: .v P :: .v N :: cs) := by
  simp [h1]
section
variable {span n : Int} {ps : List Int} (L : Load 1 span ps) (hs : ps.sum = span) (n0 : 0 ≤ n) (n1 : n ≤ 1000)
theorem Load.ne (L : Load 1 span ps) : ps ≠ [] := fun q => by
  have := L.2.2.2.2.1
  rw [q] at this
  simp at this
theorem Load.sml (L : Load 1 span ps) : ∀ p ∈ ps, 1 ≤ p ∧ p < 10 ^ 30 := fun p hp => by
  have a := L.2.2.2.2.2.2.1 p hp
  have b := L.2.2.2.1
  exact ⟨a.1, by omega⟩
include L n0 n1 in
theorem rows_n : rN_rule_plan [.v (loadD 1 span ps), .v RU, .v (.int n), .u, .u] = .ok (rowsK span ps n.toNat) [.v (loadD 1 span ps), .v RU, .v (.int n), .u, .u] := by
  have e := steps_ok (span := span) (Load.ne L) L.2.2.2.2.2.1 (Load.sml L) n0 n1
  generalize loadD 1 span ps = D at *
  obtain ⟨r', q, c3, c4, rfl⟩ := comprl_mapA (own := [3, 4]) (g := elG) (m := elN) (fun t : Nat => .tuple [opN (pkS span ps t), LD (lagS span ps (t + 1))]) (fun t => rowN (pkS span ps t))
    (fun r => ∃ c3 c4, r = [.v D, .v RU, .v (.int n), c3, c4]) (List.range n.toNat) [] [.v D, .v RU, .v (.int n), .u, .u] ⟨_, _, rfl⟩ (fun t r _ ⟨c3, c4, h⟩ => by
      subst h
      exact ⟨[.v D, .v RU, .v (.int n), .v (opN (pkS span ps t)), .v (LD (lagS span ps (t + 1)))], [.v D, .v RU, .v (.int n), .v (opN (pkS span ps t)), .v (LD (lagS span ps (t + 1)))], rfl, el_n, _, _, rfl⟩) (by rw [List.length_nil, List.length_range]; omega)
  exact compn_of (itl_of (call3_ro e)) q
include L n0 n1 in
theorem rows_d : (mComp [3, 4] (mItL (mCallD 3 fx_steps (mArg (mVar 0) (mArg (mVar 1) (mArg (mVar 2) (mpure [])))))) elG (mpure true) elD) [.v (loadD 1 span ps), .v RU, .v (.int n), .u, .u] = .ok ((rowsK span ps n.toNat).map .list) [.v (loadD 1 span ps), .v RU, .v (.int n), .u, .u] := by
  have e := steps_ok (span := span) (Load.ne L) L.2.2.2.2.2.1 (Load.sml L) n0 n1
  generalize loadD 1 span ps = D at *
  obtain ⟨r', q, c3, c4, rfl⟩ := comp_mapA (own := [3, 4]) (g := elG) (m := elD) (fun t : Nat => .tuple [opN (pkS span ps t), LD (lagS span ps (t + 1))]) (fun t => .list (rowN (pkS span ps t)))
    (fun r => ∃ c3 c4, r = [.v D, .v RU, .v (.int n), c3, c4]) (List.range n.toNat) [] [.v D, .v RU, .v (.int n), .u, .u] ⟨_, _, rfl⟩ (fun t r _ ⟨c3, c4, h⟩ => by
      subst h
      exact ⟨[.v D, .v RU, .v (.int n), .v (opN (pkS span ps t)), .v (LD (lagS span ps (t + 1)))], [.v D, .v RU, .v (.int n), .v (opN (pkS span ps t)), .v (LD (lagS span ps (t + 1)))], rfl, el_d, _, _, rfl⟩) (by rw [List.length_nil, List.length_range]; omega)
  have w := comp_gives (itl_of (call3_ro e)) q
  rw [List.nil_append] at w
  rw [rowsK, List.map_map]
  exact w
include L hs n0 n1 in
theorem chk_ok (t : S) : (sSeq (sDrop (mCallD 1 fx_check_load (mArg (mVar 0) (mpure []))))
    (sSeq (sDrop (mCallD 1 fx_check_rule (mArg (mVar 1) (mpure []))))
    (sSeq (sDrop (mCallD 4 fx_check_number (mDfl (mArg (mVar 2) (mArg (mpure (.str "many")) (mArg (mpure (.int 1000)) (mpure [])))) [PyData.int 0])))
    (sSeq (sDrop (mCallD 2 fx_check_match (mArg (mVar 0) (mArg (mVar 1) (mpure []))))) t)))) [.v (loadD 1 span ps), .v RU, .v (.int n), .u, .u] = t [.v (loadD 1 span ps), .v RU, .v (.int n), .u, .u] := by
  have e1 := check_load_ok L
  have e2 := check_rule_ok
  have e3 := check_most_ok (s := .str "many") n0 n1
  have e4 := check_match_ok hs
  generalize loadD 1 span ps = D at *
  have s1 : sDrop (mCallD 1 fx_check_load (mArg (mVar 0) (mpure []))) [.v D, .v RU, .v (.int n), .u, .u] = .nx [.v D, .v RU, .v (.int n), .u, .u] := drop_of (call1_rt e1)
  have s2 : sDrop (mCallD 1 fx_check_rule (mArg (mVar 1) (mpure []))) [.v D, .v RU, .v (.int n), .u, .u] = .nx [.v D, .v RU, .v (.int n), .u, .u] := by simp [e2]
  have s3 : sDrop (mCallD 4 fx_check_number (mDfl (mArg (mVar 2) (mArg (mpure (.str "many")) (mArg (mpure (.int 1000)) (mpure [])))) [PyData.int 0])) [.v D, .v RU, .v (.int n), .u, .u] = .nx [.v D, .v RU, .v (.int n), .u, .u] := by simp [e3]
  have s4 : sDrop (mCallD 2 fx_check_match (mArg (mVar 0) (mArg (mVar 1) (mpure [])))) [.v D, .v RU, .v (.int n), .u, .u] = .nx [.v D, .v RU, .v (.int n), .u, .u] := drop_of (call2_rt e4)
  rw [seq_nx s1, seq_nx s2, seq_nx s3, seq_nx s4]
include L hs n0 n1 in
theorem plan_d : fx_rule_plan [.v (loadD 1 span ps), .v RU, .v (.int n)] = .ro ((rowsK span ps n.toNat).map .list) [.u, .u, .u] := by
  have q := rows_d L n0 n1
  show outS _ (m_rule_plan [.v (loadD 1 span ps), .v RU, .v (.int n), .u, .u]) = _
  rw [m_rule_plan, chk_ok L hs n0 n1, retl_of q]
  simp
include L hs n0 n1 in
theorem plan_n : fN_rule_plan [.v (loadD 1 span ps), .v RU, .v (.int n)] = .ok (rowsK span ps n.toNat) [.u, .u, .u] := by
  have q := rows_n L n0 n1
  have c : mN_rule_plan [.v (loadD 1 span ps), .v RU, .v (.int n), .u, .u] = .nx [.v (loadD 1 span ps), .v RU, .v (.int n), .u, .u] := chk_ok L hs n0 n1 .nx
  show outN _ (bodyN mN_rule_plan rN_rule_plan [.v (loadD 1 span ps), .v RU, .v (.int n), .u, .u]) = _
  unfold bodyN
  rw [c]
  dsimp only
  rw [q]
  rfl
end
end k53

namespace k53
open Dx PySem PySem.Spec PyProof.Rows L2
abbrev heS (span : Int) (ps : List Int) (t : Nat) : List Int := hereO (pk span ps) span ps t
theorem heS_next (span : Int) (ps : List Int) (t : Nat) : heS span ps (t + 1) = (heS span ps t).modify (pkI (bhL (lagS span ps t) ps)) fun x => x + 1 := rfl
def dueR (span : Int) (ps : List Int) (n : Nat) : List PyData := (rowsK span ps n).map .list
theorem dueR_len (span : Int) (ps : List Int) (n : Nat) : (dueR span ps n).length = n := by rw [dueR, List.length_map, rowsK, List.length_map, List.length_range]
theorem dueR_succ {span : Int} {ps : List Int} {n : Nat} : dueR span ps (n + 1) = dueR span ps n ++ [.list [.int (pkI (bhL (lagS span ps n) ps) : Nat)]] := by
  rw [dueR, rowsK, List.range_succ, List.map_append, List.map_append]
  rfl
theorem addI_at {es : List Int} {k : Nat} (h1 : k < es.length) : ∃ u, atI (es.map PyData.int) (k : Int) = some (.int u) ∧ ixN es.length (k : Int) = some k ∧ (es.map PyData.int).set k (.int (u + 1)) = (es.modify k (fun x => x + 1)).map PyData.int := by
  obtain ⟨u, a, b, c⟩ := subI_at (T := -1) h1
  refine ⟨u, a, b, ?_⟩
  have e : u - -1 = u + 1 := by omega
  have f : (fun x : Int => x - -1) = fun x => x + 1 := funext fun x => by omega
  rw [e, f] at c
  exact c
abbrev someM : M (List PyData) := (mComp [9, 10] (mZip (mCons (mVar 4) (mCons (mVar 6) (mpure [])))) (gUn 2 (gsCons (gN 9) (gsCons (gN 10) gsNil))) (mpure true) (mOp fSub (mOp fMulI (mVar 9) (mOp fAdd (mVar 2) (mpure (.int 1)))) (mOp fMulI (mVar 3) (mVar 10))))
theorem some_ok {D N : PyData} {span at_ : Int} {ps H : List Int} (c5 c7 c8 c9 c10 : Cell) (s1 : 1 ≤ span) (s2 : span < 10 ^ 30) (t0 : 0 ≤ at_) (t1 : at_ ≤ 1000) (hl : H.length = ps.length) (l12 : ps.length ≤ 12) (hp : ∀ p ∈ ps, 1 ≤ p ∧ p < 10 ^ 30) (hb : ∀ h ∈ H, 0 ≤ h ∧ h ≤ 1000) :
    ∃ r', someM [.v D, .v N, .v (.int at_), .v (.int span), .v (.list (ps.map .int)), c5, .v (.list (H.map .int)), c7, c8, c9, c10] = .ok (((ps.zip H).map fun z => z.1 * (at_ + 1) - span * z.2).map .int) r' := by
  obtain ⟨r', e, _⟩ := comp_mapA (own := [9, 10]) (g := gUn 2 (gsCons (gN 9) (gsCons (gN 10) gsNil))) (m := mOp fSub (mOp fMulI (mVar 9) (mOp fAdd (mVar 2) (mpure (.int 1)))) (mOp fMulI (mVar 3) (mVar 10))) (fun z : Int × Int => .tuple [.int z.1, .int z.2]) (fun z => .int (z.1 * (at_ + 1) - span * z.2))
    (fun r => ∃ c9 c10, r = [.v D, .v N, .v (.int at_), .v (.int span), .v (.list (ps.map .int)), c5, .v (.list (H.map .int)), c7, c8, c9, c10]) (ps.zip H) [] [.v D, .v N, .v (.int at_), .v (.int span), .v (.list (ps.map .int)), c5, .v (.list (H.map .int)), c7, c8, c9, c10] ⟨_, _, rfl⟩ (fun z r hz ⟨c9, c10, h⟩ => by
      subst h
      obtain ⟨z1, z2⟩ := z
      obtain ⟨h1, h2⟩ := List.of_mem_zip hz
      have p1 := hp z1 h1
      have b1 := hb z2 h2
      have k1 : okMul z1 (at_ + 1) = true := ok_mul (by unfold Sml; omega) (by unfold Sml; omega)
      have k2 : okMul span z2 = true := ok_mul (by unfold Sml; omega) (by unfold Sml; omega)
      generalize PyData.list (ps.map .int) = P at *
      generalize PyData.list (H.map .int) = Q at *
      exact ⟨[.v D, .v N, .v (.int at_), .v (.int span), .v P, c5, .v Q, c7, c8, .v (.int z1), .v (.int z2)], [.v D, .v N, .v (.int at_), .v (.int span), .v P, c5, .v Q, c7, c8, .v (.int z1), .v (.int z2)], rfl, by simp [k1, k2], _, _, rfl⟩) (by
        rw [List.length_nil, List.length_zip]
        omega)
  have zi : mZip (mCons (mVar 4) (mCons (mVar 6) (mpure []))) [.v D, .v N, .v (.int at_), .v (.int span), .v (.list (ps.map .int)), c5, .v (.list (H.map .int)), c7, c8, c9, c10] = .ok ((ps.zip H).map fun z => .tuple [.int z.1, .int z.2]) [.v D, .v N, .v (.int at_), .v (.int span), .v (.list (ps.map .int)), c5, .v (.list (H.map .int)), c7, c8, c9, c10] := by
    rw [← zip_int]
    exact zip_of rfl rfl
  have q := comp_gives zi e
  rw [List.nil_append] at q
  rw [List.map_map]
  exact ⟨_, q⟩
theorem flat_ints : ∀ ns : List Int, (ns.map PyData.int).all flatD = true
  | [] => rfl
  | n :: ns => by
    rw [List.map_cons, List.all_cons, flat_ints ns]
    rfl
theorem lend_of {i j : Nat} {m : M (List PyData)} {r r5 : Ev} {ds es : List PyData} (h1 : r[i]? = some (.o ds)) (h2 : m (lendR r i ds) = .ok es r5) (h3 : j < r.length) (h4 : es.all flatD = true) : sLend i j m r = .nx (r.set j (.o es)) := by
  unfold sLend
  rw [h1]
  dsimp only
  rw [h2]
  dsimp only
  rw [if_pos ⟨h3, h4⟩]
def dueBody : S := (sSeq (sLend 6 7 someM)
    (sSeq (sAsg (mIdx (mVar 7) (mCl (fInts maxL) (mCons (mVar 7) (mpure [])))) (gN 8))
    (sSeq (sSetIx 6 (mVar 8) (mOp fAdd (mIxO 6 (mVar 8)) (mpure (.int 1))))
    (sApp 5 (mList (mFit (mCons (mVar 8) (mpure []))))))))
theorem pick_own {c0 c1 c2 c3 c4 c5 c6 c8 c9 c10 : Cell} {xs : List Int} (hx : xs ≠ []) : mIdx (mVar 7) (mCl (fInts maxL) (mCons (mVar 7) (mpure []))) [c0, c1, c2, c3, c4, c5, c6, .o (xs.map .int), c8, c9, c10] = .ok (.int (pkI xs : Nat)) [c0, c1, c2, c3, c4, c5, c6, .v (.list (xs.map .int)), c8, c9, c10] := by
  have h2 : (fInts maxL) [.list (xs.map .int)] = some (.int (mxI xs)) := by
    show (intsOf (xs.map .int)).bind maxL = _
    rw [Dx.ints_map]
    exact mx_some hx
  exact idx_of (r1 := [c0, c1, c2, c3, c4, c5, c6, .v (.list (xs.map .int)), c8, c9, c10]) (by simp) (cl1_of (r1 := [c0, c1, c2, c3, c4, c5, c6, .v (.list (xs.map .int)), c8, c9, c10]) rfl h2) (pk_spec hx).1
theorem due_tail {c0 c1 c2 c3 c4 c7 c9 c10 : Cell} {acc : List PyData} {H : List Int} {k : Nat} (hk : k < H.length) (ha : acc.length < 16777216) :
    (sSeq (sSetIx 6 (mVar 8) (mOp fAdd (mIxO 6 (mVar 8)) (mpure (.int 1)))) (sApp 5 (mList (mFit (mCons (mVar 8) (mpure [])))))) [c0, c1, c2, c3, c4, .o acc, .o (H.map .int), c7, .v (.int (k : Nat)), c9, c10] =
      .nx [c0, c1, c2, c3, c4, .o (acc ++ [.list [.int (k : Nat)]]), .o ((H.modify k (fun x => x + 1)).map .int), c7, .v (.int (k : Nat)), c9, c10] := by
  obtain ⟨u, a1, a2, a3⟩ := addI_at hk
  have a2' : ixN (H.map PyData.int).length (k : Int) = some k := by rw [List.length_map]; exact a2
  generalize (k : Int) = kk at *
  simp [-e_at, -e_ixn, a1, a2, a2', a3, size_line, ha]
theorem due_body {D N : PyData} {span at_ : Int} {ps H L : List Int} {acc : List PyData} {c7 c8 c9 c10 : Cell} (s1 : 1 ≤ span) (s2 : span < 10 ^ 30) (t0 : 0 ≤ at_) (t1 : at_ ≤ 1000) (hl : H.length = ps.length) (h0 : ps ≠ []) (l12 : ps.length ≤ 12) (hp : ∀ p ∈ ps, 1 ≤ p ∧ p < 10 ^ 30) (hb : ∀ h ∈ H, 0 ≤ h ∧ h ≤ 1000) (ha : acc.length < 16777216)
    (e : L = (ps.zip H).map fun z => z.1 * at_ - span * z.2) :
    ∃ d7 d8 d9 d10, dueBody [.v D, .v N, .v (.int at_), .v (.int span), .v (.list (ps.map .int)), .o acc, .o (H.map .int), c7, c8, c9, c10] =
      .nx [.v D, .v N, .v (.int at_), .v (.int span), .v (.list (ps.map .int)), .o (acc ++ [.list [.int (pkI (bhL L ps) : Nat)]]), .o ((H.modify (pkI (bhL L ps)) (fun x => x + 1)).map .int), d7, d8, d9, d10] := by
  have b := bhz_of e hl
  have ll : L.length = ps.length := by rw [e, List.length_map, List.length_zip, hl, Nat.min_self]
  have bn := bhl_ne ll h0
  have kl := (pk_spec bn).2
  rw [bh_len ll, ← hl] at kl
  obtain ⟨r', q⟩ := some_ok (D := D) (N := N) .u (wipeC c7) (wipeC c8) (wipeC c9) (wipeC c10) s1 s2 t0 t1 hl l12 hp hb
  rw [← b] at q
  have f1 : sLend 6 7 someM [.v D, .v N, .v (.int at_), .v (.int span), .v (.list (ps.map .int)), .o acc, .o (H.map .int), c7, c8, c9, c10] = .nx [.v D, .v N, .v (.int at_), .v (.int span), .v (.list (ps.map .int)), .o acc, .o (H.map .int), .o ((bhL L ps).map .int), c8, c9, c10] := lend_of rfl q (by show 7 < 11; omega) (flat_ints _)
  have f2 : sAsg (mIdx (mVar 7) (mCl (fInts maxL) (mCons (mVar 7) (mpure [])))) (gN 8) [.v D, .v N, .v (.int at_), .v (.int span), .v (.list (ps.map .int)), .o acc, .o (H.map .int), .o ((bhL L ps).map .int), c8, c9, c10] = .nx [.v D, .v N, .v (.int at_), .v (.int span), .v (.list (ps.map .int)), .o acc, .o (H.map .int), .v (.list ((bhL L ps).map .int)), .v (.int (pkI (bhL L ps) : Nat)), c9, c10] := asg_of (u := ()) (pick_own bn) rfl
  exact ⟨_, _, _, _, by rw [dueBody, seq_nx f1, seq_nx f2]; exact due_tail kl ha⟩
theorem due_loop {span : Int} {ps : List Int} (D N : PyData) (L : Load 1 span ps) (n : Nat) (hn : n ≤ 1000) (c2 c7 c8 c9 c10 : Cell) : ∃ b2 b7 b8 b9 b10, sForL (gN 2) dueBody (upL 0 n) [.v D, .v N, c2, .v (.int span), .v (.list (ps.map .int)), .o [], .o ((heS span ps 0).map .int), c7, c8, c9, c10] =
    .nx [.v D, .v N, b2, .v (.int span), .v (.list (ps.map .int)), .o (dueR span ps n), .o ((heS span ps n).map .int), b7, b8, b9, b10] := by
  obtain ⟨r', e, b2, b7, b8, b9, b10, _, rfl⟩ := for_keeps (g := gN 2) (body := dueBody) (fun t r => ∃ c2 c7 c8 c9 c10, t ≤ n ∧ r = [.v D, .v N, c2, .v (.int span), .v (.list (ps.map .int)), .o (dueR span ps t), .o ((heS span ps t).map .int), c7, c8, c9, c10]) (upL 0 n) 0
    [.v D, .v N, c2, .v (.int span), .v (.list (ps.map .int)), .o [], .o ((heS span ps 0).map .int), c7, c8, c9, c10] ⟨_, _, _, _, _, Nat.zero_le n, rfl⟩ (fun i d r hd ⟨c2, c7, c8, c9, c10, hi, hr⟩ => by
      subst hr
      rw [upL_zero] at hd
      have hin : i < n := by
        have := (List.getElem?_eq_some_iff.mp hd).1
        rw [List.length_map, List.length_range] at this
        exact this
      have hdd : d = .int (i : Int) := by
        rw [List.getElem?_map, List.getElem?_range hin] at hd
        exact (Option.some.inj hd).symm
      subst hdd
      rw [Nat.zero_add]
      have hl := hereO_len (pk span ps) span ps i
      have hb : ∀ h ∈ heS span ps i, 0 ≤ h ∧ h ≤ 1000 := fun x hx => by
        have := hereO_bd (pk span ps) span ps i x hx
        omega
      have ha : (dueR span ps i).length < 16777216 := by rw [dueR_len]; omega
      obtain ⟨d7, d8, d9, d10, b⟩ := due_body (D := D) (N := N) (c7 := c7) (c8 := c8) (c9 := c9) (c10 := c10) L.2.2.1 L.2.2.2.1 (by omega) (by omega) hl (Load.ne L) L.2.2.2.2.2.1 (Load.sml L) hb ha (lagO_eq (pk span ps) span ps i)
      rw [dueR_succ, heS_next]
      exact ⟨_, _, rfl, b, _, _, _, _, _, by omega, rfl⟩)
  rw [upL_zero, List.length_map, List.length_range, Nat.zero_add] at e
  rw [← upL_zero] at e
  exact ⟨b2, b7, b8, b9, b10, e⟩
end k53

namespace k53
open Dx PySem PySem.Spec PyProof.Rows L2
theorem par_of {i j : Nat} {m n : M (List PyData)} {r r1 r2 : Ev} {as bs : List PyData} (h1 : m r = .ok as r1) (h2 : n r1 = .ok bs r2) (h : i ≠ j ∧ i < r2.length ∧ j < r2.length) : sParOO i j m n r = .nx ((r2.set i (.o as)).set j (.o bs)) := by
  unfold sParOO
  simp only [e_sb, h1, h2]
  rw [if_pos h]
theorem zeros_len {ps : List Int} {D N S : PyData} {i : Int} (hi : i = ps.length) (h : ps.length ≤ 12) : (mRep (mFit (mCons (mpure (.int 0)) (mpure []))) (mCl fLen (mCons (mVar 4) (mpure [])))) [.v D, .v N, .u, .v S, .v (.list (ps.map .int)), .u, .u, .u, .u, .u, .u] = .ok (dI (List.replicate i.toNat 0)) [.v D, .v N, .u, .v S, .v (.list (ps.map .int)), .u, .u, .u, .u, .u, .u] := by
  refine zeros_of (cl1_of rfl ?_) (by omega) (by omega)
  show some (PyData.int _) = _
  rw [List.length_map, hi]
theorem due_ok {span n : Int} {ps : List Int} (L : Load 1 span ps) (n0 : 0 ≤ n) (n1 : n ≤ 1000) : fx_law_due [.v (loadD 1 span ps), .v (.int n)] = .ro (dueR span ps n.toNat) [.u, .u] := by
  obtain ⟨b2, b7, b8, b9, b10, e⟩ := due_loop (loadD 1 span ps) (.int n) L n.toNat (by omega) .u .u .u .u .u
  have l12 := L.2.2.2.2.2.1
  have s1 : sAsg (mTup (mCons (mOp fIx (mVar 0) (mpure (.int 1))) (mCons (mOp fIx (mVar 0) (mpure (.int 2))) (mpure [])))) (gUn 2 (gsCons (gN 3) (gsCons (gN 4) gsNil))) [.v (loadD 1 span ps), .v (.int n), .u, .u, .u, .u, .u, .u, .u, .u, .u] = .nx [.v (loadD 1 span ps), .v (.int n), .u, .v (.int span), .v (.list (ps.map .int)), .u, .u, .u, .u, .u, .u] :=
    asg_of (u := ()) (tup2_of (op_of rfl rfl rfl) (op_of rfl rfl rfl)) rfl
  have z := zeros_len (ps := ps) (D := loadD 1 span ps) (N := .int n) (S := .int span) rfl l12
  rw [Int.toNat_natCast] at z
  have z2 : dI (List.replicate ps.length 0) = (heS span ps 0).map .int := rfl
  rw [z2] at z
  generalize (heS span ps 0).map PyData.int = HH at *
  generalize loadD 1 span ps = D at *
  generalize PyData.list (ps.map .int) = P at *
  have s2 : sParOO 5 6 (mFit (mpure [])) (mRep (mFit (mCons (mpure (.int 0)) (mpure []))) (mCl fLen (mCons (mVar 4) (mpure [])))) [.v D, .v (.int n), .u, .v (.int span), .v P, .u, .u, .u, .u, .u, .u] = .nx [.v D, .v (.int n), .u, .v (.int span), .v P, .o [], .o HH, .u, .u, .u, .u] := par_of (by simp [size_line]) z (by simp)
  have s3 : sFor (mRng1 (mCons (mVar 1) (mpure []))) (gN 2) dueBody [.v D, .v (.int n), .u, .v (.int span), .v P, .o [], .o HH, .u, .u, .u, .u] = _ := (for_of (rng_of rfl n0 (by omega))).trans e
  have hm : m_law_due = sSeq (sAsg (mTup (mCons (mOp fIx (mVar 0) (mpure (.int 1))) (mCons (mOp fIx (mVar 0) (mpure (.int 2))) (mpure [])))) (gUn 2 (gsCons (gN 3) (gsCons (gN 4) gsNil)))) (sSeq (sParOO 5 6 (mFit (mpure [])) (mRep (mFit (mCons (mpure (.int 0)) (mpure []))) (mCl fLen (mCons (mVar 4) (mpure []))))) (sSeq (sFor (mRng1 (mCons (mVar 1) (mpure []))) (gN 2) dueBody) (sRetL (mTake 5)))) := rfl
  show outS _ (m_law_due [.v D, .v (.int n), .u, .u, .u, .u, .u, .u, .u, .u, .u]) = _
  rw [hm, seq_nx s1, seq_nx s2, seq_nx s3]
  simp
end k53

namespace k53
open Dx PySem PySem.Spec PyProof.Rows L2
theorem calln_of {f : List Cell → R Rowz} {m : M (List Dx.Arg)} {r : Ev} {a b c : PyData} {t : Rowz} (h : m r = .ok [.d a, .d b, .d c] r) (hf : f [.v a, .v b, .v c] = .ok t [.u, .u, .u]) : mCallN 3 f m r = .ok t r := by
  show mbind m _ r = _
  simp only [e_bind, h]
  have q : argC r [.d a, .d b, .d c] 0 = some [.v a, .v b, .v c] := rfl
  unfold callN
  rw [q]
  dsimp only
  rw [if_pos ⟨rfl, rfl⟩, hf]
  rfl
theorem callnk_of {f : List Cell → R Rowz} {mk : M (List PyData)} {r : Ev} {a b c : PyData} {t : Rowz} (h : mk r = .ok [c, b, a] r) (hf : f [.v a, .v b, .v c] = .ok t [.u, .u, .u]) : mCallNK 3 0 [2, 1, 0] f (mpure []) mk 3 r = .ok t r := by
  have q : argC r [.d a, .d b, .d c] 0 = some [.v a, .v b, .v c] := rfl
  have pk : pick [2, 1, 0] [] [Dx.Arg.d c, Dx.Arg.d b, Dx.Arg.d a] = [Dx.Arg.d a, Dx.Arg.d b, Dx.Arg.d c] := rfl
  show mbind mk _ r = _
  simp only [e_bind, h]
  rw [if_pos ⟨rfl, rfl⟩]
  show callN 3 f (pick [2, 1, 0] [] [Dx.Arg.d c, Dx.Arg.d b, Dx.Arg.d a]) r = _
  rw [pk]
  unfold callN
  rw [q]
  dsimp only
  rw [if_pos ⟨rfl, rfl⟩, hf]
  rfl
theorem ne_str (s : Str) : fNe (.str s) (.str s) = some (.bool false) := by simp [fNe, orD, fNeS]
noncomputable def rightT : S := (sSeq (sParDD 8 9 (mCallD 2 fx_law_due (mArg (mVar 5) (mArg (mVar 3) (mpure [])))) (mCl fRepr (mCons (mVar 5) (mpure []))))
    (newN 6 (mCallN 3 fN_rule_plan (mArg (mVar 5) (mArg (mpure RU) (mArg (mVar 3) (mpure []))))) (mCallNK 3 0 [2, 1, 0] fN_rule_plan (mpure []) (mCons (mVar 3) (mCons (mpure RU) (mCons (mVar 5) (mpure [])))) 3)
    (testN 6 (mBool (mOp fNe (mCl fRepr (mCons (mVar 6) (mpure []))) (mCl fRepr (mCons (mList (mFit (mCons (mVar 8) (mCons (mVar 8) (mpure []))))) (mpure [])))))
    (lastN 6 7
    (sRet (mAndV (mOp fEq (mCl fRepr (mCons (mCallD 3 fx_rule_plan (mArg (mVar 5) (mArg (mpure RU) (mArg (mVar 3) (mpure []))))) (mpure []))) (mCl fRepr (mCons (mVar 8) (mpure [])))) (mOp fEq (mCl fRepr (mCons (mVar 5) (mpure []))) (mVar 9))))))))
theorem rightT_ok {D N S Mo : PyData} {ds : List PyData} {RZ : Rowz} {K T T2 : Str} (c4 : Cell) (fd : flatR [.io 0 ds, .v S, .v Mo, .v N, c4, .v D, .u, .u, .v (.list (RZ.map .list)), .v (.str K)] = true) (np : noPin [.io 0 ds, .v S, .v Mo, .v N, c4, .v D, .u, .u, .v (.list (RZ.map .list)), .v (.str K)] = true)
    (e1 : fx_law_due [.v D, .v N] = .ro (RZ.map .list) [.u, .u]) (e2 : fN_rule_plan [.v D, .v RU, .v N] = .ok RZ [.u, .u, .u]) (e3 : fx_rule_plan [.v D, .v RU, .v N] = .ro (RZ.map .list) [.u, .u, .u])
    (k1 : fRepr [D] = some (.str K)) (k2 : fRepr [.list (RZ.map .list)] = some (.str T)) (k3 : fRepr [.list [.list (RZ.map .list), .list (RZ.map .list)]] = some (.str T2)) (ha : RZ.all (fun ds => decide (ds.length < sizeLine)) = true) (hz : RZ.length < sizeLine) :
    ∃ cs, rightT [.io 0 ds, .v S, .v Mo, .v N, c4, .v D, .u, .u, .u, .u] = .rt (.bool true) (.io 0 ds :: .v S :: .v Mo :: .v N :: cs) := by
  generalize hR : RZ.map PyData.list = R at *
  have s1 : sParDD 8 9 (mCallD 2 fx_law_due (mArg (mVar 5) (mArg (mVar 3) (mpure [])))) (mCl fRepr (mCons (mVar 5) (mpure []))) [.io 0 ds, .v S, .v Mo, .v N, c4, .v D, .u, .u, .u, .u] = .nx [.io 0 ds, .v S, .v Mo, .v N, c4, .v D, .u, .u, .v (.list R), .v (.str K)] := by
    simp [e1, k1]
  have a1 : (mCallN 3 fN_rule_plan (mArg (mVar 5) (mArg (mpure RU) (mArg (mVar 3) (mpure []))))) [.io 0 ds, .v S, .v Mo, .v N, c4, .v D, .u, .u, .v (.list R), .v (.str K)] = .ok RZ [.io 0 ds, .v S, .v Mo, .v N, c4, .v D, .u, .u, .v (.list R), .v (.str K)] := calln_of (by simp) e2
  have a2 : (mCallNK 3 0 [2, 1, 0] fN_rule_plan (mpure []) (mCons (mVar 3) (mCons (mpure RU) (mCons (mVar 5) (mpure [])))) 3) [.io 0 ds, .v S, .v Mo, .v N, c4, .v D, .u, .u, .v (.list R), .v (.str K)] = .ok RZ [.io 0 ds, .v S, .v Mo, .v N, c4, .v D, .u, .u, .v (.list R), .v (.str K)] := callnk_of (by simp) e2
  have a3 : (mBool (mOp fNe (mCl fRepr (mCons (mVar 6) (mpure []))) (mCl fRepr (mCons (mList (mFit (mCons (mVar 8) (mCons (mVar 8) (mpure []))))) (mpure []))))) [.io 0 ds, .v S, .v Mo, .v N, c4, .v D, .v (.list [.list R, .list R]), .u, .v (.list R), .v (.str K)] = .ok false [.io 0 ds, .v S, .v Mo, .v N, c4, .v D, .v (.list [.list R, .list R]), .u, .v (.list R), .v (.str K)] :=
    bool_of (op_of (cl1_of rfl k3) (cl1_of (lst2_of rfl rfl) k3) (ne_str T2))
  have a4 : (mAndV (mOp fEq (mCl fRepr (mCons (mCallD 3 fx_rule_plan (mArg (mVar 5) (mArg (mpure RU) (mArg (mVar 3) (mpure []))))) (mpure []))) (mCl fRepr (mCons (mVar 8) (mpure [])))) (mOp fEq (mCl fRepr (mCons (mVar 5) (mpure []))) (mVar 9))) [.io 0 ds, .v S, .v Mo, .v N, c4, .v D, .u, .u, .v (.list R), .v (.str K)] = .ok (.bool true) [.io 0 ds, .v S, .v Mo, .v N, c4, .v D, .u, .u, .v (.list R), .v (.str K)] := by
    have q1 := eq_str T
    have q2 := eq_str K
    simp [e3, k1, k2, q1, q2]
  refine ⟨[c4, .v D, .u, .u, .v (.list R), .v (.str K)], ?_⟩
  rw [rightT, seq_nx s1]
  refine (newN_of (i := 6) a1 a2 ⟨by simp, np⟩).trans ?_
  refine (testN_of (i := 6) (r := [.io 0 ds, .v S, .v Mo, .v N, c4, .v D, .u, .u, .v (.list R), .v (.str K)]) fd (by rw [hR]; exact a3)).trans ?_
  refine (lastN_of ⟨by decide, by simp, ha, hz⟩).trans ?_
  exact ret_of a4
end k53

namespace k53
open Dx PySem PySem.Spec PyProof.Rows L2
theorem rows_shw {span : Int} {ps : List Int} (n : Nat) (hn : n ≤ 1000) (hp : ∀ t k, pkS span ps t = some k → k < 12) : Shw 130000 3 (.list ((rowsK span ps n).map .list)) := by
  have q := shw_list (ds := (rowsK span ps n).map .list) (L := 106) (D := 2) fun d hd => by
    obtain ⟨row, hr, rfl⟩ := List.mem_map.mp hd
    obtain ⟨t, _, rfl⟩ := List.mem_map.mp hr
    cases e : pkS span ps t with
    | none => exact (shw_ints (ns := []) fun n hn => by cases hn).le (by simp) (by omega)
    | some k =>
      have := hp t k e
      exact (shw_ints (ns := [(k : Int)]) fun n hn => by
        rw [List.mem_singleton] at hn
        subst hn
        unfold Nrm
        omega).le (by simp) (by omega)
  rw [List.length_map, rowsK, List.length_map, List.length_range] at q
  have q2 : Shw 130000 3 (.list ((rowsK span ps n).map .list)) := q.le (by omega) (by omega)
  exact q2
theorem pk_12 {span : Int} {ps : List Int} (h0 : ps ≠ []) (h1 : ps.length ≤ 12) (t k : Nat) (e : pkS span ps t = some k) : k < 12 := by
  have := pk_lt (lagS_len span ps t) h0 e
  omega
theorem tail_ok {span n : Int} {ps : List Int} {S Mo : PyData} {ds : List PyData} (c4 : Cell) (hc4 : c4 = .v (.int ps.length) ∨ True) (fd : ∀ (R : List PyData) (K : Str), R = (rowsK span ps n.toNat).map .list → flatR [.io 0 ds, .v S, .v Mo, .v (.int n), c4, .v (loadD 1 span ps), .u, .u, .v (.list R), .v (.str K)] = true) (np : ∀ (R : List PyData) (K : Str), noPin [.io 0 ds, .v S, .v Mo, .v (.int n), c4, .v (loadD 1 span ps), .u, .u, .v (.list R), .v (.str K)] = true) (L : Load 1 span ps) (hs : ps.sum = span) (n0 : 0 ≤ n) (n1 : n ≤ 1000) :
    ∃ cs, rightT [.io 0 ds, .v S, .v Mo, .v (.int n), c4, .v (loadD 1 span ps), .u, .u, .u, .u] = .rt (.bool true) (.io 0 ds :: .v S :: .v Mo :: .v (.int n) :: cs) := by
  have e1 := due_ok L n0 n1
  have e2 := plan_n L hs n0 n1
  have e3 := plan_d L hs n0 n1
  have l12 := L.2.2.2.2.2.1
  have sh := rows_shw (span := span) (ps := ps) n.toNat (by omega) (pk_12 (Load.ne L) l12)
  have sh2 := shw_list (ds := [PyData.list ((rowsK span ps n.toNat).map .list), .list ((rowsK span ps n.toNat).map .list)]) (L := 130000) (D := 3) fun d hd => by
    rcases List.mem_cons.mp hd with h | h
    · rw [h]; exact sh
    · rw [List.mem_singleton] at h
      rw [h]; exact sh
  have s2 := L.2.2.2.1
  have s1 := L.2.2.1
  obtain ⟨b1, b2, b3⟩ := sh_load (units := 1) (span := span) (ps := ps) (by decide) (by omega) l12 fun p hp => by
    have := L.2.2.2.2.2.2.1 p hp
    omega
  have k1 := repr_of (d := loadD 1 span ps) (by rw [size_line]; omega) b2 (by omega)
  exact rightT_ok c4 (fd _ _ rfl) (np _ _) e1 e2 e3 k1 (shw_repr sh (by omega) (by omega)) (shw_repr sh2 (by simp) (by omega)) (List.all_eq_true.mpr fun row hr => by
    obtain ⟨t, _, rfl⟩ := List.mem_map.mp hr
    refine decide_eq_true ?_
    rw [size_line]
    cases pkS span ps t <;> simp [rowN]) (by rw [rowsK, List.length_map, List.length_range, size_line]; omega)
def rA52 : S := (sAsg (mOp fAdd (mpure (.int 1)) (mCallD 2 fx_law_draw (mArgS 0 (mArg (mCl (f2I fun i j => .int (minI i j)) (mCons (mVar 2) (mCons (mVar 1) (mpure [])))) (mpure []))))) (gN 4))
def rB52 : S := (sAsg (mTup (mCons (mpure (.int 1)) (mCons (mVar 1) (mCons (mCallD 4 fx_law_parts (mArgS 0 (mArg (mVar 1) (mArg (mVar 4) (mArg (mVar 1) (mpure [])))))) (mpure []))))) (gN 5))
theorem right_parts : m_law_right = sSeq rA52 (sSeq rB52 rightT) := rfl
theorem rA52_ok {span most d : Int} {N : PyData} {ds ds' : List PyData} (e : fx_law_draw [.io 0 ds, .v (.int (minI most span))] = .rt (.int d) [.io 0 ds', .u]) :
    rA52 [.io 0 ds, .v (.int span), .v (.int most), .v N, .u, .u, .u, .u, .u, .u] = .nx [.io 0 ds', .v (.int span), .v (.int most), .v N, .v (.int (1 + d)), .u, .u, .u, .u, .u] := by
  simp [rA52, e]
theorem rB52_ok {span most s : Int} {N : PyData} {ds ds' P : List PyData} (e : fx_law_parts [.io 0 ds, .v (.int span), .v (.int s), .v (.int span)] = .ro P [.io 0 ds', .u, .u, .u]) :
    rB52 [.io 0 ds, .v (.int span), .v (.int most), .v N, .v (.int s), .u, .u, .u, .u, .u] = .nx [.io 0 ds', .v (.int span), .v (.int most), .v N, .v (.int s), .v (.tuple [.int 1, .int span, .list P]), .u, .u, .u, .u] := by
  simp [rB52, e, size_line]
theorem right_ok {B span most n : Int} {ds : List PyData} (hs : Src B ds) (hB : B + 20 ≤ 10 ^ 12) (s1 : 1 ≤ span) (s2 : span ≤ 1000) (m1 : 1 ≤ most) (m2 : most ≤ 12) (n0 : 0 ≤ n) (n1 : n ≤ 1000) :
    ∃ ds', fx_law_right [.io 0 ds, .v (.int span), .v (.int most), .v (.int n)] = .rt (.bool true) [.io 0 ds', .u, .u, .u] ∧ Src (B + 13) ds' := by
  have c0 : 0 < minI most span := by unfold minI; split <;> omega
  have c1 : minI most span ≤ most ∧ minI most span ≤ span := by unfold minI; split <;> omega
  obtain ⟨d, ds1, e1, hs1, d0, d1⟩ := draw_ok 0 hs (by omega) c0 (by unfold Sml; omega)
  obtain ⟨ps, ds2, e2, pl, pb, psum, hs2⟩ := parts_ok (whole := span) (often := 1 + d) (far := span) 0 s1 (by unfold Sml; omega) (by omega) (by omega) (by omega) (by
    have := Int.mul_le_mul_of_nonneg_right (a := 1) (b := 1 + d) (c := span) (by omega) (by omega)
    omega) hs1 (by omega)
  have L : Load 1 span ps := ⟨by omega, by omega, s1, by omega, by omega, by omega, pb, by omega⟩
  have fl : ds2.all flatD = true := by
    obtain ⟨g, m, z, rfl, _⟩ := hs2
    rfl
  obtain ⟨cs, e3⟩ := tail_ok (S := .int span) (Mo := .int most) (ds := ds2) (.v (.int (1 + d))) (.inr trivial) (fun R K _ => by simp [flatR, flatC, fl]) (fun R K => rfl) L psum n0 n1
  refine ⟨ds2, ?_, by
    have q := hs2
    rw [show B + 13 = B + 1 + 12 by omega]
    exact q⟩
  show outS _ (m_law_right [.io 0 ds, .v (.int span), .v (.int most), .v (.int n), .u, .u, .u, .u, .u, .u]) = _
  rw [right_parts, seq_nx (rA52_ok e1), seq_nx (rB52_ok e2), e3]
  simp
end k53

namespace k53
open Dx PySem PySem.Spec PyProof.Rows L2
abbrev SC (ns : List Int) : PyData := .list (ns.map .int)
noncomputable def lB1 : S := (sCond (mAnd (mBool (mOp fEq (mVar 1) (mpure (.int 0)))) (mAnd (mBool (mOp fNe (mVar 0) (mList (mFit (mpure []))))) (mNot (mTru (mCallD 4 fx_law_right (mArgS 3 (mArg (mpure (.int 1000)) (mArg (mpure (.int 12)) (mArg (mpure (.int 1000)) (mpure []))))))))))
    (sRet (mpure (.bool false)))
    .nx)
noncomputable def lB2 : S := (sCond (mNot (mTru (mCallD 4 fx_law_right (mArgS 3 (mArg (mOp fAdd (mpure (.int 1)) (mCallD 2 fx_law_draw (mArgS 3 (mArg (mpure (.int 1000)) (mpure []))))) (mArg (mpure (.int 12)) (mArg (mCallD 2 fx_law_draw (mArgS 3 (mArg (mpure (.int 40)) (mpure [])))) (mpure []))))))))
    (sRet (mpure (.bool false)))
    .nx)
noncomputable def lB3 : S := (sSeq (sAsg (mOp fAdd (mpure (.int 1)) (mCallD 2 fx_law_draw (mArgS 3 (mArg (mOp fIx (mList (mFit (mCons (mpure (.int 9)) (mCons (mpure (.int 60)) (mpure []))))) (mCl fInt (mCons (mOp fNe (mVar 0) (mList (mFit (mpure [])))) (mpure [])))) (mpure []))))) (gN 5))
    (sCond (mNot (mTru (mCallD 4 fx_law_right (mArgS 3 (mArg (mVar 5) (mArg (mpure (.int 6)) (mArg (mCallD 2 fx_law_draw (mArgS 3 (mArg (mOp fIx (mList (mFit (mCons (mpure (.int 20)) (mCons (mpure (.int 150)) (mpure []))))) (mCl fInt (mCons (mOp fNe (mVar 0) (mList (mFit (mpure [])))) (mpure [])))) (mpure [])))) (mpure []))))))))
    (sRet (mpure (.bool false)))
    .nx))
theorem lB1_ok {B k : Int} {ns : List Int} {ds : List PyData} (c3 c5 c6 : Cell) (hs : Src B ds) (hB : B + 20 ≤ 10 ^ 12) :
    ∃ ds', lB1 [.v (SC ns), .v (.int k), c3, .o ds, c5, c6] = .nx [.v (SC ns), .v (.int k), c3, .o ds', c5, c6] ∧ Src (B + 13) ds' := by
  obtain ⟨ds1, e1, hs1⟩ := right_ok (span := 1000) (most := 12) (n := 1000) hs hB (by omega) (by omega) (by omega) (by omega) (by omega) (by omega)
  obtain ⟨b, fb⟩ := fne_nil ns
  by_cases hk : k = 0
  · cases b with
    | true => exact ⟨ds1, by simp [lB1, hk, fb, e1, size_line], hs1⟩
    | false => exact ⟨ds, by simp [lB1, hk, fb, size_line], hs.le (by omega)⟩
  · exact ⟨ds, by simp [lB1, hk], hs.le (by omega)⟩
theorem lB2_ok {B k : Int} {ns : List Int} {ds : List PyData} (c3 c5 c6 : Cell) (hs : Src B ds) (hB : B + 40 ≤ 10 ^ 12) :
    ∃ ds', lB2 [.v (SC ns), .v (.int k), c3, .o ds, c5, c6] = .nx [.v (SC ns), .v (.int k), c3, .o ds', c5, c6] ∧ Src (B + 15) ds' := by
  obtain ⟨d, ds1, e1, hs1, d0, d1⟩ := draw_ok (c := 1000) 0 hs (by omega) (by omega) (by unfold Sml; decide)
  obtain ⟨d2, ds2, e2, hs2, d20, d21⟩ := draw_ok (c := 40) 0 hs1 (by omega) (by omega) (by unfold Sml; decide)
  obtain ⟨ds3, e3, hs3⟩ := right_ok (span := 1 + d) (most := 12) (n := d2) hs2 (by omega) (by omega) (by omega) (by omega) (by omega) (by omega) (by omega)
  exact ⟨ds3, by simp [lB2, e1, e2, e3], hs3.le (by omega)⟩
theorem lB3_ok {B k : Int} {ns : List Int} {ds : List PyData} (c3 c5 c6 : Cell) (hs : Src B ds) (hB : B + 40 ≤ 10 ^ 12) :
    ∃ ds' d6, lB3 [.v (SC ns), .v (.int k), c3, .o ds, c5, c6] = .nx [.v (SC ns), .v (.int k), c3, .o ds', c5, d6] ∧ Src (B + 15) ds' := by
  obtain ⟨b, fb⟩ := fne_nil ns
  have i1 : ∀ b : Bool, fInt [.bool b] = some (.int (if b = true then 1 else 0)) := fun b => by cases b <;> rfl
  cases b with
  | true =>
    obtain ⟨d, ds1, e1, hs1, d0, d1⟩ := draw_ok (c := 60) 0 hs (by omega) (by omega) (by unfold Sml; decide)
    obtain ⟨d2, ds2, e2, hs2, d20, d21⟩ := draw_ok (c := 150) 0 hs1 (by omega) (by omega) (by unfold Sml; decide)
    obtain ⟨ds3, e3, hs3⟩ := right_ok (span := 1 + d) (most := 6) (n := d2) hs2 (by omega) (by omega) (by omega) (by omega) (by omega) (by omega) (by omega)
    exact ⟨ds3, _, by simp [lB3, fb, e1, e2, e3, size_line]; rfl, hs3.le (by omega)⟩
  | false =>
    obtain ⟨d, ds1, e1, hs1, d0, d1⟩ := draw_ok (c := 9) 0 hs (by omega) (by omega) (by unfold Sml; decide)
    obtain ⟨d2, ds2, e2, hs2, d20, d21⟩ := draw_ok (c := 20) 0 hs1 (by omega) (by omega) (by unfold Sml; decide)
    obtain ⟨ds3, e3, hs3⟩ := right_ok (span := 1 + d) (most := 6) (n := d2) hs2 (by omega) (by omega) (by omega) (by omega) (by omega) (by omega) (by omega)
    exact ⟨ds3, _, by simp [lB3, fb, e1, e2, e3, size_line]; rfl, hs3.le (by omega)⟩
noncomputable def cellB : S := (sSeq (sOwn (mCallO 2 fx_law_source (mArg (mVar 2) (mArg (mVar 1) (mpure [])))) 3) (sSeq lB1 (sSeq lB2 (sFor (mRng1 (mCons (mpure (.int 2)) (mpure []))) (gN 4) lB3))))
theorem cellB_ok {ns : List Int} (c4 c5 c6 : Cell) (k : Nat) (hk : k ≤ 100) (cell : Int) :
    ∃ d4 d5 d6, cellB [.v (SC ns), .v (.int k), .v (.int cell), c4, c5, c6] = .nx [.v (SC ns), .v (.int k), .v (.int cell), d4, d5, d6] := by
  obtain ⟨ds, e, hs⟩ := source_ok cell k (by omega) (by omega)
  generalize (k : Int) = kk at *
  obtain ⟨ds1, e1, hs1⟩ := lB1_ok (ns := ns) (k := kk) (.v (.int cell)) c5 c6 hs (by omega)
  obtain ⟨ds2, e2, hs2⟩ := lB2_ok (ns := ns) (k := kk) (.v (.int cell)) c5 c6 hs1 (by omega)
  obtain ⟨ds3, x6, e3, hs3⟩ := lB3_ok (ns := ns) (k := kk) (.v (.int cell)) (.v (.int 0)) c6 hs2 (by omega)
  obtain ⟨ds4, y6, e4, hs4⟩ := lB3_ok (ns := ns) (k := kk) (.v (.int cell)) (.v (.int 1)) x6 hs3 (by omega)
  generalize SC ns = P at *
  have er : rng1 [.int 2] = some [.int 0, .int 1] := rfl
  refine ⟨.o ds4, .v (.int 1), y6, ?_⟩
  have s1 : sOwn (mCallO 2 fx_law_source (mArg (mVar 2) (mArg (mVar 1) (mpure [])))) 3 [.v P, .v (.int kk), .v (.int cell), c4, c5, c6] = .nx [.v P, .v (.int kk), .v (.int cell), .o ds, c5, c6] := by simp [e]
  rw [cellB, seq_nx s1, seq_nx e1, seq_nx e2]
  refine (for_of (ds := [.int 0, .int 1]) (r1 := [.v P, .v (.int kk), .v (.int cell), .o ds2, c5, c6]) (by simp [er])).trans ?_
  rw [e_for1 (u := ()) (r1 := [.v P, .v (.int kk), .v (.int cell), .o ds2, .v (.int 0), c6]) rfl e3, e_for1 (u := ()) (r1 := [.v P, .v (.int kk), .v (.int cell), .o ds3, .v (.int 1), x6]) rfl e4]
  rfl
abbrev cellG : G1 := gUn 2 (gsCons (gN 1) (gsCons (gN 2) gsNil))
theorem cells_ok {ns : List Int} : ∀ (ms : List Int) (k : Nat) (c2 c3 c4 c5 c6 : Cell), k + ms.length ≤ 100 →
    ∃ d2 d3 d4 d5 d6, sForL cellG cellB (enumL k (ms.map .int)) [.v (SC ns), c2, c3, c4, c5, c6] = .nx [.v (SC ns), d2, d3, d4, d5, d6]
  | [], k, c2, c3, c4, c5, c6, h => ⟨c2, c3, c4, c5, c6, rfl⟩
  | m :: ms, k, c2, c3, c4, c5, c6, h => by
    rw [List.length_cons] at h
    obtain ⟨x4, x5, x6, e⟩ := cellB_ok (ns := ns) c4 c5 c6 k (by omega) m
    obtain ⟨d2, d3, d4, d5, d6, e2⟩ := cells_ok (ns := ns) ms (k + 1) (.v (.int k)) (.v (.int m)) x4 x5 x6 (by omega)
    refine ⟨d2, d3, d4, d5, d6, ?_⟩
    have st : cellG (.tuple [.int (k : Int), .int m]) [.v (SC ns), c2, c3, c4, c5, c6] = .ok () [.v (SC ns), .v (.int k), .v (.int m), c4, c5, c6] := rfl
    exact (e_for1 st e).trans e2
noncomputable def lawF : S := (sFor (mEnum (mCons (mList (mSl (mOp fAdd (mVar 0) (mList (mFit (mCons (mpure (.int 0)) (mpure []))))) none (some (mCl (f2I fun i j => .int (maxI i j)) (mCons (mpure (.int 1)) (mCons (mCl (f2I fun i j => .int (minI i j)) (mCons (mCl fLen (mCons (mVar 0) (mpure []))) (mCons (mpure (.int 8)) (mpure [])))) (mpure []))))))) (mpure []))) cellG cellB)
noncomputable def lawE : S := sRet (mOp fEq (mCallD 3 fx_rule_plan (mArg (mTup (mCons (mpure (.int 1)) (mCons (mpure (.int 6)) (mCons (mList (mFit (mCons (mpure (.int 3)) (mCons (mpure (.int 2)) (mCons (mpure (.int 1)) (mpure [])))))) (mpure []))))) (mArg (mpure RU) (mArg (mpure (.int 6)) (mpure []))))) (mList (mFit (mCons (mList (mFit (mCons (mpure (.int 0)) (mpure [])))) (mCons (mList (mFit (mCons (mpure (.int 1)) (mpure [])))) (mCons (mList (mFit (mCons (mpure (.int 0)) (mpure [])))) (mCons (mList (mFit (mCons (mpure (.int 2)) (mpure [])))) (mCons (mList (mFit (mCons (mpure (.int 1)) (mpure [])))) (mCons (mList (mFit (mCons (mpure (.int 0)) (mpure [])))) (mpure []))))))))))
theorem law_parts : m_law = sSeq lawF lawE := rfl
theorem ld3 : Load 1 6 [3, 2, 1] := ⟨by omega, by omega, by omega, by omega, by decide, by decide, by decide, by decide⟩
theorem rows3 : rowsK 6 [3, 2, 1] 6 = [[.int 0], [.int 1], [.int 0], [.int 2], [.int 1], [.int 0]] := by rfl
theorem lawE_ok {P : PyData} (d2 d3 d4 d5 d6 : Cell) : ∃ cs, lawE [.v P, d2, d3, d4, d5, d6] = .rt (.bool true) (.v P :: cs) := by
  have e := plan_d (n := 6) ld3 (by decide) (by omega) (by omega)
  rw [show (6 : Int).toNat = 6 from rfl, rows3] at e
  have e' : fx_rule_plan [.v (.tuple [.int 1, .int 6, .list [.int 3, .int 2, .int 1]]), .v RU, .v (.int 6)] = .ro [.list [.int 0], .list [.int 1], .list [.int 0], .list [.int 2], .list [.int 1], .list [.int 0]] [.u, .u, .u] := e
  have q : fEq (.list [.list [.int 0], .list [.int 1], .list [.int 0], .list [.int 2], .list [.int 1], .list [.int 0]]) (.list [.list [.int 0], .list [.int 1], .list [.int 0], .list [.int 2], .list [.int 1], .list [.int 0]]) = some (.bool true) := by rfl
  refine ⟨[d2, d3, d4, d5, d6], ?_⟩
  simp [lawE, e', q, size_line]
theorem law_ok (ns : List Int) (hn : ns.length ≤ 63) : ∃ cs, fx_law [.v (.list (ns.map .int))] = .rt (.bool true) cs := by
  have sz := size_line
  obtain ⟨ms, hm, hl⟩ := cut_ints (ns ++ [0]) none (some (maxI 1 (minI ns.length 8)))
  rw [List.map_append] at hm
  rw [List.length_append] at hl
  obtain ⟨d2, d3, d4, d5, d6, e⟩ := cells_ok (ns := ns) ms 0 .u .u .u .u .u (by simp at hl; omega)
  have hz : ns.length + 1 ≤ sizeLine := by omega
  rw [size_line] at hz
  have hm' : Dx.cutD (ns.map PyData.int ++ [.int 0]) none (some (maxI 1 (minI ns.length 8))) = ms.map PyData.int := hm
  have f : lawF [.v (.list (ns.map .int)), .u, .u, .u, .u, .u] = .nx [.v (.list (ns.map .int)), d2, d3, d4, d5, d6] := by
    simp [lawF, hm', hz, e, size_line]
  obtain ⟨cs, g⟩ := lawE_ok (P := .list (ns.map .int)) d2 d3 d4 d5 d6
  refine ⟨[.u], ?_⟩
  show outS _ (m_law [.v (.list (ns.map .int)), .u, .u, .u, .u, .u]) = _
  rw [law_parts, seq_nx f, g]
  simp
end k53

namespace k53
open Dx PySem PySem.Spec PyProof.Rows L2
theorem all_mk {P : Program} {w : World} {K : PySem.W.Frag} {ct0 : String → Option Value} {h : Heap} {mg : Str → Option Value} {fa : Addr} (X : K.In h) (G : h.Ns mainGlobals mg) (hfa : mg "law" = some (.ref fa))
    {f1 f2 f3 f4 f5 f6 f7 f8 f9 f10 f11 f12 f13 f14 f15 f16 f17 f18 f19 f20 f21 f22   : Addr} {sl1 sl2 sl3 sl4 sl5 sl6 sl7 sl8 sl9 sl10 sl11 sl12 sl13 sl14 sl15 sl16 sl17 sl18 sl19 sl20 sl21 sl22 : Array (Option Value)} {oc1 oc2 oc3 oc4 oc5 oc6 oc7 oc8 oc9 oc10 oc11 oc12 oc13 oc14 oc15 oc16 oc17 oc18 oc19 oc20 oc21 oc22 kV1 kV2 kV3 kV4 kV5 kV6 kV7 kV8 kV9 kV10 kV11 kV12 kV13 kV14 kV15 kV16 kV17 kV18 kV19 kV20 kV21 kV22 dc1 dc2 dc3 dc4 dc5 dc6 dc7 dc8 dc9 dc10 dc11 dc12 dc13 dc14 dc15 dc16 dc17 dc18 dc19 dc20 dc21 dc22 pm1 pm2 pm3 pm4 pm5 pm6 pm7 pm8 pm9 pm10 pm11 pm12 pm13 pm14 pm15 pm16 pm17 pm18 pm19 pm20 pm21 pm22 cd1 cd2 cd3 cd4 cd5 cd6 cd7 cd8 cd9 cd10 cd11 cd12 cd13 cd14 cd15 cd16 cd17 cd18 cd19 cd20 cd21 cd22 ct1 ct2 ct3 ct4 ct5 ct6 ct7 ct8 ct9 ct10 ct11 ct12 ct13 ct14 ct15 ct16 ct17 ct18 ct19 ct20 ct21 ct22 : Value}
    {od1 od2 od3 od4 od5 od6 od7 od8 od9 od10 od11 od12 od13 od14 od15 od16 od17 od18 od19 od20 od21 od22 an1 an2 an3 an4 an5 an6 an7 an8 an9 an10 an11 an12 an13 an14 an15 an16 an17 an18 an19 an20 an21 an22 : Option Addr} {t_MOST_PROCESSES t_MOST_PROCESSORS t_MOST_TICKS : Tok}
    {T7 : Addr} {oc2_7 : Value} {od2_7 : Option Addr} {n2_7 : Nat} {sl2_7 : Array (Option Value)}
    {T12 : Addr} {oc2_12 : Value} {od2_12 : Option Addr} {n2_12 : Nat} {sl2_12 : Array (Option Value)}
    (a1 : PySem.W.nsIn K mainGlobals "_law_source" = some (some (.ref f1))) (l1 : K.lookup f1 = some ⟨oc1, od1, .func (PySem.W.fnOf "_law_source" "_law_source" (defArgs s_law_source) (defBody s_law_source) (defScope s_law_source) .none kV1 dc1 pm1 an1 cd1 ct1), sl1⟩) (c1 : PySem.W.codeIn K cd1 "_law_source" = true) (k1 : PySem.W.keepIn K (.ref f1) = true)
    (a2 : PySem.W.nsIn K mainGlobals "is_integer" = some (some (.ref f2))) (l2 : K.lookup f2 = some ⟨oc2, od2, .func (PySem.W.fnOf "is_integer" "is_integer" (defArgs s_is_integer) (defBody s_is_integer) (defScope s_is_integer) .none kV2 dc2 pm2 an2 cd2 ct2), sl2⟩) (c2 : PySem.W.codeIn K cd2 "is_integer" = true) (k2 : PySem.W.keepIn K (.ref f2) = true)
    (a3 : PySem.W.nsIn K mainGlobals "is_integer_from" = some (some (.ref f3))) (l3 : K.lookup f3 = some ⟨oc3, od3, .func (PySem.W.fnOf "is_integer_from" "is_integer_from" (defArgs s_is_integer_from) (defBody s_is_integer_from) (defScope s_is_integer_from) .none kV3 dc3 pm3 an3 cd3 ct3), sl3⟩) (c3 : PySem.W.codeIn K cd3 "is_integer_from" = true) (k3 : PySem.W.keepIn K (.ref f3) = true)
    (a4 : PySem.W.nsIn K mainGlobals "are_shares" = some (some (.ref f4))) (l4 : K.lookup f4 = some ⟨oc4, od4, .func (PySem.W.fnOf "are_shares" "are_shares" (defArgs s_are_shares) (defBody s_are_shares) (defScope s_are_shares) .none kV4 dc4 pm4 an4 cd4 ct4), sl4⟩) (c4 : PySem.W.codeIn K cd4 "are_shares" = true) (k4 : PySem.W.keepIn K (.ref f4) = true)
    (a5 : PySem.W.nsIn K mainGlobals "check_load" = some (some (.ref f5))) (l5 : K.lookup f5 = some ⟨oc5, od5, .func (PySem.W.fnOf "check_load" "check_load" (defArgs s_check_load) (defBody s_check_load) (defScope s_check_load) .none kV5 dc5 pm5 an5 cd5 ct5), sl5⟩) (c5 : PySem.W.codeIn K cd5 "check_load" = true) (k5 : PySem.W.keepIn K (.ref f5) = true)
    (a6 : PySem.W.nsIn K mainGlobals "check_rule" = some (some (.ref f6))) (l6 : K.lookup f6 = some ⟨oc6, od6, .func (PySem.W.fnOf "check_rule" "check_rule" (defArgs s_check_rule) (defBody s_check_rule) (defScope s_check_rule) .none kV6 dc6 pm6 an6 cd6 ct6), sl6⟩) (c6 : PySem.W.codeIn K cd6 "check_rule" = true) (k6 : PySem.W.keepIn K (.ref f6) = true)
    (a7 : PySem.W.nsIn K mainGlobals "check_number" = some (some (.ref f7))) (l7 : K.lookup f7 = some ⟨oc7, od7, .func (PySem.W.fnOf "check_number" "check_number" (defArgs s_check_number) (defBody s_check_number) (defScope s_check_number) (.ref T7) kV7 dc7 pm7 an7 cd7 ct7), sl7⟩) (d7 : K.lookup T7 = some ⟨oc2_7, od2_7, .seq ([Value.none, Value.int 0 d_t0] : List Value).toArray n2_7, sl2_7⟩) (c7 : PySem.W.codeIn K cd7 "check_number" = true) (k7 : PySem.W.keepIn K (.ref f7) = true)
    (a8 : PySem.W.nsIn K mainGlobals "check_single" = some (some (.ref f8))) (l8 : K.lookup f8 = some ⟨oc8, od8, .func (PySem.W.fnOf "check_single" "check_single" (defArgs s_check_single) (defBody s_check_single) (defScope s_check_single) .none kV8 dc8 pm8 an8 cd8 ct8), sl8⟩) (c8 : PySem.W.codeIn K cd8 "check_single" = true) (k8 : PySem.W.keepIn K (.ref f8) = true)
    (a9 : PySem.W.nsIn K mainGlobals "check_match" = some (some (.ref f9))) (l9 : K.lookup f9 = some ⟨oc9, od9, .func (PySem.W.fnOf "check_match" "check_match" (defArgs s_check_match) (defBody s_check_match) (defScope s_check_match) .none kV9 dc9 pm9 an9 cd9 ct9), sl9⟩) (c9 : PySem.W.codeIn K cd9 "check_match" = true) (k9 : PySem.W.keepIn K (.ref f9) = true)
    (a10 : PySem.W.nsIn K mainGlobals "most_behind" = some (some (.ref f10))) (l10 : K.lookup f10 = some ⟨oc10, od10, .func (PySem.W.fnOf "most_behind" "most_behind" (defArgs s_most_behind) (defBody s_most_behind) (defScope s_most_behind) .none kV10 dc10 pm10 an10 cd10 ct10), sl10⟩) (c10 : PySem.W.codeIn K cd10 "most_behind" = true) (k10 : PySem.W.keepIn K (.ref f10) = true)
    (a11 : PySem.W.nsIn K mainGlobals "rounded_up" = some (some (.ref f11))) (l11 : K.lookup f11 = some ⟨oc11, od11, .func (PySem.W.fnOf "rounded_up" "rounded_up" (defArgs s_rounded_up) (defBody s_rounded_up) (defScope s_rounded_up) .none kV11 dc11 pm11 an11 cd11 ct11), sl11⟩) (c11 : PySem.W.codeIn K cd11 "rounded_up" = true) (k11 : PySem.W.keepIn K (.ref f11) = true)
    (a12 : PySem.W.nsIn K mainGlobals "first_end" = some (some (.ref f12))) (l12 : K.lookup f12 = some ⟨oc12, od12, .func (PySem.W.fnOf "first_end" "first_end" (defArgs s_first_end) (defBody s_first_end) (defScope s_first_end) (.ref T12) kV12 dc12 pm12 an12 cd12 ct12), sl12⟩) (d12 : K.lookup T12 = some ⟨oc2_12, od2_12, .seq ([Value.none] : List Value).toArray n2_12, sl2_12⟩) (c12 : PySem.W.codeIn K cd12 "first_end" = true) (k12 : PySem.W.keepIn K (.ref f12) = true)
    (a13 : PySem.W.nsIn K mainGlobals "next_end" = some (some (.ref f13))) (l13 : K.lookup f13 = some ⟨oc13, od13, .func (PySem.W.fnOf "next_end" "next_end" (defArgs s_next_end) (defBody s_next_end) (defScope s_next_end) .none kV13 dc13 pm13 an13 cd13 ct13), sl13⟩) (c13 : PySem.W.codeIn K cd13 "next_end" = true) (k13 : PySem.W.keepIn K (.ref f13) = true)
    (a14 : PySem.W.nsIn K mainGlobals "turn" = some (some (.ref f14))) (l14 : K.lookup f14 = some ⟨oc14, od14, .func (PySem.W.fnOf "turn" "turn" (defArgs s_turn) (defBody s_turn) (defScope s_turn) .none kV14 dc14 pm14 an14 cd14 ct14), sl14⟩) (c14 : PySem.W.codeIn K cd14 "turn" = true) (k14 : PySem.W.keepIn K (.ref f14) = true)
    (a15 : PySem.W.nsIn K mainGlobals "lags_behind" = some (some (.ref f15))) (l15 : K.lookup f15 = some ⟨oc15, od15, .func (PySem.W.fnOf "lags_behind" "lags_behind" (defArgs s_lags_behind) (defBody s_lags_behind) (defScope s_lags_behind) .none kV15 dc15 pm15 an15 cd15 ct15), sl15⟩) (c15 : PySem.W.codeIn K cd15 "lags_behind" = true) (k15 : PySem.W.keepIn K (.ref f15) = true)
    (a16 : PySem.W.nsIn K mainGlobals "steps" = some (some (.ref f16))) (l16 : K.lookup f16 = some ⟨oc16, od16, .func (PySem.W.fnOf "steps" "steps" (defArgs s_steps) (defBody s_steps) (defScope s_steps) .none kV16 dc16 pm16 an16 cd16 ct16), sl16⟩) (c16 : PySem.W.codeIn K cd16 "steps" = true) (k16 : PySem.W.keepIn K (.ref f16) = true)
    (a17 : PySem.W.nsIn K mainGlobals "rule_plan" = some (some (.ref f17))) (l17 : K.lookup f17 = some ⟨oc17, od17, .func (PySem.W.fnOf "rule_plan" "rule_plan" (defArgs s_rule_plan) (defBody s_rule_plan) (defScope s_rule_plan) .none kV17 dc17 pm17 an17 cd17 ct17), sl17⟩) (c17 : PySem.W.codeIn K cd17 "rule_plan" = true) (k17 : PySem.W.keepIn K (.ref f17) = true)
    (a18 : PySem.W.nsIn K mainGlobals "_law_draw" = some (some (.ref f18))) (l18 : K.lookup f18 = some ⟨oc18, od18, .func (PySem.W.fnOf "_law_draw" "_law_draw" (defArgs s_law_draw) (defBody s_law_draw) (defScope s_law_draw) .none kV18 dc18 pm18 an18 cd18 ct18), sl18⟩) (c18 : PySem.W.codeIn K cd18 "_law_draw" = true) (k18 : PySem.W.keepIn K (.ref f18) = true)
    (a19 : PySem.W.nsIn K mainGlobals "_law_parts" = some (some (.ref f19))) (l19 : K.lookup f19 = some ⟨oc19, od19, .func (PySem.W.fnOf "_law_parts" "_law_parts" (defArgs s_law_parts) (defBody s_law_parts) (defScope s_law_parts) .none kV19 dc19 pm19 an19 cd19 ct19), sl19⟩) (c19 : PySem.W.codeIn K cd19 "_law_parts" = true) (k19 : PySem.W.keepIn K (.ref f19) = true)
    (a20 : PySem.W.nsIn K mainGlobals "_law_due" = some (some (.ref f20))) (l20 : K.lookup f20 = some ⟨oc20, od20, .func (PySem.W.fnOf "_law_due" "_law_due" (defArgs s_law_due) (defBody s_law_due) (defScope s_law_due) .none kV20 dc20 pm20 an20 cd20 ct20), sl20⟩) (c20 : PySem.W.codeIn K cd20 "_law_due" = true) (k20 : PySem.W.keepIn K (.ref f20) = true)
    (a21 : PySem.W.nsIn K mainGlobals "_law_right" = some (some (.ref f21))) (l21 : K.lookup f21 = some ⟨oc21, od21, .func (PySem.W.fnOf "_law_right" "_law_right" (defArgs s_law_right) (defBody s_law_right) (defScope s_law_right) .none kV21 dc21 pm21 an21 cd21 ct21), sl21⟩) (c21 : PySem.W.codeIn K cd21 "_law_right" = true) (k21 : PySem.W.keepIn K (.ref f21) = true)
    (a22 : PySem.W.nsIn K mainGlobals "law" = some (some (.ref f22))) (l22 : K.lookup f22 = some ⟨oc22, od22, .func (PySem.W.fnOf "law" "law" (defArgs s_law) (defBody s_law) (defScope s_law) .none kV22 dc22 pm22 an22 cd22 ct22), sl22⟩) (c22 : PySem.W.codeIn K cd22 "law" = true) (k22 : PySem.W.keepIn K (.ref f22) = true)
    (z_abs : PySem.W.nsIn K mainGlobals "abs" = some none)
    (z_bool : PySem.W.nsIn K mainGlobals "bool" = some none)
    (z_enumerate : PySem.W.nsIn K mainGlobals "enumerate" = some none)
    (z_int : PySem.W.nsIn K mainGlobals "int" = some none)
    (z_isinstance : PySem.W.nsIn K mainGlobals "isinstance" = some none)
    (z_len : PySem.W.nsIn K mainGlobals "len" = some none)
    (z_list : PySem.W.nsIn K mainGlobals "list" = some none)
    (z_max : PySem.W.nsIn K mainGlobals "max" = some none)
    (z_min : PySem.W.nsIn K mainGlobals "min" = some none)
    (z_range : PySem.W.nsIn K mainGlobals "range" = some none)
    (z_repr : PySem.W.nsIn K mainGlobals "repr" = some none)
    (z_str : PySem.W.nsIn K mainGlobals "str" = some none)
    (z_sum : PySem.W.nsIn K mainGlobals "sum" = some none)
    (z_tuple : PySem.W.nsIn K mainGlobals "tuple" = some none)
    (z_type : PySem.W.nsIn K mainGlobals "type" = some none)
    (z_zip : PySem.W.nsIn K mainGlobals "zip" = some none)
    (g_MOST_PROCESSES : PySem.W.nsIn K mainGlobals "MOST_PROCESSES" = some (some (.int 12 t_MOST_PROCESSES)))
    (g_MOST_PROCESSORS : PySem.W.nsIn K mainGlobals "MOST_PROCESSORS" = some (some (.int 12 t_MOST_PROCESSORS)))
    (g_MOST_TICKS : PySem.W.nsIn K mainGlobals "MOST_TICKS" = some (some (.int 1000 t_MOST_TICKS)))
    {U_RULES : Addr} {uc_RULES : Option Addr} {un_RULES : Nat} {us_RULES : Array (Option Value)} {u0_RULES u1_RULES u2_RULES : Tok}
    (ua_RULES : PySem.W.nsIn K mainGlobals "RULES" = some (some (.ref U_RULES))) (ul_RULES : K.lookup U_RULES = some ⟨.type "tuple", uc_RULES, .seq ([.str "first end" u0_RULES, .str "without waiting" u1_RULES, .str "most behind" u2_RULES] : List Value).toArray un_RULES, us_RULES⟩)
    : ∃ fd : FuncData, (∀ (s : Shared) (u : Value), BindsTo s fd ⟨[u], []⟩ [("script", u)]) ∧ ∀ base : Heap, K.In base → base.Ns mainGlobals mg → FnG P w K mg base 7 fa fd ["script"] (spF ⟨K, ct0⟩ 1 fx_law) := by
  have e := hfa.symm.trans (PySem.W.mg_of X G a22)
  cases e
  have T : Facts mg := { z_abs := PySem.W.mg_none_of X G z_abs, z_bool := PySem.W.mg_none_of X G z_bool, z_enumerate := PySem.W.mg_none_of X G z_enumerate, z_int := PySem.W.mg_none_of X G z_int, z_isinstance := PySem.W.mg_none_of X G z_isinstance, z_len := PySem.W.mg_none_of X G z_len, z_list := PySem.W.mg_none_of X G z_list, z_max := PySem.W.mg_none_of X G z_max, z_min := PySem.W.mg_none_of X G z_min, z_range := PySem.W.mg_none_of X G z_range, z_repr := PySem.W.mg_none_of X G z_repr, z_str := PySem.W.mg_none_of X G z_str, z_sum := PySem.W.mg_none_of X G z_sum, z_tuple := PySem.W.mg_none_of X G z_tuple, z_type := PySem.W.mg_none_of X G z_type, z_zip := PySem.W.mg_none_of X G z_zip, c_MOST_PROCESSES := ⟨_, PySem.W.mg_of X G g_MOST_PROCESSES⟩, c_MOST_PROCESSORS := ⟨_, PySem.W.mg_of X G g_MOST_PROCESSORS⟩, c_MOST_TICKS := ⟨_, PySem.W.mg_of X G g_MOST_TICKS⟩ }
  have U_RULES : TupG K mg "RULES" ["first end", "without waiting", "most behind"] := tupG_mk X G ua_RULES ul_RULES (by show 3 ≤ sizeLine; decide) (Paired.cons ⟨_, rfl⟩ (Paired.cons ⟨_, rfl⟩ (Paired.cons ⟨_, rfl⟩ Paired.nil)))
  have F1 := fun_mk (st := s_law_source) l1 c1 k1
  have F2 := fun_mk (st := s_is_integer) l2 c2 k2
  have F3 := fun_mk (st := s_is_integer_from) l3 c3 k3
  have F4 := fun_mk (st := s_are_shares) l4 c4 k4
  have F5 := fun_mk (st := s_check_load) l5 c5 k5
  have F6 := fun_mk (st := s_check_rule) l6 c6 k6
  have F7 := fund_mk (st := s_check_number) (dvs := [V.non, V.int 0]) l7 d7 (List.cons_ne_nil _ _) (Paired.cons (show RelV (V.non) Value.none from rfl) (Paired.cons (show RelV (V.int 0) _ from ⟨_, rfl⟩) Paired.nil)) c7 k7
  have F8 := fun_mk (st := s_check_single) l8 c8 k8
  have F9 := fun_mk (st := s_check_match) l9 c9 k9
  have F10 := fun_mk (st := s_most_behind) l10 c10 k10
  have F11 := fun_mk (st := s_rounded_up) l11 c11 k11
  have F12 := fund_mk (st := s_first_end) (dvs := [V.non]) l12 d12 (List.cons_ne_nil _ _) (Paired.cons (show RelV (V.non) Value.none from rfl) Paired.nil) c12 k12
  have F13 := fun_mk (st := s_next_end) l13 c13 k13
  have F14 := fun_mk (st := s_turn) l14 c14 k14
  have F15 := fun_mk (st := s_lags_behind) l15 c15 k15
  have F16 := fun_mk (st := s_steps) l16 c16 k16
  have F17 := fun_mk (st := s_rule_plan) l17 c17 k17
  have F18 := fun_mk (st := s_law_draw) l18 c18 k18
  have F19 := fun_mk (st := s_law_parts) l19 c19 k19
  have F20 := fun_mk (st := s_law_due) l20 c20 k20
  have F21 := fun_mk (st := s_law_right) l21 c21 k21
  have F22 := fun_mk (st := s_law) l22 c22 k22
  refine ⟨PySem.W.fnOf "law" "law" (defArgs s_law) (defBody s_law) (defScope s_law) .none kV22 dc22 pm22 an22 cd22 ct22, fun s u => .of_eq (by exact rfl), fun base _ _ => ?_⟩
  have G_law_source : Def P w K mg base ⟨K, ct0⟩ "_law_source" s_law_source ["cell", "k"] 1 fx_law_source := ⟨⟨_, _, PySem.W.mg_of X G a1, F1, ok_law_source (k := ⟨K, ct0⟩) T F1 ⟩, fun _ _ _ _ _ _ us hl => match us, hl with | [_, _], _ => rfl⟩
  have G_is_integer : Def P w K mg base ⟨K, ct0⟩ "is_integer" s_is_integer ["value"] 1 fx_is_integer := ⟨⟨_, _, PySem.W.mg_of X G a2, F2, ok_is_integer (k := ⟨K, ct0⟩) T F2 ⟩, fun _ _ _ _ _ _ us hl => match us, hl with | [_], _ => rfl⟩
  have G_is_integer_from : Def P w K mg base ⟨K, ct0⟩ "is_integer_from" s_is_integer_from ["value", "least", "most"] 2 fx_is_integer_from := ⟨⟨_, _, PySem.W.mg_of X G a3, F3, ok_is_integer_from (k := ⟨K, ct0⟩) T F3 G_is_integer⟩, fun _ _ _ _ _ _ us hl => match us, hl with | [_, _, _], _ => rfl⟩
  have G_are_shares : Def P w K mg base ⟨K, ct0⟩ "are_shares" s_are_shares ["value", "processors", "period"] 1 fx_are_shares := ⟨⟨_, _, PySem.W.mg_of X G a4, F4, ok_are_shares (k := ⟨K, ct0⟩) T F4 ⟩, fun _ _ _ _ _ _ us hl => match us, hl with | [_, _, _], _ => rfl⟩
  have G_check_load : Def P w K mg base ⟨K, ct0⟩ "check_load" s_check_load ["load"] 3 fx_check_load := ⟨⟨_, _, PySem.W.mg_of X G a5, F5, ok_check_load (k := ⟨K, ct0⟩) T F5 G_is_integer_from G_are_shares⟩, fun _ _ _ _ _ _ us hl => match us, hl with | [_], _ => rfl⟩
  have G_check_rule : Def P w K mg base ⟨K, ct0⟩ "check_rule" s_check_rule ["rule"] 1 fx_check_rule := ⟨⟨_, _, PySem.W.mg_of X G a6, F6, ok_check_rule (k := ⟨K, ct0⟩) T F6 U_RULES⟩, fun _ _ _ _ _ _ us hl => match us, hl with | [_], _ => rfl⟩
  have G_check_number : DefD P w K mg base ⟨K, ct0⟩ "check_number" s_check_number ["value", "name", "most", "least"] [V.non, V.int 0] 2 fx_check_number := ⟨⟨_, _, PySem.W.mg_of X G a7, F7, ok_check_number (k := ⟨K, ct0⟩) T F7 G_is_integer⟩⟩
  have G_check_single : Def P w K mg base ⟨K, ct0⟩ "check_single" s_check_single ["load"] 1 fx_check_single := ⟨⟨_, _, PySem.W.mg_of X G a8, F8, ok_check_single (k := ⟨K, ct0⟩) T F8 ⟩, fun _ _ _ _ _ _ us hl => match us, hl with | [_], _ => rfl⟩
  have G_check_match : Def P w K mg base ⟨K, ct0⟩ "check_match" s_check_match ["load", "rule"] 2 fx_check_match := ⟨⟨_, _, PySem.W.mg_of X G a9, F9, ok_check_match (k := ⟨K, ct0⟩) T F9 G_check_single⟩, fun _ _ _ _ _ _ us hl => match us, hl with | [_, _], _ => rfl⟩
  have G_most_behind : Def P w K mg base ⟨K, ct0⟩ "most_behind" s_most_behind ["lags", "shares"] 1 fx_most_behind := ⟨⟨_, _, PySem.W.mg_of X G a10, F10, ok_most_behind (k := ⟨K, ct0⟩) T F10 ⟩, fun _ _ _ _ _ _ us hl => match us, hl with | [_, _], _ => rfl⟩
  have G_rounded_up : Def P w K mg base ⟨K, ct0⟩ "rounded_up" s_rounded_up ["number", "divisor"] 1 fx_rounded_up := ⟨⟨_, _, PySem.W.mg_of X G a11, F11, ok_rounded_up (k := ⟨K, ct0⟩) T F11 ⟩, fun _ _ _ _ _ _ us hl => match us, hl with | [_, _], _ => rfl⟩
  have G_first_end : DefD P w K mg base ⟨K, ct0⟩ "first_end" s_first_end ["lags", "shares", "whole", "left_out"] [V.non] 2 fx_first_end := ⟨⟨_, _, PySem.W.mg_of X G a12, F12, ok_first_end (k := ⟨K, ct0⟩) T F12 G_rounded_up⟩⟩
  have G_next_end : Def P w K mg base ⟨K, ct0⟩ "next_end" s_next_end ["lags", "shares", "whole"] 2 fx_next_end := ⟨⟨_, _, PySem.W.mg_of X G a13, F13, ok_next_end (k := ⟨K, ct0⟩) T F13 G_rounded_up⟩, fun _ _ _ _ _ _ us hl => match us, hl with | [_, _, _], _ => rfl⟩
  have G_turn : Def P w K mg base ⟨K, ct0⟩ "turn" s_turn ["rule", "lags", "shares", "period"] 3 fx_turn := ⟨⟨_, _, PySem.W.mg_of X G a14, F14, ok_turn (k := ⟨K, ct0⟩) T F14 G_most_behind G_first_end G_next_end⟩, fun _ _ _ _ _ _ us hl => match us, hl with | [_, _, _, _], _ => rfl⟩
  have G_lags_behind : Def P w K mg base ⟨K, ct0⟩ "lags_behind" s_lags_behind ["lags", "shares", "whole", "process"] 1 fx_lags_behind := ⟨⟨_, _, PySem.W.mg_of X G a15, F15, ok_lags_behind (k := ⟨K, ct0⟩) T F15 ⟩, fun _ _ _ _ _ _ us hl => match us, hl with | [_, _, _, _], _ => rfl⟩
  have G_steps : Def P w K mg base ⟨K, ct0⟩ "steps" s_steps ["load", "rule", "many"] 4 fx_steps := ⟨⟨_, _, PySem.W.mg_of X G a16, F16, ok_steps (k := ⟨K, ct0⟩) T F16 G_turn G_lags_behind⟩, fun _ _ _ _ _ _ us hl => match us, hl with | [_, _, _], _ => rfl⟩
  have G_rule_plan : Def P w K mg base ⟨K, ct0⟩ "rule_plan" s_rule_plan ["load", "rule", "many"] 5 fx_rule_plan := ⟨⟨_, _, PySem.W.mg_of X G a17, F17, ok_rule_plan (k := ⟨K, ct0⟩) T F17 G_check_load G_check_rule G_check_number G_check_match G_steps⟩, fun _ _ _ _ _ _ us hl => match us, hl with | [_, _, _], _ => rfl⟩
  have G_rule_plan_N : DefN P w K mg base ⟨K, ct0⟩ "rule_plan" s_rule_plan ["load", "rule", "many"] 5 fN_rule_plan := ⟨⟨_, _, PySem.W.mg_of X G a17, F17, okN_rule_plan (k := ⟨K, ct0⟩) T F17 G_check_load G_check_rule G_check_number G_check_match G_steps⟩, fun _ _ _ _ _ _ us hl => match us, hl with | [_, _, _], _ => rfl⟩
  have G_law_draw : Def P w K mg base ⟨K, ct0⟩ "_law_draw" s_law_draw ["source", "count"] 1 fx_law_draw := ⟨⟨_, _, PySem.W.mg_of X G a18, F18, ok_law_draw (k := ⟨K, ct0⟩) T F18 ⟩, fun _ _ _ _ _ _ us hl => match us, hl with | [_, _], _ => rfl⟩
  have G_law_parts : Def P w K mg base ⟨K, ct0⟩ "_law_parts" s_law_parts ["source", "whole", "often", "far"] 2 fx_law_parts := ⟨⟨_, _, PySem.W.mg_of X G a19, F19, ok_law_parts (k := ⟨K, ct0⟩) T F19 G_law_draw⟩, fun _ _ _ _ _ _ us hl => match us, hl with | [_, _, _, _], _ => rfl⟩
  have G_law_due : Def P w K mg base ⟨K, ct0⟩ "_law_due" s_law_due ["task", "often"] 1 fx_law_due := ⟨⟨_, _, PySem.W.mg_of X G a20, F20, ok_law_due (k := ⟨K, ct0⟩) T F20 ⟩, fun _ _ _ _ _ _ us hl => match us, hl with | [_, _], _ => rfl⟩
  have G_law_right : Def P w K mg base ⟨K, ct0⟩ "_law_right" s_law_right ["source", "span", "most_often", "often"] 6 fx_law_right := ⟨⟨_, _, PySem.W.mg_of X G a21, F21, ok_law_right (k := ⟨K, ct0⟩) T F21 G_rule_plan G_law_draw G_law_parts G_law_due G_rule_plan_N⟩, fun _ _ _ _ _ _ us hl => match us, hl with | [_, _, _, _], _ => rfl⟩
  exact ok_law (k := ⟨K, ct0⟩) T F22 G_law_source G_rule_plan G_law_draw G_law_right
end k53
open PySem PySem.W PyProof.Rows
set_option maxHeartbeats 0 in
theorem PySem.Challenge.cw_evenslices_k53_most_behind_holds : PySem.Challenge.rw_evenslices_k53_most_behind.Holds := by
  w_on; o_law; k_head; (case hw => w_witness2)
  k_fill
  refine Dx.walk_g (l := PySem.Challenge.rw_evenslices_k53_most_behind) (n := 63) (lv := 7) (x := "script") (ct := fun _ _ => none) (f := k53.fx_law) rfl (by decide) rfl ⟨rfl, by decide, by decide⟩ (fun w h Y => PySem.W.kIn_of Y) ?F k53.law_ok
  case F =>
    intro w mg fa h KX G hmg
    refine' k53.all_mk KX G hmg ?a1 ?l1 ?c1 ?k1 ?a2 ?l2 ?c2 ?k2 ?a3 ?l3 ?c3 ?k3 ?a4 ?l4 ?c4 ?k4 ?a5 ?l5 ?c5 ?k5 ?a6 ?l6 ?c6 ?k6 ?a7 ?l7 ?d7 ?c7 ?k7 ?a8 ?l8 ?c8 ?k8 ?a9 ?l9 ?c9 ?k9 ?a10 ?l10 ?c10 ?k10 ?a11 ?l11 ?c11 ?k11 ?a12 ?l12 ?d12 ?c12 ?k12 ?a13 ?l13 ?c13 ?k13 ?a14 ?l14 ?c14 ?k14 ?a15 ?l15 ?c15 ?k15 ?a16 ?l16 ?c16 ?k16 ?a17 ?l17 ?c17 ?k17 ?a18 ?l18 ?c18 ?k18 ?a19 ?l19 ?c19 ?k19 ?a20 ?l20 ?c20 ?k20 ?a21 ?l21 ?c21 ?k21 ?a22 ?l22 ?c22 ?k22 ?z_abs ?z_bool ?z_enumerate ?z_int ?z_isinstance ?z_len ?z_list ?z_max ?z_min ?z_range ?z_repr ?z_str ?z_sum ?z_tuple ?z_type ?z_zip ?g_MOST_PROCESSES ?g_MOST_PROCESSORS ?g_MOST_TICKS ?ua_RULES ?ul_RULES
    (case a1 => k_is)
    (case l1 => k_is)
    (case c1 => k_is)
    (case k1 => k_is)
    (case a2 => k_is)
    (case l2 => k_is)
    (case c2 => k_is)
    (case k2 => k_is)
    (case a3 => k_is)
    (case l3 => k_is)
    (case c3 => k_is)
    (case k3 => k_is)
    (case a4 => k_is)
    (case l4 => k_is)
    (case c4 => k_is)
    (case k4 => k_is)
    (case a5 => k_is)
    (case l5 => k_is)
    (case c5 => k_is)
    (case k5 => k_is)
    (case a6 => k_is)
    (case l6 => k_is)
    (case c6 => k_is)
    (case k6 => k_is)
    (case a7 => k_is)
    (case l7 => k_is)
    (case d7 => k_is)
    (case c7 => k_is)
    (case k7 => k_is)
    (case a8 => k_is)
    (case l8 => k_is)
    (case c8 => k_is)
    (case k8 => k_is)
    (case a9 => k_is)
    (case l9 => k_is)
    (case c9 => k_is)
    (case k9 => k_is)
    (case a10 => k_is)
    (case l10 => k_is)
    (case c10 => k_is)
    (case k10 => k_is)
    (case a11 => k_is)
    (case l11 => k_is)
    (case c11 => k_is)
    (case k11 => k_is)
    (case a12 => k_is)
    (case l12 => k_is)
    (case d12 => k_is)
    (case c12 => k_is)
    (case k12 => k_is)
    (case a13 => k_is)
    (case l13 => k_is)
    (case c13 => k_is)
    (case k13 => k_is)
    (case a14 => k_is)
    (case l14 => k_is)
    (case c14 => k_is)
    (case k14 => k_is)
    (case a15 => k_is)
    (case l15 => k_is)
    (case c15 => k_is)
    (case k15 => k_is)
    (case a16 => k_is)
    (case l16 => k_is)
    (case c16 => k_is)
    (case k16 => k_is)
    (case a17 => k_is)
    (case l17 => k_is)
    (case c17 => k_is)
    (case k17 => k_is)
    (case a18 => k_is)
    (case l18 => k_is)
    (case c18 => k_is)
    (case k18 => k_is)
    (case a19 => k_is)
    (case l19 => k_is)
    (case c19 => k_is)
    (case k19 => k_is)
    (case a20 => k_is)
    (case l20 => k_is)
    (case c20 => k_is)
    (case k20 => k_is)
    (case a21 => k_is)
    (case l21 => k_is)
    (case c21 => k_is)
    (case k21 => k_is)
    (case a22 => k_is)
    (case l22 => k_is)
    (case c22 => k_is)
    (case k22 => k_is)
    (case z_abs => k_is)
    (case z_bool => k_is)
    (case z_enumerate => k_is)
    (case z_int => k_is)
    (case z_isinstance => k_is)
    (case z_len => k_is)
    (case z_list => k_is)
    (case z_max => k_is)
    (case z_min => k_is)
    (case z_range => k_is)
    (case z_repr => k_is)
    (case z_str => k_is)
    (case z_sum => k_is)
    (case z_tuple => k_is)
    (case z_type => k_is)
    (case z_zip => k_is)
    (case g_MOST_PROCESSES => k_is)
    (case g_MOST_PROCESSORS => k_is)
    (case g_MOST_TICKS => k_is)
    (case ua_RULES => k_is)
    (case ul_RULES => k_is)
