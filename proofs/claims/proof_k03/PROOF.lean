import PyProof.Rows.All
import Wide.All
import OpenK.AllK
import Wide.FinOn
import HandS.ForMost
import HandS.ForExc
import HandS.Evl
import HandS.CallSlots
import HandS.Deep
import HandS.TupAny
import HandS.TupMul
import HandS.Style
import HandS.TupLe
import HandS.IsInst
import HandS.FStr
import HandS.Property
import PyProof.ReprRoads
import PyProof.CallFns
import KE.GoesMore
import KE.GoesEnum
import HandS.Star
import HandS.Records
import HandS.Conv
import PyProof.ListStr
import HandS.Ends
import HandS.DictComp
import HandS.ExcInit
import HandS.ExcField
import PyProof.ReprReads
import PyProof.StrLawsRepr
import PyProof.Fits
import PySem.Challenge.RW_hueturns_k03_whole_texts_of_nets
import HandS.Codes
import HandS.ExcIs
set_option Elab.async false
set_option linter.all false
set_option maxRecDepth 100000
namespace Mp
open PySem L2 Evl
/-! ### data -/
inductive D where
  | non | bl (b : Bool) | int (i : Int) | str (x : Str)
  | tup (l : List D) | lst (l : List D) | scr (l : List Int)
  | dT (l : List (List Key × D)) | dK (l : List (Key × D))
  | ins (C : Addr) (l : List (Str × D))
mutual
inductive Rp (K : PySem.W.Frag) (H : Hp) : V → D → Prop
  | non : Rp K H .non .non
  | bl (b : Bool) : Rp K H (.bl b) (.bl b)
  | int (i : Int) : Rp K H (.int i) (.int i)
  | str (x : Str) : Rp K H (.str x) (.str x)
  | lst {a : Addr} {xs : List V} {ds : List D} : H a = some (.lst xs) → RpAll K H xs ds → Rp K H (.ref a) (.lst ds)
  | tup {a : Addr} {xs : List V} {ds : List D} : H a = some (.tup xs) → RpAll K H xs ds → Rp K H (.ref a) (.tup ds)
  | scr {a : Addr} {ns : List Int} : SqL K H a (ns.map V.int) → Rp K H (.ref a) (.scr ns)
  | dT {a : Addr} {kvs : List (List Key × V)} {l : List (List Key × D)} : H a = some (.dT kvs) → kvs.map (·.1) = l.map (·.1) → RpAll K H (kvs.map (·.2)) (l.map (·.2)) → Rp K H (.ref a) (.dT l)
  | dK {a : Addr} {kvs : List (Key × V)} {l : List (Key × D)} : H a = some (.dK kvs) → kvs.map (·.1) = l.map (·.1) → RpAll K H (kvs.map (·.2)) (l.map (·.2)) → Rp K H (.ref a) (.dK l)
  | ins {a C dx : Addr} {fs : List (Str × V)} {l : List (Str × D)} : H a = some (.ins C dx fs) → fs.map (·.1) = l.map (·.1) → RpAll K H (fs.map (·.2)) (l.map (·.2)) → Rp K H (.ref a) (.ins C l)
inductive RpAll (K : PySem.W.Frag) (H : Hp) : List V → List D → Prop
  | nil : RpAll K H [] []
  | cons {v : V} {vs : List V} {d : D} {ds : List D} : Rp K H v d → RpAll K H vs ds → RpAll K H (v :: vs) (d :: ds)
end
theorem ex_l' {K : PySem.W.Frag} {H H' : Hp} {a : Addr} {xs : List V} (e : Ex H H') (h : SqL K H a xs) : SqL K H' a xs := ex_l e h
mutual
theorem Rp.mono {K : PySem.W.Frag} {H H' : Hp} (e : Ex H H') : ∀ {v : V} {d : D}, Rp K H v d → Rp K H' v d
  | _, _, .non => .non
  | _, _, .bl b => .bl b
  | _, _, .int i => .int i
  | _, _, .str x => .str x
  | _, _, .lst h r => .lst (e _ _ h) (RpAll.mono e r)
  | _, _, .tup h r => .tup (e _ _ h) (RpAll.mono e r)
  | _, _, .scr h => .scr (ex_l e h)
  | _, _, .dT h k r => .dT (e _ _ h) k (RpAll.mono e r)
  | _, _, .dK h k r => .dK (e _ _ h) k (RpAll.mono e r)
  | _, _, .ins h k r => .ins (e _ _ h) k (RpAll.mono e r)
theorem RpAll.mono {K : PySem.W.Frag} {H H' : Hp} (e : Ex H H') : ∀ {vs : List V} {ds : List D}, RpAll K H vs ds → RpAll K H' vs ds
  | _, _, .nil => .nil
  | _, _, .cons a b => .cons (Rp.mono e a) (RpAll.mono e b)
end
theorem RpAll.length {K : PySem.W.Frag} {H : Hp} : ∀ {vs : List V} {ds : List D}, RpAll K H vs ds → vs.length = ds.length
  | _, _, .nil => rfl
  | _, _, .cons _ b => congrArg (· + 1) b.length
theorem RpAll.get {K : PySem.W.Frag} {H : Hp} : ∀ {vs : List V} {ds : List D} {i : Nat} {d : D}, RpAll K H vs ds → ds[i]? = some d → ∃ v, vs[i]? = some v ∧ Rp K H v d
  | _, _, _, _, .nil, e => by simp at e
  | _, _, 0, _, .cons a _, e => by simp at e; subst e; exact ⟨_, rfl, a⟩
  | _, _, i + 1, _, .cons _ b, e => by
    obtain ⟨v, h1, h2⟩ := RpAll.get (i := i) b (by simpa using e)
    exact ⟨v, by simpa using h1, h2⟩
theorem RpAll.getV {K : PySem.W.Frag} {H : Hp} : ∀ {vs : List V} {ds : List D} {i : Nat} {v : V}, RpAll K H vs ds → vs[i]? = some v → ∃ d, ds[i]? = some d ∧ Rp K H v d
  | _, _, _, _, .nil, e => by simp at e
  | _, _, 0, _, .cons a _, e => by simp at e; subst e; exact ⟨_, rfl, a⟩
  | _, _, i + 1, _, .cons _ b, e => by
    obtain ⟨v, h1, h2⟩ := RpAll.getV (i := i) b (by simpa using e)
    exact ⟨v, by simpa using h1, h2⟩
theorem RpAll.append {K : PySem.W.Frag} {H : Hp} : ∀ {vs : List V} {ds : List D} {us : List V} {es : List D}, RpAll K H vs ds → RpAll K H us es → RpAll K H (vs ++ us) (ds ++ es)
  | _, _, _, _, .nil, r => r
  | _, _, _, _, .cons a b, r => .cons a (b.append r)
theorem RpAll.set {K : PySem.W.Frag} {H : Hp} {v : V} {d : D} (r : Rp K H v d) : ∀ {vs : List V} {ds : List D} (i : Nat), RpAll K H vs ds → RpAll K H (vs.set i v) (ds.set i d)
  | _, _, _, .nil => .nil
  | _, _, 0, .cons _ b => .cons r b
  | _, _, i + 1, .cons a b => .cons a (RpAll.set r i b)
theorem RpAll.take {K : PySem.W.Frag} {H : Hp} : ∀ {vs : List V} {ds : List D} (n : Nat), RpAll K H vs ds → RpAll K H (vs.take n) (ds.take n)
  | _, _, 0, _ => .nil
  | _, _, n + 1, .nil => .nil
  | _, _, n + 1, .cons a b => .cons a (b.take n)
theorem RpAll.drop {K : PySem.W.Frag} {H : Hp} : ∀ {vs : List V} {ds : List D} (n : Nat), RpAll K H vs ds → RpAll K H (vs.drop n) (ds.drop n)
  | _, _, 0, r => r
  | _, _, n + 1, .nil => .nil
  | _, _, n + 1, .cons a b => b.drop n
/-! ### what a def's frame holds -/
inductive Own where
  | lst (l : List D) | dT (l : List (List Key × D)) | dK (l : List (Key × D)) | ins (C : Addr) (l : List (Str × D))
def Own.data : Own → D
  | .lst l => .lst l
  | .dT l => .dT l
  | .dK l => .dK l
  | .ins C l => .ins C l
inductive Cell where
  | un | val (d : D) | own (o : Own)
abbrev Rho := List Cell
def OwnAt (K : PySem.W.Frag) (Hs H : Hp) (a : Addr) : Own → Prop
  | .lst l => ∃ vs, H a = some (.lst vs) ∧ RpAll K Hs vs l
  | .dT l => ∃ kvs : List (List Key × V), H a = some (.dT kvs) ∧ kvs.map (·.1) = l.map (·.1) ∧ RpAll K Hs (kvs.map (·.2)) (l.map (·.2))
  | .dK l => ∃ kvs : List (Key × V), H a = some (.dK kvs) ∧ kvs.map (·.1) = l.map (·.1) ∧ RpAll K Hs (kvs.map (·.2)) (l.map (·.2))
  | .ins C l => ∃ (dx : Addr) (fs : List (Str × V)), H a = some (.ins C dx fs) ∧ fs.map (·.1) = l.map (·.1) ∧ RpAll K Hs (fs.map (·.2)) (l.map (·.2))
theorem OwnAt.here {K : PySem.W.Frag} {Hs H : Hp} {a : Addr} {o : Own} (h : OwnAt K Hs H a o) : ∃ u, H a = some u := by
  cases o <;> simp only [OwnAt] at h
  · obtain ⟨_, h, _⟩ := h; exact ⟨_, h⟩
  · obtain ⟨_, h, _⟩ := h; exact ⟨_, h⟩
  · obtain ⟨_, h, _⟩ := h; exact ⟨_, h⟩
  · obtain ⟨_, _, h, _⟩ := h; exact ⟨_, h⟩
theorem OwnAt.mono {K : PySem.W.Frag} {Hs H Hs' H' : Hp} {a : Addr} {o : Own} (e : Ex Hs Hs') (k : H' a = H a) (h : OwnAt K Hs H a o) : OwnAt K Hs' H' a o := by
  cases o <;> simp only [OwnAt] at h ⊢
  · obtain ⟨_, h, r⟩ := h; exact ⟨_, k ▸ h, r.mono e⟩
  · obtain ⟨_, h, q, r⟩ := h; exact ⟨_, k ▸ h, q, r.mono e⟩
  · obtain ⟨_, h, q, r⟩ := h; exact ⟨_, k ▸ h, q, r.mono e⟩
  · obtain ⟨_, _, h, q, r⟩ := h; exact ⟨_, _, k ▸ h, q, r.mono e⟩
/-- what stands at a in the full heap, read as data there -/
theorem OwnAt.rp {K : PySem.W.Frag} {Hs H : Hp} {a : Addr} {o : Own} (e : Ex Hs H) (h : OwnAt K Hs H a o) : Rp K H (.ref a) o.data := by
  cases o <;> simp only [OwnAt] at h
  · obtain ⟨_, h, r⟩ := h; exact .lst h (r.mono e)
  · obtain ⟨_, h, q, r⟩ := h; exact .dT h q (r.mono e)
  · obtain ⟨_, h, q, r⟩ := h; exact .dK h q (r.mono e)
  · obtain ⟨_, _, h, q, r⟩ := h; exact .ins h q (r.mono e)
/-- no tuple -/
def Nt (o : HO) : Prop := ∀ xs, o ≠ .tup xs
theorem OwnAt.nt {K : PySem.W.Frag} {Hs H : Hp} {a : Addr} {o : Own} {u : HO} (h : OwnAt K Hs H a o) (hu : H a = some u) : Nt u := fun xs e => by
  subst e
  cases o <;> simp only [OwnAt] at h
  · obtain ⟨_, h, _⟩ := h; rw [hu] at h; cases h
  · obtain ⟨_, h, _⟩ := h; rw [hu] at h; cases h
  · obtain ⟨_, h, _⟩ := h; rw [hu] at h; cases h
  · obtain ⟨_, _, h, _⟩ := h; rw [hu] at h; cases h
structure EnvOk (K : PySem.W.Frag) (Bs B Hs H : Hp) (s : St) (r : Rho) : Prop where
  sub : Ex Hs H
  ext1 : Ex Bs Hs
  ext2 : ∀ b o, B b = some o → Bs b = none → (Nt o → Hs b = none) ∧ H b = some o
  ext3 : Ex Bs B
  len : s.length = r.length
  val : ∀ (i : Nat) d, r[i]? = some (.val d) → ∃ v, s[i]? = some (some v) ∧ Rp K Hs v d
  own : ∀ (i : Nat) o, r[i]? = some (.own o) → ∃ a, s[i]? = some (some (.ref a)) ∧ Hs a = none ∧ B a = none ∧ OwnAt K Hs H a o
  dis : ∀ (i j : Nat) a oi oj, i ≠ j → r[i]? = some (.own oi) → r[j]? = some (.own oj) → s[i]? = some (some (.ref a)) → s[j]? ≠ some (some (.ref a))
/-- from one pair of heaps to the next: what is shared stays, what is not shared (and not at x) stays and isn't shared -/
structure Step (Hs H Hs' H' : Hp) : Prop where
  sh : Ex Hs Hs'
  sub : Ex Hs' H'
  fr : ∀ b o, H b = some o → Hs b = none → (Nt o → Hs' b = none) ∧ H' b = some o
theorem Step.refl {Hs H : Hp} (e : Ex Hs H) : Step Hs H Hs H := ⟨Ex.refl _, e, fun _ _ h n => ⟨fun _ => n, h⟩⟩
theorem Step.trans {Hs H Hs1 H1 Hs2 H2 : Hp} (a : Step Hs H Hs1 H1) (b : Step Hs1 H1 Hs2 H2) : Step Hs H Hs2 H2 :=
  ⟨a.sh.trans b.sh, b.sub, fun x o h n => by
    obtain ⟨n1, h1⟩ := a.fr x o h n
    cases q : Hs1 x with
    | none => exact b.fr x o h1 q
    | some u =>
      have := a.sub x u q
      rw [h1] at this; cases this
      exact ⟨fun w => (by have := n1 w; rw [q] at this; cases this), b.sub x o (b.sh x o q)⟩⟩
theorem Step.ex {Hs H Hs' H' : Hp} (e : Ex Hs H) (a : Step Hs H Hs' H') : Ex H H' := fun b o h => by
  cases q : Hs b with
  | none => exact (a.fr b o h q).2
  | some u =>
    have := e b u q
    rw [h] at this; cases this
    exact a.sub b o (a.sh b o q)
/-- a new shared object -/
theorem Step.new {Hs H : Hp} {p : Addr} {o : HO} (e : Ex Hs H) (hp : H p = none) : Step Hs H (upd Hs p o) (upd H p o) := by
  have hs : Hs p = none := fresh_back e hp
  refine ⟨Ex.new hs, fun b u h => ?_, fun b u h n => ?_⟩
  · by_cases hb : b = p
    · subst hb; rw [upd_same] at h ⊢; exact h
    · rw [upd_ne hb] at h ⊢; exact e b u h
  · have hb : b ≠ p := ne_of_none h hp
    rw [upd_ne hb, upd_ne hb]; exact ⟨fun _ => n, h⟩
/-- a new object that is not shared -/
theorem Step.newO {Hs H : Hp} {p : Addr} {o : HO} (e : Ex Hs H) (hp : H p = none) : Step Hs H Hs (upd H p o) := by
  have hs : Hs p = none := fresh_back e hp
  refine ⟨Ex.refl _, Ex.mut e hs, fun b u h n => ?_⟩
  rw [upd_ne (ne_of_none h hp)]; exact ⟨fun _ => n, h⟩
/-- an object that is not shared becomes shared -/
theorem EnvOk.step {K : PySem.W.Frag} {Bs B Hs H Hs' H' : Hp} {s : St} {r : Rho} (E : EnvOk K Bs B Hs H s r) (a : Step Hs H Hs' H') : EnvOk K Bs B Hs' H' s r := by
  refine ⟨a.sub, E.ext1.trans a.sh, fun b o h n => ?_, E.ext3, E.len, fun i d h => ?_, fun i o h => ?_, E.dis⟩
  · obtain ⟨n1, h1⟩ := E.ext2 b o h n
    cases q : Hs b with
    | none => exact a.fr b o h1 q
    | some u =>
      have := E.sub b u q
      rw [h1] at this; cases this
      exact ⟨fun w => (by have := n1 w; rw [q] at this; cases this), a.sub b o (a.sh b o q)⟩
  · obtain ⟨v, h1, h2⟩ := E.val i d h
    exact ⟨v, h1, h2.mono a.sh⟩
  · obtain ⟨x, h1, h2, h3, h4⟩ := E.own i o h
    obtain ⟨u, hu⟩ := h4.here
    obtain ⟨n1, k1⟩ := a.fr x u hu h2
    exact ⟨x, h1, n1 (h4.nt hu), h3, h4.mono a.sh (by rw [k1, hu])⟩
/-! ### what an expression comes to -/
inductive Rv where
  | val (d : D) | new (o : Own)
def Rv.data : Rv → D
  | .val d => d
  | .new o => o.data
/-- an exception: its class, its one attribute -/
structure Exn where
  tag : Nat
  cls : Addr
  fld : Option (Str × D)
inductive EO (A : Type) where
  | stuck | ok (a : A) (r : Rho) | exc (x : Exn) (r : Rho)
abbrev Ev (A : Type) := Rho → EO A
def EO.bind {A B : Type} (m : EO A) (f : A → Rho → EO B) : EO B := match m with
  | .stuck => .stuck
  | .ok a r => f a r
  | .exc x r => .exc x r
def RvAt (K : PySem.W.Frag) (B Hs H : Hp) (s : St) (r : Rho) (v : V) : Rv → Prop
  | .val d => Rp K Hs v d
  | .new o => ∃ a, v = .ref a ∧ Hs a = none ∧ B a = none ∧ OwnAt K Hs H a o ∧ ∀ (i : Nat) oi, r[i]? = some (.own oi) → s[i]? ≠ some (some (.ref a))
def ExAt (K : PySem.W.Frag) (Hs H : Hp) (cls : Value) (d : Option Addr) (x : Exn) : Prop :=
  cls = .ref x.cls ∧ match x.fld with
    | none => True
    | some (f, y) => ∃ a v, d = some a ∧ H a = some (.xd [(f, v)]) ∧ Rp K Hs v y
/-- what is asked of what follows -/
def PostE {A Y : Type} (K : PySem.W.Frag) (W : WX) (Bs B Hs : Hp) (s : St) (Rel : Hp → Hp → Rho → Y → A → Prop) (Q : Y → Hp → Prop) : EO A → Prop
  | .stuck => False
  | .ok a r => ∀ y Hs' H', Ex Hs Hs' → EnvOk K Bs B Hs' H' s r → Rel Hs' H' r y a → Q y H'
  | .exc x r => ∀ cls d Hs' H', Ex Hs Hs' → EnvOk K Bs B Hs' H' s r → ExAt K Hs' H' cls d x → W cls d s H'
def relR (K : PySem.W.Frag) (B : Hp) (s : St) : Hp → Hp → Rho → V → Rv → Prop := fun Hs H r v x => RvAt K B Hs H s r v x
def relB : Hp → Hp → Rho → Bool → Bool → Prop := fun _ _ _ b c => b = c
/-- every reading of e at once -/
def aE (X : Cx) (e : Expr) : TE := fun s H Q => ∃ t, PE X e t ∧ t s H Q
def aT (X : Cx) (e : Expr) : TT := fun s H Q => ∃ t, PT X e t ∧ t s H Q
def aA (X : Cx) (es : List Expr) : TA := fun s H Q => ∃ t, PA X es t ∧ t s H Q
def aS (X : Cx) (st : Stmt) : TS := fun D s H => ∃ t, PS X st t ∧ t D s H
def aSs (X : Cx) (st : List Stmt) : TS := fun D s H => ∃ t, PSs X st t ∧ t D s H
theorem pe_all {X : Cx} {e : Expr} : PE X e (aE X e) := ⟨fun pins s σ H Q I ⟨t, h, q⟩ => h.run pins s σ H Q I q⟩
theorem pt_all {X : Cx} {e : Expr} : PT X e (aT X e) := ⟨fun pins s σ H Q I ⟨t, h, q⟩ => h.run pins s σ H Q I q⟩
theorem pa_all {X : Cx} {e : List Expr} : PA X e (aA X e) := ⟨fun pos pins s σ H Q I ⟨t, h, q⟩ => h.run pos pins s σ H Q I q⟩
theorem ps_all {X : Cx} {e : Stmt} : PS X e (aS X e) := ⟨fun pins s σ H D I ⟨t, h, q⟩ => h.run pins s σ H D I q⟩
theorem pss_all {X : Cx} {e : List Stmt} : PSs X e (aSs X e) := ⟨fun pins s σ H D I ⟨t, h, q⟩ => h.run pins s σ H D I q⟩
/-- ev tells what e comes to -/
def SndE (X : Cx) (W : WX) (e : Expr) (ev : Ev Rv) : Prop := ∀ (Bs B Hs H : Hp) (s : St) (r : Rho) (Q : VK), EnvOk X.K Bs B Hs H s r →
  PostE X.K W Bs B Hs s (relR X.K B s) Q (ev r) → aE X e s H Q
def SndT (X : Cx) (W : WX) (e : Expr) (ev : Ev Bool) : Prop := ∀ (Bs B Hs H : Hp) (s : St) (r : Rho) (Q : Bool → Hp → Prop), EnvOk X.K Bs B Hs H s r →
  PostE X.K W Bs B Hs s relB Q (ev r) → aT X e s H Q
/-! ### operands: a name that is owned is read where it is used -/
inductive Src where
  | dat (d : D) | slot (i : Nat)
def SrcAt (K : PySem.W.Frag) (Hs : Hp) (s : St) (v : V) : Src → Prop
  | .dat d => Rp K Hs v d
  | .slot i => s[i]? = some (some v)
def relS (K : PySem.W.Frag) (s : St) : Hp → Hp → Rho → V → Src → Prop := fun Hs _ _ v x => SrcAt K Hs s v x
def SndO (X : Cx) (W : WX) (e : Expr) (ev : Ev Src) : Prop := ∀ (Bs B Hs H : Hp) (s : St) (r : Rho) (Q : VK), EnvOk X.K Bs B Hs H s r →
  PostE X.K W Bs B Hs s (relS X.K s) Q (ev r) → aE X e s H Q
/-- what an operand is, at the moment of the operation -/
def Src.rd (r : Rho) : Src → Option D
  | .dat d => some d
  | .slot i => match r[i]? with
    | some (.own o) => some o.data
    | some (.val d) => some d
    | _ => none
/-- an operand, seen at the moment of its use -/
inductive Opd (K : PySem.W.Frag) (Hs H : Hp) : V → D → Prop
  | sh {v : V} {d : D} : Rp K Hs v d → Opd K Hs H v d
  | own {a : Addr} {o : Own} : OwnAt K Hs H a o → Opd K Hs H (.ref a) o.data
theorem Src.opd {K : PySem.W.Frag} {Bs B Hs H : Hp} {s : St} {r : Rho} {v : V} {x : Src} {d : D} (E : EnvOk K Bs B Hs H s r) (h : SrcAt K Hs s v x) (e : x.rd r = some d) : Opd K Hs H v d := by
  cases x with
  | dat y =>
    simp only [Src.rd, Option.some.injEq] at e
    subst e
    exact .sh h
  | slot i =>
    simp only [Src.rd] at e
    split at e
    · rename_i o ho
      cases e
      obtain ⟨a, h1, _, _, h4⟩ := E.own i o ho
      have h : s[i]? = some (some v) := h
      rw [h1] at h; cases h
      exact .own h4
    · rename_i y hy
      cases e
      obtain ⟨w, h1, h2⟩ := E.val i _ hy
      have h : s[i]? = some (some v) := h
      rw [h1] at h; cases h
      exact .sh h2
    · cases e
theorem Opd.rp {K : PySem.W.Frag} {Hs H : Hp} {v : V} {d : D} (e : Ex Hs H) (h : Opd K Hs H v d) : Rp K H v d := by
  cases h with
  | sh h => exact h.mono e
  | own h => exact h.rp e
theorem SrcAt.mono {K : PySem.W.Frag} {Hs Hs' : Hp} {s : St} {v : V} {x : Src} (e : Ex Hs Hs') (h : SrcAt K Hs s v x) : SrcAt K Hs' s v x := by
  cases x with
  | dat d => exact Rp.mono e h
  | slot i => exact h
end Mp
set_option Elab.async false
set_option linter.all false
set_option maxRecDepth 100000
namespace Mp
open PySem L2 Evl
section
variable {K : PySem.W.Frag} {Bs B Hs H : Hp} {s : St} {r : Rho}
theorem EnvOk.bnone (E : EnvOk K Bs B Hs H s r) {p : Addr} (hp : H p = none) : B p = none := by
  cases q : B p with
  | none => rfl
  | some u =>
    cases q2 : Bs p with
    | none => have := (E.ext2 p u q q2).2; rw [hp] at this; cases this
    | some w => have := E.sub p w (E.ext1 p w q2); rw [hp] at this; cases this
theorem EnvOk.apart (E : EnvOk K Bs B Hs H s r) {p : Addr} (hp : H p = none) (i : Nat) (oi : Own) (h : r[i]? = some (.own oi)) : s[i]? ≠ some (some (.ref p)) := fun e => by
  obtain ⟨a, h1, _, _, h4⟩ := E.own i oi h
  obtain ⟨u, hu⟩ := h4.here
  rw [h1] at e; cases e
  rw [hp] at hu; cases hu
/-- an own object is shared from now on -/
theorem EnvOk.share (E : EnvOk K Bs B Hs H s r) {a : Addr} {u : HO} (hH : H a = some u) (hs : Hs a = none) (hB : B a = none) (ap : ∀ (i : Nat) oi, r[i]? = some (.own oi) → s[i]? ≠ some (some (.ref a))) : EnvOk K Bs B (upd Hs a u) H s r := by
  have ex : Ex Hs (upd Hs a u) := Ex.new hs
  refine ⟨fun b o h => ?_, E.ext1.trans ex, fun b o h n => ?_, E.ext3, E.len, fun i d h => ?_, fun i o h => ?_, E.dis⟩
  · by_cases hb : b = a
    · subst hb; rw [upd_same] at h; rw [hH]; exact h
    · rw [upd_ne hb] at h; exact E.sub b o h
  · have hb : b ≠ a := by rintro rfl; rw [hB] at h; cases h
    rw [upd_ne hb]; exact E.ext2 b o h n
  · obtain ⟨v, h1, h2⟩ := E.val i d h
    exact ⟨v, h1, h2.mono ex⟩
  · obtain ⟨x, h1, h2, h3, h4⟩ := E.own i o h
    have hx : x ≠ a := by rintro rfl; exact ap i o h h1
    exact ⟨x, h1, by rw [upd_ne hx]; exact h2, h3, h4.mono ex rfl⟩
theorem OwnAt.shared (e : Ex Hs H) {a : Addr} {o : Own} (h : OwnAt K Hs H a o) (hs : Hs a = none) : ∃ u, H a = some u ∧ Rp K (upd Hs a u) (.ref a) o.data := by
  cases o <;> simp only [OwnAt] at h
  · obtain ⟨_, h, r⟩ := h; exact ⟨_, h, .lst upd_same (r.mono (Ex.new hs))⟩
  · obtain ⟨_, h, q, r⟩ := h; exact ⟨_, h, .dT upd_same q (r.mono (Ex.new hs))⟩
  · obtain ⟨_, h, q, r⟩ := h; exact ⟨_, h, .dK upd_same q (r.mono (Ex.new hs))⟩
  · obtain ⟨_, _, h, q, r⟩ := h; exact ⟨_, h, .ins upd_same q (r.mono (Ex.new hs))⟩
/-- what came out is used as data -/
theorem RvAt.use (E : EnvOk K Bs B Hs H s r) {v : V} {x : Rv} (h : RvAt K B Hs H s r v x) : ∃ Hs', Ex Hs Hs' ∧ EnvOk K Bs B Hs' H s r ∧ Rp K Hs' v x.data := by
  cases x with
  | val d => exact ⟨Hs, Ex.refl _, E, h⟩
  | new o =>
    obtain ⟨a, rfl, h1, h2, h3, h4⟩ := h
    obtain ⟨u, hu, hr⟩ := h3.shared E.sub h1
    exact ⟨upd Hs a u, Ex.new h1, E.share hu h1 h2 h4, hr⟩
/-- an own slot is forgotten -/
theorem EnvOk.drop (E : EnvOk K Bs B Hs H s r) (i : Nat) : EnvOk K Bs B Hs H s (r.set i .un) := by
  have keep : ∀ (j : Nat) c, c ≠ Cell.un → (r.set i .un)[j]? = some c → r[j]? = some c ∧ i ≠ j := fun j c hc h => by
    rw [List.getElem?_set] at h
    by_cases e : i = j
    · subst e
      rw [if_pos rfl] at h
      split at h
      · cases h; exact absurd rfl hc
      · cases h
    · rw [if_neg e] at h; exact ⟨h, e⟩
  refine ⟨E.sub, E.ext1, E.ext2, E.ext3, by rw [List.length_set]; exact E.len, fun j d h => E.val j d (keep j _ (by intro z; cases z) h).1, fun j o h => E.own j o (keep j _ (by intro z; cases z) h).1, fun i' j' a oi oj ne h1 h2 => ?_⟩
  exact E.dis i' j' a oi oj ne (keep i' _ (by intro z; cases z) h1).1 (keep j' _ (by intro z; cases z) h2).1
/-- a slot that holds v holds the data d -/
theorem EnvOk.asVal (E : EnvOk K Bs B Hs H s r) {i : Nat} {v : V} {d : D} (hs : s[i]? = some (some v)) (hv : Rp K Hs v d) : EnvOk K Bs B Hs H s (r.set i (.val d)) := by
  have E1 := E.drop i
  have get : ∀ (j : Nat), i ≠ j → (r.set i (.val d))[j]? = (r.set i .un)[j]? := fun j e => by
    rw [List.getElem?_set, List.getElem?_set, if_neg e, if_neg e]
  have at_i : ∀ c, (r.set i (.val d))[i]? = some c → c = .val d := fun c h => by
    rw [List.getElem?_set, if_pos rfl] at h
    split at h
    · cases h; rfl
    · cases h
  have nown : ∀ (j : Nat) o, (r.set i (.val d))[j]? = some (.own o) → (r.set i .un)[j]? = some (.own o) := fun j o h => by
    by_cases e : i = j
    · subst e; cases at_i _ h
    · rw [← get j e]; exact h
  refine ⟨E.sub, E.ext1, E.ext2, E.ext3, by rw [List.length_set]; exact E.len, fun j d' h => ?_, fun j o h => E1.own j o (nown j o h), fun i' j' a oi oj ne h1 h2 => E1.dis i' j' a oi oj ne (nown i' _ h1) (nown j' _ h2)⟩
  by_cases e : i = j
  · subst e; cases at_i _ h; exact ⟨v, hs, hv⟩
  · rw [get j e] at h; exact E1.val j d' h
/-- an own slot becomes data -/
theorem EnvOk.freeze (E : EnvOk K Bs B Hs H s r) {i : Nat} {o : Own} (h : r[i]? = some (.own o)) : ∃ v Hs', s[i]? = some (some v) ∧ Ex Hs Hs' ∧ EnvOk K Bs B Hs' H s (r.set i (.val o.data)) ∧ Rp K Hs' v o.data := by
  obtain ⟨a, h1, h2, h3, h4⟩ := E.own i o h
  obtain ⟨u, hu, hr⟩ := h4.shared E.sub h2
  have E1 : EnvOk K Bs B (upd Hs a u) H s (r.set i .un) := (E.drop i).share hu h2 h3 fun j oj hj => by
    have hj' : r[j]? = some (.own oj) ∧ i ≠ j := by
      rw [List.getElem?_set] at hj
      by_cases e : i = j
      · subst e
        rw [if_pos rfl] at hj
        split at hj <;> cases hj
      · rw [if_neg e] at hj; exact ⟨hj, e⟩
    exact E.dis i j a o oj hj'.2 h hj'.1 h1
  refine ⟨.ref a, upd Hs a u, h1, Ex.new h2, ?_, hr⟩
  have E2 := E1.asVal h1 hr
  rwa [List.set_set] at E2
end
/-! ### operations on values -/
/-- what is asked of what follows an operation -/
def PrimQ (K : PySem.W.Frag) (Bs B Hs H : Hp) (s : St) (r : Rho) (Q : VK) (x : Rv) : Prop := ∀ v Hs' H', Step Hs H Hs' H' → RvAt K B Hs' H' s r v x → Q v H'
section
variable {K : PySem.W.Frag} {Bs B Hs H : Hp} {s : St} {r : Rho} {Q : VK}
theorem PrimQ.val (E : EnvOk K Bs B Hs H s r) {v : V} {d : D} (h : PrimQ K Bs B Hs H s r Q (.val d)) (hv : Rp K Hs v d) : Q v H := h v Hs H (Step.refl E.sub) hv
/-- a new tuple -/
theorem PrimQ.tup (E : EnvOk K Bs B Hs H s r) {vs : List V} {ds : List D} (h : PrimQ K Bs B Hs H s r Q (.val (.tup ds))) (hv : RpAll K Hs vs ds) {p : Addr} (hp : H p = none) : Q (.ref p) (upd H p (.tup vs)) :=
  h _ _ _ (Step.new E.sub hp) (show Rp K _ _ _ from .tup upd_same (hv.mono (Ex.new (fresh_back E.sub hp))))
/-- a new list -/
theorem PrimQ.lst (E : EnvOk K Bs B Hs H s r) {vs : List V} {ds : List D} (h : PrimQ K Bs B Hs H s r Q (.new (.lst ds))) (hv : RpAll K Hs vs ds) {p : Addr} (hp : H p = none) : Q (.ref p) (upd H p (.lst vs)) :=
  h _ _ _ (Step.newO E.sub hp) ⟨p, rfl, fresh_back E.sub hp, E.bnone hp, ⟨vs, upd_same, hv⟩, E.apart hp⟩
theorem PrimQ.newO (E : EnvOk K Bs B Hs H s r) {o : Own} {u : HO} (h : PrimQ K Bs B Hs H s r Q (.new o)) {p : Addr} (hp : H p = none) (hv : OwnAt K Hs (upd H p u) p o) : Q (.ref p) (upd H p u) :=
  h _ _ _ (Step.newO E.sub hp) ⟨p, rfl, fresh_back E.sub hp, E.bnone hp, hv, E.apart hp⟩
/-- a list that is seen -/
theorem Opd.lst (e : Ex Hs H) {v : V} {ds : List D} (h : Opd K Hs H v (.lst ds)) : ∃ a vs, v = .ref a ∧ H a = some (.lst vs) ∧ RpAll K Hs vs ds := by
  generalize hd : D.lst ds = d at h
  cases h with
  | sh h =>
    subst hd
    cases h with
    | lst h r => exact ⟨_, _, rfl, e _ _ h, r⟩
  | own h =>
    rename_i a o
    cases o <;> simp only [Own.data] at hd <;> cases hd
    obtain ⟨vs, h1, h2⟩ := h
    exact ⟨_, vs, rfl, h1, h2⟩
theorem Opd.tup (e : Ex Hs H) {v : V} {ds : List D} (h : Opd K Hs H v (.tup ds)) : ∃ a vs, v = .ref a ∧ H a = some (.tup vs) ∧ RpAll K Hs vs ds ∧ Rp K Hs v (.tup ds) := by
  generalize hd : D.tup ds = d at h
  cases h with
  | sh h =>
    subst hd
    cases h with
    | tup h r => exact ⟨_, _, rfl, e _ _ h, r, .tup h r⟩
  | own h =>
    rename_i a o
    cases o <;> simp only [Own.data] at hd <;> cases hd
theorem Opd.val {v : V} {d : D} (h : Opd K Hs H v d) (n : ∀ o : Own, o.data ≠ d) : Rp K Hs v d := by
  cases h with
  | sh h => exact h
  | own h => exact absurd rfl (n _)
theorem Opd.int {v : V} {i : Int} (h : Opd K Hs H v (.int i)) : v = .int i := by
  have := h.val (fun o => by cases o <;> intro z <;> cases z)
  cases this; rfl
theorem Opd.str {v : V} {i : Str} (h : Opd K Hs H v (.str i)) : v = .str i := by
  have := h.val (fun o => by cases o <;> intro z <;> cases z)
  cases this; rfl
theorem Opd.bl {v : V} {i : Bool} (h : Opd K Hs H v (.bl i)) : v = .bl i := by
  have := h.val (fun o => by cases o <;> intro z <;> cases z)
  cases this; rfl
theorem Opd.non {v : V} (h : Opd K Hs H v .non) : v = .non := by
  have := h.val (fun o => by cases o <;> intro z <;> cases z)
  cases this; rfl
end
/-- g, on values that are d and e, comes to f d e -/
def OpOk (X : Cx) (g : Value → Value → Sem Value) (f : D → D → Option Rv) : Prop := ∀ (Bs B Hs H : Hp) (s : St) (r : Rho) (v u : V) (d e : D) (x : Rv) (Q : VK), EnvOk X.K Bs B Hs H s r → Opd X.K Hs H v d → Opd X.K Hs H u e →
  f d e = some x → PrimQ X.K Bs B Hs H s r Q x → ∃ rr, OpR X g rr ∧ rr v u H Q
/-- room for what the machine calls within -/
structure Rm (X : Cx) : Prop where
  un : X.A.units + 200 < cLine
  calm : X.calm = true
/-- data without instances and dicts -/
def toPy : D → Option PyData
  | .non => some .none
  | .bl b => some (.bool b)
  | .int i => some (.int i)
  | .str x => some (.str x)
  | .tup l => (toPyAll l).map .tuple
  | .lst l => (toPyAll l).map .list
  | _ => none
where toPyAll : List D → Option (List PyData)
  | [] => some []
  | d :: l => match toPy d, toPyAll l with
    | some p, some q => some (p :: q)
    | _, _ => none
mutual
theorem Rp.dp {K : PySem.W.Frag} {H : Hp} : ∀ {v : V} {d : D} {p : PyData}, Rp K H v d → toPy d = some p → Dp K H v p
  | _, _, _, .non, e => by simp only [toPy, Option.some.injEq] at e; subst e; exact .non
  | _, _, _, .bl b, e => by simp only [toPy, Option.some.injEq] at e; subst e; exact .bl b
  | _, _, _, .int i, e => by simp only [toPy, Option.some.injEq] at e; subst e; exact .int i
  | _, _, _, .str x, e => by simp only [toPy, Option.some.injEq] at e; subst e; exact .str x
  | _, _, _, .lst h r, e => by
    simp only [toPy, Option.map_eq_some_iff] at e
    obtain ⟨ps, h1, rfl⟩ := e
    exact .lst (sq_of h) (RpAll.dp r h1)
  | _, _, _, .tup h r, e => by
    simp only [toPy, Option.map_eq_some_iff] at e
    obtain ⟨ps, h1, rfl⟩ := e
    exact .tup (st_of h) (RpAll.dp r h1)
  | _, _, _, .scr _, e => by simp [toPy] at e
  | _, _, _, .dT _ _ _, e => by simp [toPy] at e
  | _, _, _, .dK _ _ _, e => by simp [toPy] at e
  | _, _, _, .ins _ _ _, e => by simp [toPy] at e
theorem RpAll.dp {K : PySem.W.Frag} {H : Hp} : ∀ {vs : List V} {ds : List D} {ps : List PyData}, RpAll K H vs ds → toPy.toPyAll ds = some ps → DpAll K H vs ps
  | _, _, _, .nil, e => by simp only [toPy.toPyAll, Option.some.injEq] at e; subst e; exact .nil
  | _, _, _, .cons (d := d) (ds := ds) a b, e => by
    simp only [toPy.toPyAll] at e
    cases h1 : toPy d with
    | none => rw [h1] at e; simp at e
    | some p =>
      cases h2 : toPy.toPyAll ds with
      | none => rw [h1, h2] at e; simp at e
      | some q =>
        rw [h1, h2] at e; simp only [Option.some.injEq] at e; subst e
        exact .cons (Rp.dp a h1) (RpAll.dp b h2)
end
def vB (b : Bool) : Option Rv := some (.val (.bl b))
def vI (i : Int) : Option Rv := some (.val (.int i))
def vS (x : Str) : Option Rv := some (.val (.str x))
section
variable {X : Cx}
def dAdd : D → D → Option Rv
  | .int i, .int j => vI (i + j)
  | .str x, .str y => if x.length + y.length ≤ sizeLine then vS (x ++ y) else none
  | .lst a, .lst b => if a.length + b.length ≤ sizeLine then some (.new (.lst (a ++ b))) else none
  | .tup a, .tup b => if a.length + b.length ≤ sizeLine then some (.val (.tup (a ++ b))) else none
  | _, _ => none
theorem ok_add : OpOk X (binaryOp .Add) dAdd := by
  intro Bs B Hs H s r v u d e x Q E hv hu hf q
  unfold dAdd at hf
  split at hf
  · cases hf; rw [hv.int, hu.int]
    exact ⟨_, op_add, _, _, rfl, rfl, q.val E (.int _)⟩
  · split at hf <;> cases hf
    rw [hv.str, hu.str]
    exact ⟨_, op_add_str, _, _, rfl, rfl, by assumption, q.val E (.str _)⟩
  · split at hf <;> cases hf
    rename_i hz
    obtain ⟨a, vs, rfl, h1, r1⟩ := hv.lst E.sub
    obtain ⟨b, us, rfl, h2, r2⟩ := hu.lst E.sub
    exact ⟨_, op_cat, _, _, _, _, rfl, rfl, h1, h2, by rw [r1.length, r2.length]; exact hz, fun p hp => q.lst E (r1.append r2) hp⟩
  · split at hf <;> cases hf
    rename_i hz
    obtain ⟨a, vs, rfl, h1, r1, w1⟩ := hv.tup E.sub
    obtain ⟨b, us, rfl, h2, r2, w2⟩ := hu.tup E.sub
    refine ⟨_, op_catA, _, _, _, _, rfl, rfl, st_of h1, st_of h2, by rw [r1.length, r2.length]; exact hz, fun e => ?_, fun _ e => ?_, fun _ _ p hp => q.tup E (r1.append r2) hp⟩
    · subst e; cases r1; exact q.val E w2
    · subst e; cases r2; rw [List.append_nil] at q; exact q.val E w1
  · cases hf
def dSub : D → D → Option Rv
  | .int i, .int j => vI (i - j)
  | _, _ => none
theorem ok_sub : OpOk X (binaryOp .Sub) dSub := by
  intro Bs B Hs H s r v u d e x Q E hv hu hf q
  unfold dSub at hf
  split at hf <;> cases hf
  rw [hv.int, hu.int]
  exact ⟨_, op_sub, _, _, rfl, rfl, q.val E (.int _)⟩
def okMul (i j : Int) : Bool := decide (i.natAbs < 18446744073709551616) || decide (j.natAbs < 18446744073709551616)
def dMul : D → D → Option Rv
  | .int i, .int j => if okMul i j then vI (i * j) else none
  | .lst a, .int k => if k.natAbs ≤ 100000 ∧ a.length * k.toNat ≤ sizeLine then some (.new (.lst (List.replicate k.toNat a).flatten)) else none
  | _, _ => none
theorem RpAll.rep {K : PySem.W.Frag} {H : Hp} {vs : List V} {ds : List D} (h : RpAll K H vs ds) : ∀ n : Nat, RpAll K H (List.replicate n vs).flatten (List.replicate n ds).flatten
  | 0 => .nil
  | n + 1 => by rw [List.replicate_succ, List.replicate_succ, List.flatten_cons, List.flatten_cons]; exact h.append (h.rep n)
theorem ok_mul : OpOk X (binaryOp .Mult) dMul := by
  intro Bs B Hs H s r v u d e x Q E hv hu hf q
  unfold dMul at hf
  split at hf
  · split at hf <;> cases hf
    rename_i i j hz
    rw [hv.int, hu.int]
    refine ⟨_, op_mul, _, _, rfl, rfl, ?_, q.val E (.int _)⟩
    simp only [okMul, Bool.or_eq_true, decide_eq_true_eq] at hz
    unfold CMul
    rcases hz with hz | hz
    · left; omega
    · right; omega
  · split at hf <;> cases hf
    rename_i a k hz
    obtain ⟨p, vs, rfl, h1, r1⟩ := hv.lst E.sub
    rw [hu.int]
    exact ⟨_, op_rep, _, _, _, rfl, rfl, h1, by omega, by omega, by rw [r1.length]; exact hz.2, fun p hp => q.lst E (r1.rep _) hp⟩
  · cases hf
def dDiv : D → D → Option Rv
  | .int i, .int j => if 0 < j ∧ j < 1073741824 then vI (i / j) else none
  | _, _ => none
theorem ok_div : OpOk X (binaryOp .FloorDiv) dDiv := by
  intro Bs B Hs H s r v u d e x Q E hv hu hf q
  unfold dDiv at hf
  split at hf
  · split at hf <;> cases hf
    rename_i hz
    rw [hv.int, hu.int]
    exact ⟨_, op_fdiv, _, _, rfl, rfl, hz, q.val E (.int _)⟩
  · cases hf
def dMod : D → D → Option Rv
  | .int i, .int j => if 0 < j then vI (i % j) else none
  | _, _ => none
theorem ok_mod : OpOk X (binaryOp .Mod) dMod := by
  intro Bs B Hs H s r v u d e x Q E hv hu hf q
  unfold dMod at hf
  split at hf
  · split at hf <;> cases hf
    rename_i hz
    rw [hv.int, hu.int]
    exact ⟨_, op_mod, _, _, rfl, rfl, hz, q.val E (.int _)⟩
  · cases hf
def dPow : D → D → Option Rv
  | .int i, .int j => if 0 ≤ j ∧ j ≤ 1000 ∧ i.natAbs < 18446744073709551616 then vI (i ^ j.toNat) else none
  | _, _ => none
theorem ok_pow : OpOk X (binaryOp .Pow) dPow := by
  intro Bs B Hs H s r v u d e x Q E hv hu hf q
  unfold dPow at hf
  split at hf
  · split at hf <;> cases hf
    rename_i hz
    rw [hv.int, hu.int]
    exact ⟨_, op_pow, _, _, rfl, rfl, ⟨hz.1, by omega, hz.2.2⟩, q.val E (.int _)⟩
  · cases hf
/-! comparisons -/
def dEqB (d e : D) : Option Bool := match toPy d, toPy e with
  | some p, some q => if SeqAt.shaped p && SeqAt.shaped q then some (PyData.eqv p q) else none
  | _, _ => none
def dEq (d e : D) : Option Rv := (dEqB d e).map fun b => .val (.bl b)
def dNe (d e : D) : Option Rv := (dEqB d e).map fun b => .val (.bl (!b))
theorem eqB_some {d e : D} {b : Bool} (h : dEqB d e = some b) : ∃ p q, toPy d = some p ∧ toPy e = some q ∧ SeqAt.shaped p = true ∧ SeqAt.shaped q = true ∧ b = PyData.eqv p q := by
  unfold dEqB at h
  split at h
  · rename_i p q h1 h2
    split at h <;> cases h
    rename_i hz
    rw [Bool.and_eq_true] at hz
    exact ⟨p, q, h1, h2, hz.1, hz.2, rfl⟩
  · cases h
theorem ok_eq (R : Rm X) : OpOk X (compareOp .Eq) dEq := by
  intro Bs B Hs H s r v u d e x Q E hv hu hf q
  simp only [dEq, Option.map_eq_some_iff] at hf
  obtain ⟨b, hb, rfl⟩ := hf
  obtain ⟨p, q', h1, h2, h3, h4, rfl⟩ := eqB_some hb
  have hr := R.un
  exact ⟨_, op_eqD (by omega), p, q', (hv.rp E.sub).dp h1, (hu.rp E.sub).dp h2, h3, h4, q.val E (.bl _)⟩
theorem ok_ne (R : Rm X) : OpOk X (compareOp .NotEq) dNe := by
  intro Bs B Hs H s r v u d e x Q E hv hu hf q
  simp only [dNe, Option.map_eq_some_iff] at hf
  obtain ⟨b, hb, rfl⟩ := hf
  obtain ⟨p, q', h1, h2, h3, h4, rfl⟩ := eqB_some hb
  have hr := R.un
  exact ⟨_, op_neD (by omega), p, q', (hv.rp E.sub).dp h1, (hu.rp E.sub).dp h2, h3, h4, q.val E (.bl _)⟩
def toInts : List D → Option (List Int)
  | [] => some []
  | .int i :: l => (toInts l).map (i :: ·)
  | _ => none
theorem toInts_rp {K : PySem.W.Frag} {H : Hp} : ∀ {ds : List D} {ns : List Int} {vs : List V}, toInts ds = some ns → RpAll K H vs ds → vs = ns.map V.int
  | [], _, _, h, .nil => by simp only [toInts, Option.some.injEq] at h; subst h; rfl
  | d :: ds, _, _, h, .cons a b => by
    cases d <;> simp only [toInts, Option.map_eq_some_iff, reduceCtorEq] at h
    obtain ⟨ms, h1, rfl⟩ := h
    cases a
    rw [toInts_rp h1 b]; rfl
def dLt : D → D → Option Rv
  | .int i, .int j => vB (decide (i < j))
  | .str i, .str j => vB (decide (i.cps.toList < j.cps.toList))
  | .tup a, .tup b => match toInts a, toInts b with
    | some ns, some ms => vB (HT.lexLt ns ms)
    | _, _ => none
  | _, _ => none
theorem ok_lt (R : Rm X) : OpOk X (compareOp .Lt) dLt := by
  intro Bs B Hs H s r v u d e x Q E hv hu hf q
  have hr := R.un
  unfold dLt at hf
  split at hf
  · cases hf; rw [hv.int, hu.int]
    exact ⟨_, op_lt, _, _, rfl, rfl, q.val E (.bl _)⟩
  · cases hf; rw [hv.str, hu.str]
    exact ⟨_, op_lt_str, _, _, rfl, rfl, q.val E (.bl _)⟩
  · split at hf <;> cases hf
    rename_i n1 n2
    obtain ⟨a, vs, rfl, h1, r1, w1⟩ := hv.tup E.sub
    obtain ⟨b, us, rfl, h2, r2, w2⟩ := hu.tup E.sub
    have e1 := toInts_rp n1 r1
    have e2 := toInts_rp n2 r2
    subst e1 e2
    exact ⟨_, op_ltT (by omega), _, _, _, _, rfl, rfl, st_of h1, st_of h2, q.val E (.bl _)⟩
  · cases hf
def dLe : D → D → Option Rv
  | .int i, .int j => vB (decide (i ≤ j))
  | _, _ => none
theorem ok_le : OpOk X (compareOp .LtE) dLe := by
  intro Bs B Hs H s r v u d e x Q E hv hu hf q
  unfold dLe at hf
  split at hf <;> cases hf
  rw [hv.int, hu.int]
  exact ⟨_, op_le, _, _, rfl, rfl, q.val E (.bl _)⟩
def dGt : D → D → Option Rv
  | .int i, .int j => vB (decide (j < i))
  | _, _ => none
theorem ok_gt : OpOk X (compareOp .Gt) dGt := by
  intro Bs B Hs H s r v u d e x Q E hv hu hf q
  unfold dGt at hf
  split at hf <;> cases hf
  rw [hv.int, hu.int]
  exact ⟨_, op_gt, _, _, rfl, rfl, q.val E (.bl _)⟩
def dGe : D → D → Option Rv
  | .int i, .int j => vB (decide (j ≤ i))
  | _, _ => none
theorem ok_ge : OpOk X (compareOp .GtE) dGe := by
  intro Bs B Hs H s r v u d e x Q E hv hu hf q
  unfold dGe at hf
  split at hf <;> cases hf
  rw [hv.int, hu.int]
  exact ⟨_, op_ge, _, _, rfl, rfl, q.val E (.bl _)⟩
def isNon : D → Bool
  | .non => true
  | _ => false
theorem Opd.isNon {K : PySem.W.Frag} {Hs H : Hp} (e : Ex Hs H) {v : V} {d : D} (h : Opd K Hs H v d) : decide (v = .non) = isNon d := by
  have h := h.rp e
  cases h <;> rfl
def dIsN (d e : D) : Option Rv := if isNon e then vB (isNon d) else none
theorem ok_isN : OpOk X (compareOp .Is) dIsN := by
  intro Bs B Hs H s r v u d e x Q E hv hu hf q
  unfold dIsN at hf
  split at hf <;> cases hf
  rename_i he
  have : u = .non := of_decide_eq_true ((hu.isNon E.sub).trans he)
  subst this
  exact ⟨_, op_isN, rfl, by rw [hv.isNon E.sub]; exact q.val E (.bl _)⟩
def dNotN (d e : D) : Option Rv := if isNon e then vB (!isNon d) else none
theorem ok_notN : OpOk X (compareOp .IsNot) dNotN := by
  intro Bs B Hs H s r v u d e x Q E hv hu hf q
  unfold dNotN at hf
  split at hf <;> cases hf
  rename_i he
  have : u = .non := of_decide_eq_true ((hu.isNon E.sub).trans he)
  subst this
  exact ⟨_, op_notN, rfl, by rw [hv.isNon E.sub]; exact q.val E (.bl _)⟩
/-! in -/
def flatD : D → Option V
  | .non => some .non
  | .bl b => some (.bl b)
  | .int i => some (.int i)
  | .str x => some (.str x)
  | _ => none
theorem flatD_rp {K : PySem.W.Frag} {H : Hp} {d : D} {w v : V} (h : flatD d = some w) (r : Rp K H v d) : v = w ∧ flatV v = true := by
  cases r <;> simp only [flatD, reduceCtorEq, Option.some.injEq] at h <;> subst h <;> exact ⟨rfl, rfl⟩
def flatAll : List D → Option (List V)
  | [] => some []
  | d :: l => match flatD d, flatAll l with
    | some v, some vs => some (v :: vs)
    | _, _ => none
theorem flatAll_rp {K : PySem.W.Frag} {H : Hp} : ∀ {ds : List D} {ws vs : List V}, flatAll ds = some ws → RpAll K H vs ds → vs = ws ∧ vs.all flatV = true
  | [], _, _, h, .nil => by simp only [flatAll, Option.some.injEq] at h; subst h; exact ⟨rfl, rfl⟩
  | d :: ds, _, _, h, .cons a b => by
    simp only [flatAll] at h
    split at h
    · rename_i v vs h1 h2
      cases h
      obtain ⟨rfl, f1⟩ := flatD_rp h1 a
      obtain ⟨rfl, f2⟩ := flatAll_rp h2 b
      exact ⟨rfl, by rw [List.all_cons, f1, f2]; rfl⟩
    · cases h
/-- x in a list, a tuple of flat things; of a list of any data; of a text -/
def dInB (d e : D) : Option Bool := match e with
  | .lst l => match flatD d, flatAll l with
    | some v, some vs => some (inV v vs)
    | _, _ => match toPy d, toPy (.lst l) with
      | some p, some (.list q) => if SeqAt.shaped p && SeqAt.shaped (.list q) then some (q.any fun z => PyData.eqv z p) else none
      | _, _ => none
  | .tup l => match flatD d, flatAll l with
    | some v, some vs => some (inV v vs)
    | _, _ => none
  | .str z => match d with
    | .str x => match x.cps.toList with
      | [c] => some (decide (c ∈ z.cps.toList))
      | _ => some (!(Builtin.Str.occurrences z x 0 z.length 1).isEmpty)
    | _ => none
  | _ => none
def dIn (d e : D) : Option Rv := (dInB d e).map fun b => .val (.bl b)
def dNotIn (d e : D) : Option Rv := (dInB d e).map fun b => .val (.bl (!b))
theorem one_sign {x : Str} {c : Nat} (h : x.cps.toList = [c]) : x = ⟨#[c]⟩ := by
  cases x with
  | mk cps =>
    have : cps = #[c] := Array.toList_inj.mp h
    rw [this]
theorem ok_in2 (R : Rm X) : OpOk X (compareOp .In) dIn ∧ OpOk X (compareOp .NotIn) dNotIn := by
  have hr := R.un
  have key : ∀ (Bs B Hs H : Hp) (s : St) (r : Rho) (v u : V) (d e : D) (b : Bool), EnvOk X.K Bs B Hs H s r → Opd X.K Hs H v d → Opd X.K Hs H u e → dInB d e = some b →
      (∀ Q : VK, Q (.bl b) H → ∃ rr, OpR X (compareOp .In) rr ∧ rr v u H Q) ∧ (∀ Q : VK, Q (.bl (!b)) H → ∃ rr, OpR X (compareOp .NotIn) rr ∧ rr v u H Q) := by
    intro Bs B Hs H s r v u d e b E hv hu hf
    unfold dInB at hf
    split at hf
    · obtain ⟨a, vs, rfl, h1, r1⟩ := hu.lst E.sub
      split at hf
      · rename_i w ws f1 f2
        cases hf
        obtain ⟨rfl, g1⟩ := flatD_rp f1 (hv.rp E.sub)
        obtain ⟨rfl, g2⟩ := flatAll_rp f2 r1
        exact ⟨fun Q q => ⟨_, op_in_seq, _, _, rfl, .inl (sq_of h1), g1, g2, q⟩, fun Q q => ⟨_, op_notIn_seq, _, _, rfl, .inl (sq_of h1), g1, g2, q⟩⟩
      · split at hf
        · rename_i p q' t1 t2
          split at hf <;> cases hf
          rename_i hz
          rw [Bool.and_eq_true] at hz
          have e1 := (hv.rp E.sub).dp t1
          have e2 := (hu.rp E.sub).dp t2
          exact ⟨fun Q q => ⟨_, op_inD (by omega), _, _, e1, e2, hz.1, hz.2, q⟩, fun Q q => ⟨_, op_notInD (by omega), _, _, e1, e2, hz.1, hz.2, q⟩⟩
        · cases hf
    · obtain ⟨a, vs, rfl, h1, r1, w1⟩ := hu.tup E.sub
      split at hf
      · rename_i w ws f1 f2
        cases hf
        obtain ⟨rfl, g1⟩ := flatD_rp f1 (hv.rp E.sub)
        obtain ⟨rfl, g2⟩ := flatAll_rp f2 r1
        exact ⟨fun Q q => ⟨_, op_in_seq, _, _, rfl, .inr (st_of h1), g1, g2, q⟩, fun Q q => ⟨_, op_notIn_seq, _, _, rfl, .inr (st_of h1), g1, g2, q⟩⟩
      · cases hf
    · rw [hu.str]
      split at hf
      · rw [hv.str]
        split at hf
        · rename_i x c hx
          cases hf
          rw [one_sign hx]
          exact ⟨fun Q q => ⟨_, op_in_sign, _, _, rfl, rfl, q⟩, fun Q q => ⟨_, op_notIn_sign, _, _, rfl, rfl, q⟩⟩
        · cases hf
          exact ⟨fun Q q => ⟨_, op_in_str, _, _, rfl, rfl, q⟩, fun Q q => ⟨_, op_notIn_str, _, _, rfl, rfl, q⟩⟩
      · cases hf
    · cases hf
  refine ⟨?_, ?_⟩
  · intro Bs B Hs H s r v u d e x Q E hv hu hf q
    simp only [dIn, Option.map_eq_some_iff] at hf
    obtain ⟨b, hb, rfl⟩ := hf
    exact (key Bs B Hs H s r v u d e b E hv hu hb).1 Q (q.val E (.bl _))
  · intro Bs B Hs H s r v u d e x Q E hv hu hf q
    simp only [dNotIn, Option.map_eq_some_iff] at hf
    obtain ⟨b, hb, rfl⟩ := hf
    exact (key Bs B Hs H s r v u d e b E hv hu hb).2 Q (q.val E (.bl _))
end
end Mp
set_option Elab.async false
set_option linter.all false
set_option maxRecDepth 100000
namespace Mp
open PySem L2 Evl
section
variable {A Y A' Y' : Type} {K : PySem.W.Frag} {W : WX} {Bs B Hs Hs' H : Hp} {s : St} {r : Rho}
theorem PostE.mono {Rel : Hp → Hp → Rho → Y → A → Prop} {Q : Y → Hp → Prop} {m : EO A} (e : Ex Hs Hs') (h : PostE K W Bs B Hs s Rel Q m) : PostE K W Bs B Hs' s Rel Q m := by
  cases m with
  | stuck => exact h
  | ok a r => exact fun y Hs1 H1 e1 => h y Hs1 H1 (e.trans e1)
  | exc x r => exact fun c d Hs1 H1 e1 => h c d Hs1 H1 (e.trans e1)
theorem PostE.bind {Rel : Hp → Hp → Rho → Y → A → Prop} {Rel' : Hp → Hp → Rho → Y' → A' → Prop} {Q : Y' → Hp → Prop} {Q1 : Y → Hp → Prop} {m : EO A} {f : A → Rho → EO A'} (h : PostE K W Bs B Hs s Rel' Q (m.bind f))
    (k : ∀ a r' y Hs' H', m = .ok a r' → Ex Hs Hs' → EnvOk K Bs B Hs' H' s r' → Rel Hs' H' r' y a → PostE K W Bs B Hs' s Rel' Q (f a r') → Q1 y H') : PostE K W Bs B Hs s Rel Q1 m := by
  cases m with
  | stuck => exact h
  | ok a r' => exact fun y Hs' H' e E ra => k a r' y Hs' H' rfl e E ra (PostE.mono e h)
  | exc x r' => exact h
theorem PostE.ok {Rel : Hp → Hp → Rho → Y → A → Prop} {Q : Y → Hp → Prop} {a : A} {r : Rho} {y : Y} {H : Hp} (h : PostE K W Bs B Hs s Rel Q (.ok a r)) (E : EnvOk K Bs B Hs H s r) (ra : Rel Hs H r y a) : Q y H := h y Hs H (Ex.refl _) E ra
end
section
variable {X : Cx} {W : WX} {e a b c : Expr} {es : List Expr} {pos : Pos}
/-! ### constants, names -/
def eC (d : D) : Ev Rv := fun r => .ok (.val d) r
def oC (d : D) : Ev Src := fun r => .ok (.dat d) r
theorem snd_c {v : V} {d : D} (h : PE X e (tC v)) (hv : ∀ H, Rp X.K H v d) : SndE X W e (eC d) := fun Bs B Hs H s r Q E q => ⟨_, h, q.ok E (hv Hs)⟩
theorem sno_c {v : V} {d : D} (h : PE X e (tC v)) (hv : ∀ H, Rp X.K H v d) : SndO X W e (oC d) := fun Bs B Hs H s r Q E q => ⟨_, h, q.ok E (hv Hs)⟩
theorem snd_int {i j pos} : SndE X W (.Constant (.int i) j pos) (eC (.int i)) := snd_c pe_int fun _ => .int _
theorem snd_bl {i j pos} : SndE X W (.Constant (.bool i) j pos) (eC (.bl i)) := snd_c pe_bl fun _ => .bl _
theorem snd_str {i j pos} : SndE X W (.Constant (.str i) j pos) (eC (.str i)) := snd_c pe_str fun _ => .str _
theorem snd_non {j pos} : SndE X W (.Constant .none j pos) (eC .non) := snd_c pe_non fun _ => .non
theorem sno_int {i j pos} : SndO X W (.Constant (.int i) j pos) (oC (.int i)) := sno_c pe_int fun _ => .int _
theorem sno_bl {i j pos} : SndO X W (.Constant (.bool i) j pos) (oC (.bl i)) := sno_c pe_bl fun _ => .bl _
theorem sno_str {i j pos} : SndO X W (.Constant (.str i) j pos) (oC (.str i)) := sno_c pe_str fun _ => .str _
theorem sno_non {j pos} : SndO X W (.Constant .none j pos) (oC .non) := sno_c pe_non fun _ => .non
def oN (i : Nat) : Ev Src := fun r => match r[i]? with
  | some (.val d) => .ok (.dat d) r
  | some (.own _) => .ok (.slot i) r
  | _ => .stuck
def eN (i : Nat) : Ev Rv := fun r => match r[i]? with
  | some (.val d) => .ok (.val d) r
  | some (.own o) => .ok (.val o.data) (r.set i (.val o.data))
  | _ => .stuck
theorem sno_n {i : Nat} (h : PE X e (tVar i)) : SndO X W e (oN i) := fun Bs B Hs H s r Q E q => by
  refine ⟨_, h, ?_⟩
  unfold oN at q
  split at q
  · rename_i d hd
    obtain ⟨v, h1, h2⟩ := E.val i d hd
    exact ⟨v, h1, q.ok E h2⟩
  · rename_i o ho
    obtain ⟨a, h1, _⟩ := E.own i o ho
    exact ⟨_, h1, q.ok E h1⟩
  · exact False.elim q
theorem snd_n {i : Nat} (h : PE X e (tVar i)) : SndE X W e (eN i) := fun Bs B Hs H s r Q E q => by
  refine ⟨_, h, ?_⟩
  unfold eN at q
  split at q
  · rename_i d hd
    obtain ⟨v, h1, h2⟩ := E.val i d hd
    exact ⟨v, h1, q.ok E h2⟩
  · rename_i o ho
    obtain ⟨v, Hs', h1, h2, h3, h4⟩ := E.freeze ho
    exact ⟨v, h1, q v Hs' H h2 h3 h4⟩
  · exact False.elim q
/-- an expression as an operand -/
def oE (ev : Ev Rv) : Ev Src := fun r => (ev r).bind fun x r => .ok (.dat x.data) r
theorem sno_e {ev : Ev Rv} (h : SndE X W e ev) : SndO X W e (oE ev) := fun Bs B Hs H s r Q E q =>
  h Bs B Hs H s r Q E (PostE.bind q fun x r' v Hs' H' _ e1 E1 ra q1 => by
    obtain ⟨Hs2, e2, E2, r2⟩ := RvAt.use E1 ra
    exact q1 v Hs2 H' e2 E2 r2)
/-! ### two operands -/
def rAny (X : Cx) (g : Value → Value → Sem Value) : R2 := fun x y H Q => ∃ rr, OpR X g rr ∧ rr x y H Q
theorem op_any {g : Value → Value → Sem Value} : OpR X g (rAny X g) := fun pins s σ H x y v u Q I rx ry ⟨rr, h, q⟩ => h pins s σ H x y v u Q I rx ry q
def two (f : D → D → Option Rv) (x y : Src) (r : Rho) : EO Rv := match x.rd r, y.rd r with
  | some d, some e => match f d e with
    | some z => .ok z r
    | none => .stuck
  | _, _ => .stuck
def e2 (f : D → D → Option Rv) (oa ob : Ev Src) : Ev Rv := fun r => (oa r).bind fun x r1 => (ob r1).bind fun y r2 => two f x y r2
theorem two_ok {g : Value → Value → Sem Value} {f : D → D → Option Rv} (ok : OpOk X g f) {Bs B Hs H : Hp} {s : St} {r : Rho} {v u : V} {x y : Src} {Q : VK} (E : EnvOk X.K Bs B Hs H s r) (hx : SrcAt X.K Hs s v x) (hy : SrcAt X.K Hs s u y)
    (q : PostE X.K W Bs B Hs s (relR X.K B s) Q (two f x y r)) : rAny X g v u H Q := by
  unfold two at q
  split at q
  · rename_i d e h1 h2
    split at q
    · rename_i z hz
      exact ok Bs B Hs H s r v u d e z Q E (Src.opd E hx h1) (Src.opd E hy h2) hz fun w Hs' H' st rv => q w Hs' H' st.sh (E.step st) rv
    · exact False.elim q
  · exact False.elim q
theorem snd_bin {op : Operator} {f : D → D → Option Rv} {oa ob : Ev Src} (ok : OpOk X (binaryOp op) f) (ha : SndO X W a oa) (hb : SndO X W b ob) : SndE X W (.BinOp a op b pos) (e2 f oa ob) := fun Bs B Hs H s r Q E q =>
  ⟨_, pe_op op_any pe_all pe_all, ha _ _ _ _ _ _ _ E (PostE.bind q fun x r1 v Hs1 H1 _ x1 E1 ra q1 => hb _ _ _ _ _ _ _ E1 (PostE.bind q1 fun y r2 u Hs2 H2 _ x2 E2 rb q2 => two_ok ok E2 (ra.mono x2) rb q2))⟩
theorem snd_cmp {op : CmpOp} {f : D → D → Option Rv} {oa ob : Ev Src} (ok : OpOk X (compareOp op) f) (ha : SndO X W a oa) (hb : SndO X W b ob) (hm : behindInMarks op b = false) : SndE X W (.Compare a [op] [b] pos) (e2 f oa ob) := fun Bs B Hs H s r Q E q =>
  ⟨_, pe_cmpR op_any pe_all pe_all hm, ha _ _ _ _ _ _ _ E (PostE.bind q fun x r1 v Hs1 H1 _ x1 E1 ra q1 => hb _ _ _ _ _ _ _ E1 (PostE.bind q1 fun y r2 u Hs2 H2 _ x2 E2 rb q2 => two_ok ok E2 (ra.mono x2) rb q2))⟩
/-- a value that is a bool, as a test -/
def tv (ev : Ev Rv) : Ev Bool := fun r => (ev r).bind fun x r => match x with
  | .val (.bl c) => .ok c r
  | _ => .stuck
theorem tv_post {Bs B Hs : Hp} {s : St} {m : EO Rv} {Q : Bool → Hp → Prop} (q : PostE X.K W Bs B Hs s relB Q (m.bind fun x r => match x with | .val (.bl c) => .ok c r | _ => .stuck)) :
    PostE X.K W Bs B Hs s (relR X.K B s) (fun x H' => ∃ k, x = .bl k ∧ Q k H') m :=
  PostE.bind q fun x r' v Hs' H' _ e1 E1 ra q1 => by
    split at q1
    · cases (show Rp X.K Hs' v (.bl _) from ra)
      exact ⟨_, rfl, q1.ok E1 rfl⟩
    · exact False.elim q1
theorem snt_cmp {op : CmpOp} {f : D → D → Option Rv} {oa ob : Ev Src} (ok : OpOk X (compareOp op) f) (ha : SndO X W a oa) (hb : SndO X W b ob) (hm : behindInMarks op b = false) : SndT X W (.Compare a [op] [b] pos) (tv (e2 f oa ob)) := fun Bs B Hs H s r Q E q => by
  have q' := tv_post (m := e2 f oa ob r) q
  exact ⟨_, pt_cmpR op_any pe_all pe_all hm, ha _ _ _ _ _ _ _ E (PostE.bind q' fun x r1 v Hs1 H1 _ x1 E1 ra q1 => hb _ _ _ _ _ _ _ E1 (PostE.bind q1 fun y r2 u Hs2 H2 _ x2 E2 rb q2 => two_ok ok E2 (ra.mono x2) rb q2))⟩
/-- a op b op c -/
def e3 (f g : D → D → Option Rv) (oa ob oc : Ev Src) : Ev Rv := fun r => (oa r).bind fun x r1 => (ob r1).bind fun y r2 => (two f x y r2).bind fun z r3 => match z with
  | .val (.bl true) => (oc r3).bind fun w r4 => two g y w r4
  | .val (.bl false) => .ok (.val (.bl false)) r3
  | _ => .stuck
theorem chain_core {op op' : CmpOp} {f g : D → D → Option Rv} {oa ob oc : Ev Src} (ok : OpOk X (compareOp op) f) (ok' : OpOk X (compareOp op') g) (ha : SndO X W a oa) (hb : SndO X W b ob) (hc : SndO X W c oc)
    {Bs B Hs H : Hp} {s : St} {r : Rho} {Q : VK} (E : EnvOk X.K Bs B Hs H s r) (q : PostE X.K W Bs B Hs s (relR X.K B s) Q (e3 f g oa ob oc r)) :
    tChain (rAny X (compareOp op)) (rAny X (compareOp op')) (aE X a) (aE X b) (aE X c) s H Q :=
  ha _ _ _ _ _ _ _ E (PostE.bind q fun x r1 v Hs1 H1 _ x1 E1 ra q1 => hb _ _ _ _ _ _ _ E1 (PostE.bind q1 fun y r2 u Hs2 H2 _ x2 E2 rb q2 => two_ok (W := W) ok E2 (ra.mono x2) rb (PostE.bind q2 fun z r3 w Hs3 H3 _ x3 E3 rz q3 => by
    split at q3
    · cases (show Rp X.K Hs3 w (.bl true) from rz)
      refine ⟨true, rfl, ?_⟩
      rw [if_pos rfl]
      exact hc _ _ _ _ _ _ _ E3 (PostE.bind q3 fun k r4 w' Hs4 H4 _ x4 E4 rk q4 => two_ok ok' E4 (rb.mono (x3.trans x4)) rk q4)
    · cases (show Rp X.K Hs3 w (.bl false) from rz)
      refine ⟨false, rfl, ?_⟩
      rw [if_neg Bool.false_ne_true]
      exact q3.ok E3 (.bl _)
    · exact False.elim q3)))
theorem snd_chain {op op' : CmpOp} {f g : D → D → Option Rv} {oa ob oc : Ev Src} (ok : OpOk X (compareOp op) f) (ok' : OpOk X (compareOp op') g) (ha : SndO X W a oa) (hb : SndO X W b ob) (hc : SndO X W c oc)
    (hm : lastMarks [op, op'] [b, c] = false := by with_unfolding_all rfl) : SndE X W (.Compare a [op, op'] [b, c] pos) (e3 f g oa ob oc) := fun Bs B Hs H s r Q E q => ⟨_, pe_chain op_any op_any pe_all pe_all pe_all hm, chain_core ok ok' ha hb hc E q⟩
theorem snt_chain {op op' : CmpOp} {f g : D → D → Option Rv} {oa ob oc : Ev Src} (ok : OpOk X (compareOp op) f) (ok' : OpOk X (compareOp op') g) (ha : SndO X W a oa) (hb : SndO X W b ob) (hc : SndO X W c oc)
    (hm : lastMarks [op, op'] [b, c] = false := by with_unfolding_all rfl) : SndT X W (.Compare a [op, op'] [b, c] pos) (tv (e3 f g oa ob oc)) := fun Bs B Hs H s r Q E q =>
  ⟨_, pt_chain op_any op_any pe_all pe_all pe_all hm, chain_core ok ok' ha hb hc E (tv_post (m := e3 f g oa ob oc r) q)⟩
/-! ### -a -/
def dNeg : D → Option Rv
  | .int i => vI (-i)
  | _ => none
def e1 (f : D → Option Rv) (oa : Ev Src) : Ev Rv := fun r => (oa r).bind fun x r1 => match x.rd r1 with
  | some d => match f d with
    | some z => .ok z r1
    | none => .stuck
  | none => .stuck
theorem snd_neg {oa : Ev Src} (ha : SndO X W a oa) : SndE X W (.UnaryOp .USub a pos) (e1 dNeg oa) := fun Bs B Hs H s r Q E q =>
  ⟨_, pe_un un_neg pe_all, ha _ _ _ _ _ _ _ E (PostE.bind q fun x r1 v Hs1 H1 _ x1 E1 ra q1 => by
    split at q1
    · rename_i d hd
      have o := Src.opd E1 ra hd
      split at q1
      · rename_i z hz
        unfold dNeg at hz
        split at hz <;> cases hz
        rw [o.int]
        exact ⟨_, rfl, q1.ok E1 (.int _)⟩
      · exact False.elim q1
    · exact False.elim q1)⟩
/-! ### truth, and, or, not -/
def truD : D → Option Bool
  | .non => some false
  | .bl b => some b
  | .int i => some (i != 0)
  | .str x => if x.length ≤ sizeLine then some ((x.length : Int) != 0) else none
  | .lst l => some (!l.isEmpty)
  | .tup l => some (!l.isEmpty)
  | .scr l => some (!l.isEmpty)
  | .dK l => some (!l.isEmpty)
  | _ => none
theorem RpAll.isEmpty {K : PySem.W.Frag} {H : Hp} {vs : List V} {ds : List D} (h : RpAll K H vs ds) : ds.isEmpty = vs.isEmpty := by cases h <;> rfl
theorem truD_rp {H : Hp} {v : V} {d : D} {k : Bool} (h : Rp X.K H v d) (e : truD d = some k) : TruV X.K v H k := by
  cases h <;> simp only [truD, Option.some.injEq, reduceCtorEq] at e
  · exact e.symm
  · exact e.symm
  · exact e.symm
  · split at e <;> cases e
    exact ⟨by assumption, rfl⟩
  · rename_i h r
    rw [r.isEmpty] at e
    exact .inl ⟨_, sq_of h, e.symm⟩
  · rename_i h r
    rw [r.isEmpty] at e
    exact .inr (.inl ⟨_, st_of h, e.symm⟩)
  · rename_i l h
    refine .inl ⟨_, h, ?_⟩
    rw [← e]; cases l <;> rfl
  · rename_i kvs l h k r
    refine .inr (.inr ⟨_, h, ?_⟩)
    rw [← e]
    cases l <;> cases kvs <;> simp at k <;> rfl
def tTr (oa : Ev Src) : Ev Bool := fun r => (oa r).bind fun x r1 => match x.rd r1 with
  | some d => match truD d with
    | some k => .ok k r1
    | none => .stuck
  | none => .stuck
theorem snt_tru {oa : Ev Src} (ha : SndO X W a oa) (he : ∀ whole, isTrue a X.env whole = (do let v ← whole; standAt a.pos; holding [v] (truthy v))) : SndT X W a (tTr oa) := fun Bs B Hs H s r Q E q =>
  ⟨_, pt_truth pe_all he, ha _ _ _ _ _ _ _ E (PostE.bind q fun x r1 v Hs1 H1 _ x1 E1 ra q1 => by
    split at q1
    · rename_i d hd
      have o := Src.opd E1 ra hd
      split at q1
      · rename_i k hk
        exact ⟨k, truD_rp (o.rp E1.sub) hk, q1.ok E1 rfl⟩
      · exact False.elim q1
    · exact False.elim q1)⟩
/-- chains of and, or: PW's -/
def SndW (X : Cx) (W : WX) (e : Expr) (ev : Ev Bool) : Prop := ∀ (Bs B Hs H : Hp) (s : St) (r : Rho) (Q : Bool → Hp → Prop), EnvOk X.K Bs B Hs H s r →
  PostE X.K W Bs B Hs s relB Q (ev r) → ∃ t, PW X e t ∧ t s H Q
def aW (X : Cx) (e : Expr) : TT := fun s H Q => ∃ t, PW X e t ∧ t s H Q
theorem pw_all {e : Expr} : PW X e (aW X e) := ⟨fun wh pins s σ H Q I ⟨t, h, q⟩ => h.run wh pins s σ H Q I q⟩
theorem SndW.t {ev : Ev Bool} (h : SndW X W e ev) : SndT X W e ev := fun Bs B Hs H s r Q E q => by
  obtain ⟨t, h1, h2⟩ := h Bs B Hs H s r Q E q
  exact ⟨t, h1.pt, h2⟩
def tAndE (ta tb : Ev Bool) : Ev Bool := fun r => (ta r).bind fun k r1 => if k then tb r1 else .ok false r1
def tOrE (ta tb : Ev Bool) : Ev Bool := fun r => (ta r).bind fun k r1 => if k then .ok true r1 else tb r1
theorem snw_and1 {ta : Ev Bool} (h : SndT X W a ta) : SndW X W (.BoolOp .And [a] pos) ta := fun Bs B Hs H s r Q E q => ⟨_, pw_and1 pt_all, h Bs B Hs H s r Q E q⟩
theorem snw_or1 {ta : Ev Bool} (h : SndT X W a ta) : SndW X W (.BoolOp .Or [a] pos) ta := fun Bs B Hs H s r Q E q => ⟨_, pw_or1 pt_all, h Bs B Hs H s r Q E q⟩
theorem snw_and {rest : List Expr} {ta tb : Ev Bool} (h : SndT X W a ta) (h2 : SndW X W (.BoolOp .And (b :: rest) pos) tb) : SndW X W (.BoolOp .And (a :: b :: rest) pos) (tAndE ta tb) := fun Bs B Hs H s r Q E q =>
  ⟨_, pw_and pt_all pw_all, h _ _ _ _ _ _ _ E (PostE.bind q fun k r1 k' Hs1 H1 _ x1 E1 ra q1 => by
    have ra : k' = k := ra
    subst ra
    cases k' with
    | true => rw [if_pos rfl] at q1 ⊢; exact h2 _ _ _ _ _ _ _ E1 q1
    | false => rw [if_neg Bool.false_ne_true] at q1 ⊢; exact q1.ok E1 rfl)⟩
theorem snw_or {rest : List Expr} {ta tb : Ev Bool} (h : SndT X W a ta) (h2 : SndW X W (.BoolOp .Or (b :: rest) pos) tb) : SndW X W (.BoolOp .Or (a :: b :: rest) pos) (tOrE ta tb) := fun Bs B Hs H s r Q E q =>
  ⟨_, pw_or pt_all pw_all, h _ _ _ _ _ _ _ E (PostE.bind q fun k r1 k' Hs1 H1 _ x1 E1 ra q1 => by
    have ra : k' = k := ra
    subst ra
    cases k' with
    | true => rw [if_pos rfl] at q1 ⊢; exact q1.ok E1 rfl
    | false => rw [if_neg Bool.false_ne_true] at q1 ⊢; exact h2 _ _ _ _ _ _ _ E1 q1)⟩
def tNotE (ta : Ev Bool) : Ev Bool := fun r => (ta r).bind fun k r1 => .ok (!k) r1
theorem snt_not {ta : Ev Bool} (h : SndT X W a ta) : SndT X W (.UnaryOp .Not a pos) (tNotE ta) := fun Bs B Hs H s r Q E q =>
  ⟨_, pt_not pt_all, h _ _ _ _ _ _ _ E (PostE.bind q fun k r1 k' Hs1 H1 _ x1 E1 ra q1 => by
    have ra : k' = k := ra
    subst ra
    exact q1.ok E1 rfl)⟩
/-- as values: bools all but the last -/
def eAnd (ea eb : Ev Rv) : Ev Rv := fun r => (ea r).bind fun x r1 => match x with
  | .val (.bl true) => eb r1
  | .val (.bl false) => .ok (.val (.bl false)) r1
  | _ => .stuck
def eOr (ea eb : Ev Rv) : Ev Rv := fun r => (ea r).bind fun x r1 => match x with
  | .val (.bl true) => .ok (.val (.bl true)) r1
  | .val (.bl false) => eb r1
  | _ => .stuck
theorem snd_one {op} {ea : Ev Rv} (h : SndE X W a ea) : SndE X W (.BoolOp op [a] pos) ea := fun Bs B Hs H s r Q E q => ⟨_, pe_one pe_all, h Bs B Hs H s r Q E q⟩
theorem snd_and {rest : List Expr} {ea eb : Ev Rv} (h : SndE X W a ea) (h2 : SndE X W (.BoolOp .And (b :: rest) pos) eb) : SndE X W (.BoolOp .And (a :: b :: rest) pos) (eAnd ea eb) := fun Bs B Hs H s r Q E q =>
  ⟨_, pe_and pe_all pe_all, h _ _ _ _ _ _ _ E (PostE.bind q fun x r1 v Hs1 H1 _ x1 E1 ra q1 => by
    split at q1
    · cases (show Rp X.K Hs1 v (.bl true) from ra)
      exact ⟨true, rfl, by rw [if_pos rfl]; exact h2 _ _ _ _ _ _ _ E1 q1⟩
    · cases (show Rp X.K Hs1 v (.bl false) from ra)
      exact ⟨false, rfl, by rw [if_neg Bool.false_ne_true]; exact q1.ok E1 (.bl _)⟩
    · exact False.elim q1)⟩
theorem snd_or {rest : List Expr} {ea eb : Ev Rv} (h : SndE X W a ea) (h2 : SndE X W (.BoolOp .Or (b :: rest) pos) eb) : SndE X W (.BoolOp .Or (a :: b :: rest) pos) (eOr ea eb) := fun Bs B Hs H s r Q E q =>
  ⟨_, pe_or pe_all pe_all, h _ _ _ _ _ _ _ E (PostE.bind q fun x r1 v Hs1 H1 _ x1 E1 ra q1 => by
    split at q1
    · cases (show Rp X.K Hs1 v (.bl true) from ra)
      exact ⟨true, rfl, by rw [if_pos rfl]; exact q1.ok E1 (.bl _)⟩
    · cases (show Rp X.K Hs1 v (.bl false) from ra)
      exact ⟨false, rfl, by rw [if_neg Bool.false_ne_true]; exact h2 _ _ _ _ _ _ _ E1 q1⟩
    · exact False.elim q1)⟩
def eNot (ea : Ev Rv) : Ev Rv := fun r => (ea r).bind fun x r1 => match x with
  | .val (.bl k) => .ok (.val (.bl (!k))) r1
  | _ => .stuck
theorem snd_not {ea : Ev Rv} (h : SndE X W a ea) : SndE X W (.UnaryOp .Not a pos) (eNot ea) := fun Bs B Hs H s r Q E q =>
  ⟨_, pe_not pe_all, h _ _ _ _ _ _ _ E (PostE.bind q fun x r1 v Hs1 H1 _ x1 E1 ra q1 => by
    split at q1
    · cases (show Rp X.K Hs1 v (.bl _) from ra)
      exact ⟨_, rfl, q1.ok E1 (.bl _)⟩
    · exact False.elim q1)⟩
def eIf (tc : Ev Bool) (ea eb : Ev Rv) : Ev Rv := fun r => (tc r).bind fun k r1 => if k then ea r1 else eb r1
theorem snd_if {tc : Ev Bool} {ea eb : Ev Rv} (hc : SndT X W c tc) (ha : SndE X W a ea) (hb : SndE X W b eb) : SndE X W (.IfExp c a b pos) (eIf tc ea eb) := fun Bs B Hs H s r Q E q =>
  ⟨_, pe_ifExp pt_all pe_all pe_all, hc _ _ _ _ _ _ _ E (PostE.bind q fun k r1 k' Hs1 H1 _ x1 E1 ra q1 => by
    have ra : k' = k := ra
    subst ra
    cases k' with
    | true => rw [if_pos rfl] at q1 ⊢; exact ha _ _ _ _ _ _ _ E1 q1
    | false => rw [if_neg Bool.false_ne_true] at q1 ⊢; exact hb _ _ _ _ _ _ _ E1 q1)⟩
/-! ### argument lists: of operands; of data -/
inductive SrcAll (K : PySem.W.Frag) (Hs : Hp) (s : St) : List V → List Src → Prop
  | nil : SrcAll K Hs s [] []
  | cons {v : V} {vs : List V} {x : Src} {xs : List Src} : SrcAt K Hs s v x → SrcAll K Hs s vs xs → SrcAll K Hs s (v :: vs) (x :: xs)
theorem SrcAll.mono {K : PySem.W.Frag} {Hs Hs' : Hp} {s : St} (e : Ex Hs Hs') : ∀ {vs : List V} {xs : List Src}, SrcAll K Hs s vs xs → SrcAll K Hs' s vs xs
  | _, _, .nil => .nil
  | _, _, .cons a b => .cons (a.mono e) (b.mono e)
def relSA (K : PySem.W.Frag) (s : St) : Hp → Hp → Rho → List V → List Src → Prop := fun Hs _ _ v x => SrcAll K Hs s v x
def SndA (X : Cx) (W : WX) (es : List Expr) (ev : Ev (List Src)) : Prop := ∀ (Bs B Hs H : Hp) (s : St) (r : Rho) (Q : List V → Hp → Prop), EnvOk X.K Bs B Hs H s r →
  PostE X.K W Bs B Hs s (relSA X.K s) Q (ev r) → aA X es s H Q
def aNil : Ev (List Src) := fun r => .ok [] r
def aCons (oa : Ev Src) (as : Ev (List Src)) : Ev (List Src) := fun r => (oa r).bind fun x r1 => (as r1).bind fun xs r2 => .ok (x :: xs) r2
theorem sna_nil : SndA X W [] aNil := fun Bs B Hs H s r Q E q => ⟨_, pa_nil, q.ok E .nil⟩
theorem sna_cons {oa : Ev Src} {as : Ev (List Src)} (ha : SndO X W e oa) (hs : SndA X W es as) (hst : starEach (e :: es) X.env = (false, eval e X.env) :: starEach es X.env := by rfl) : SndA X W (e :: es) (aCons oa as) := fun Bs B Hs H s r Q E q =>
  ⟨_, pa_cons pe_all pa_all hst, ha _ _ _ _ _ _ _ E (PostE.bind q fun x r1 v Hs1 H1 _ x1 E1 ra q1 => hs _ _ _ _ _ _ _ E1 (PostE.bind q1 fun xs r2 vs Hs2 H2 _ x2 E2 rb q2 => q2.ok E2 (.cons (ra.mono x2) rb)))⟩
def relDA (K : PySem.W.Frag) : Hp → Hp → Rho → List V → List D → Prop := fun Hs _ _ v x => RpAll K Hs v x
def SndV (X : Cx) (W : WX) (es : List Expr) (ev : Ev (List D)) : Prop := ∀ (Bs B Hs H : Hp) (s : St) (r : Rho) (Q : List V → Hp → Prop), EnvOk X.K Bs B Hs H s r →
  PostE X.K W Bs B Hs s (relDA X.K) Q (ev r) → aA X es s H Q
def vNil : Ev (List D) := fun r => .ok [] r
def vCons (ea : Ev Rv) (as : Ev (List D)) : Ev (List D) := fun r => (ea r).bind fun x r1 => (as r1).bind fun xs r2 => .ok (x.data :: xs) r2
theorem snv_nil : SndV X W [] vNil := fun Bs B Hs H s r Q E q => ⟨_, pa_nil, q.ok E .nil⟩
theorem snv_cons {ea : Ev Rv} {as : Ev (List D)} (ha : SndE X W e ea) (hs : SndV X W es as) (hst : starEach (e :: es) X.env = (false, eval e X.env) :: starEach es X.env := by rfl) : SndV X W (e :: es) (vCons ea as) := fun Bs B Hs H s r Q E q =>
  ⟨_, pa_cons pe_all pa_all hst, ha _ _ _ _ _ _ _ E (PostE.bind q fun x r1 v Hs1 H1 _ x1 E1 ra q1 => by
    obtain ⟨Hs2, e2, E2, r2⟩ := RvAt.use E1 ra
    exact hs _ _ _ _ _ _ _ E2 (PostE.bind (q1.mono e2) fun xs r2' vs Hs3 H3 _ x3 E3 rb q3 => q3.ok E3 (.cons (r2.mono x3) rb)))⟩
/-- (a, b), [a, b] -/
def eTup (va : Ev (List D)) : Ev Rv := fun r => (va r).bind fun ds r1 => if ds.length ≤ sizeLine then .ok (.val (.tup ds)) r1 else .stuck
def eLst (va : Ev (List D)) : Ev Rv := fun r => (va r).bind fun ds r1 => if ds.length ≤ sizeLine then .ok (.new (.lst ds)) r1 else .stuck
/-- what stands in the heaps behind a step -/
theorem PostE.prim {K : PySem.W.Frag} {Bs B Hs H : Hp} {s : St} {r : Rho} {Q : VK} {x : Rv} (E : EnvOk K Bs B Hs H s r) (q : PostE K W Bs B Hs s (relR K B s) Q (.ok x r)) : PrimQ K Bs B Hs H s r Q x := fun v Hs' H' st rv => q v Hs' H' st.sh (E.step st) rv
theorem snd_tup {va : Ev (List D)} {x1} (h : SndV X W es va) : SndE X W (.Tuple es x1 pos) (eTup va) := fun Bs B Hs H s r Q E q =>
  ⟨_, pe_tup pa_all, h _ _ _ _ _ _ _ E (PostE.bind q fun ds r1 vs Hs1 H1 _ x1 E1 ra q1 => by
    have ra : RpAll X.K Hs1 vs ds := ra
    split at q1
    · exact ⟨by rw [ra.length]; assumption, fun p hp => (PostE.prim E1 q1).tup E1 ra hp⟩
    · exact False.elim q1)⟩
theorem snd_lst {va : Ev (List D)} (h : SndV X W es va) : SndE X W (.List es pos) (eLst va) := fun Bs B Hs H s r Q E q =>
  ⟨_, pe_lst pa_all, h _ _ _ _ _ _ _ E (PostE.bind q fun ds r1 vs Hs1 H1 _ x1 E1 ra q1 => by
    have ra : RpAll X.K Hs1 vs ds := ra
    split at q1
    · exact ⟨by rw [ra.length]; assumption, fun p hp => (PostE.prim E1 q1).lst E1 ra hp⟩
    · exact False.elim q1)⟩
end
end Mp
set_option Elab.async false
set_option linter.all false
set_option maxRecDepth 100000
namespace Mp
open PySem L2 Evl
/-! ### slots set -/
def cellOf : Rv → Cell
  | .val d => .val d
  | .new o => .own o
theorem EnvOk.setRv {K : PySem.W.Frag} {Bs B Hs H : Hp} {s : L2.St} {r : Rho} (E : EnvOk K Bs B Hs H s r) {v : V} {x : Rv} (h : RvAt K B Hs H s r v x) (i : Nat) : EnvOk K Bs B Hs H (s.set i (some v)) (r.set i (cellOf x)) := by
  have gs : ∀ (j : Nat), i ≠ j → (s.set i (some v))[j]? = s[j]? := fun j e => by rw [List.getElem?_set, if_neg e]
  have gr : ∀ (j : Nat), i ≠ j → (r.set i (cellOf x))[j]? = r[j]? := fun j e => by rw [List.getElem?_set, if_neg e]
  have at_i : ∀ c, (r.set i (cellOf x))[i]? = some c → c = cellOf x ∧ (s.set i (some v))[i]? = some (some v) := fun c h => by
    rw [List.getElem?_set, if_pos rfl] at h
    split at h
    · cases h
      refine ⟨rfl, ?_⟩
      rw [List.getElem?_set, if_pos rfl, if_pos (by rw [E.len]; assumption)]
    · cases h
  refine ⟨E.sub, E.ext1, E.ext2, E.ext3, by rw [List.length_set, List.length_set]; exact E.len, fun j d hj => ?_, fun j o hj => ?_, fun i' j' a oi oj ne h1 h2 h3 h4 => ?_⟩
  · by_cases e : i = j
    · subst e
      obtain ⟨e1, e2⟩ := at_i _ hj
      cases x with
      | val d' => cases e1; exact ⟨v, e2, h⟩
      | new o => cases e1
    · rw [gr j e] at hj; rw [gs j e]; exact E.val j d hj
  · by_cases e : i = j
    · subst e
      obtain ⟨e1, e2⟩ := at_i _ hj
      cases x with
      | val d' => cases e1
      | new o' =>
        cases e1
        obtain ⟨a, rfl, h1, h2, h3, h4⟩ := h
        exact ⟨a, e2, h1, h2, h3⟩
    · rw [gr j e] at hj; rw [gs j e]; exact E.own j o hj
  · by_cases e : i = i'
    · subst e
      obtain ⟨e1, e2⟩ := at_i _ h1
      cases x with
      | val d' => cases e1
      | new o' =>
        rw [e2] at h3
        cases h3
        have ej : i ≠ j' := ne
        rw [gr j' ej] at h2; rw [gs j' ej] at h4
        obtain ⟨_, e3, _, _, _, ap⟩ := h
        cases e3
        exact ap j' oj h2 h4
    · by_cases e' : i = j'
      · subst e'
        obtain ⟨e1, e2⟩ := at_i _ h2
        cases x with
        | val d' => cases e1
        | new o' =>
          rw [e2] at h4
          cases h4
          rw [gr i' e] at h1; rw [gs i' e] at h3
          obtain ⟨_, e3, _, _, _, ap⟩ := h
          cases e3
          exact ap i' oi h1 h3
      · rw [gr i' e] at h1; rw [gs i' e] at h3; rw [gr j' e'] at h2; rw [gs j' e'] at h4
        exact E.dis i' j' a oi oj ne h1 h2 h3 h4
/-! ### what a statement comes to -/
inductive SO where
  | stuck | nx (r : Rho) | ret (x : Rv) (r : Rho) | bk (r : Rho) | ct (r : Rho) | exc (x : Exn) (r : Rho)
abbrev Sv := Rho → SO
def EO.toS {A : Type} (m : EO A) (f : A → Rho → SO) : SO := match m with
  | .stuck => .stuck
  | .ok a r => f a r
  | .exc x r => .exc x r
def SO.then (m : SO) (f : Rho → SO) : SO := match m with
  | .nx r => f r
  | m => m
/-- the first parameter's slot is never stored anew (where z says so) -/
def Kz (z : Bool) (s s' : L2.St) : Prop := z = true → s'[0]? = s[0]?
theorem Kz.refl {z : Bool} (s : L2.St) : Kz z s s := fun _ => rfl
theorem Kz.trans {z : Bool} {a b c : L2.St} (h : Kz z a b) (k : Kz z b c) : Kz z a c := fun e => (k e).trans (h e)
theorem Kz.set {z : Bool} {s : L2.St} {i : Nat} {x : Option V} (h : z = true → i ≠ 0) : Kz z s (s.set i x) := fun e => by
  rw [List.getElem?_set, if_neg (h e)]
def PostS (K : PySem.W.Frag) (W : WX) (z : Bool) (Bs B Hs : Hp) (s0 : L2.St) (D : Ends) : SO → Prop
  | .stuck => False
  | .nx r => ∀ s Hs' H', Kz z s0 s → Ex Hs Hs' → EnvOk K Bs B Hs' H' s r → D.nx s H'
  | .ret x r => ∀ v s Hs' H', Kz z s0 s → Ex Hs Hs' → EnvOk K Bs B Hs' H' s r → RvAt K B Hs' H' s r v x → D.rt v H'
  | .bk r => ∀ s Hs' H', Kz z s0 s → Ex Hs Hs' → EnvOk K Bs B Hs' H' s r → D.bk s H'
  | .ct r => ∀ s Hs' H', Kz z s0 s → Ex Hs Hs' → EnvOk K Bs B Hs' H' s r → D.ct s H'
  | .exc x r => ∀ cls d s Hs' H', Kz z s0 s → Ex Hs Hs' → EnvOk K Bs B Hs' H' s r → ExAt K Hs' H' cls d x → W cls d s H'
section
variable {K : PySem.W.Frag} {W : WX} {z : Bool} {Bs B Hs Hs' H : Hp} {D D' : Ends} {s s1 : L2.St} {r : Rho}
theorem PostS.mono {m : SO} (e : Ex Hs Hs') (h : PostS K W z Bs B Hs s D m) : PostS K W z Bs B Hs' s D m := by
  cases m with
  | stuck => exact h
  | nx r => exact fun s H1 H2 k e1 => h s H1 H2 k (e.trans e1)
  | ret x r => exact fun v s H1 H2 k e1 => h v s H1 H2 k (e.trans e1)
  | bk r => exact fun s H1 H2 k e1 => h s H1 H2 k (e.trans e1)
  | ct r => exact fun s H1 H2 k e1 => h s H1 H2 k (e.trans e1)
  | exc x r => exact fun c d s H1 H2 k e1 => h c d s H1 H2 k (e.trans e1)
theorem PostS.on {m : SO} (k : Kz z s s1) (h : PostS K W z Bs B Hs s D m) : PostS K W z Bs B Hs s1 D m := by
  cases m with
  | stuck => exact h
  | nx r => exact fun s H1 H2 k1 e1 => h s H1 H2 (k.trans k1) e1
  | ret x r => exact fun v s H1 H2 k1 e1 => h v s H1 H2 (k.trans k1) e1
  | bk r => exact fun s H1 H2 k1 e1 => h s H1 H2 (k.trans k1) e1
  | ct r => exact fun s H1 H2 k1 e1 => h s H1 H2 (k.trans k1) e1
  | exc x r => exact fun c d s H1 H2 k1 e1 => h c d s H1 H2 (k.trans k1) e1
theorem PostS.then {m : SO} {f : Rho → SO} {N : L2.St → Hp → Prop} (h : PostS K W z Bs B Hs s D (m.then f)) (k : ∀ r' s' Hs' H', Kz z s s' → Ex Hs Hs' → EnvOk K Bs B Hs' H' s' r' → PostS K W z Bs B Hs' s' D (f r') → N s' H') : PostS K W z Bs B Hs s { D with nx := N } m := by
  cases m with
  | stuck => exact h
  | nx r => exact fun s' H1 H2 k1 e1 E => k r s' H1 H2 k1 e1 E (PostS.on k1 (PostS.mono e1 h))
  | ret x r => exact h
  | bk r => exact h
  | ct r => exact h
  | exc x r => exact h
theorem PostS.toS {A Y : Type} {Rel : Hp → Hp → Rho → Y → A → Prop} {Q : Y → Hp → Prop} {m : EO A} {f : A → Rho → SO} (h : PostS K W z Bs B Hs s D (m.toS f))
    (k : ∀ a r' y Hs' H', Ex Hs Hs' → EnvOk K Bs B Hs' H' s r' → Rel Hs' H' r' y a → PostS K W z Bs B Hs' s D (f a r') → Q y H') : PostE K W Bs B Hs s Rel Q m := by
  cases m with
  | stuck => exact h
  | ok a r' => exact fun y Hs' H' e E ra => k a r' y Hs' H' e E ra (PostS.mono e h)
  | exc x r' => exact fun c d Hs' H' e E => h c d s Hs' H' (Kz.refl _) e E
theorem PostS.nx (E : EnvOk K Bs B Hs H s r) (h : PostS K W z Bs B Hs s D (.nx r)) : D.nx s H := h s Hs H (Kz.refl _) (Ex.refl _) E
theorem PostS.nx' (k : Kz z s s1) (E : EnvOk K Bs B Hs H s1 r) (h : PostS K W z Bs B Hs s D (.nx r)) : D.nx s1 H := h s1 Hs H k (Ex.refl _) E
end
def SndS (X : Cx) (W : WX) (z : Bool) (st : Stmt) (sv : Sv) : Prop := ∀ (Bs B Hs H : Hp) (s : L2.St) (r : Rho) (D : Ends), EnvOk X.K Bs B Hs H s r → PostS X.K W z Bs B Hs s D (sv r) → aS X st D s H
def SndSs (X : Cx) (W : WX) (z : Bool) (st : List Stmt) (sv : Sv) : Prop := ∀ (Bs B Hs H : Hp) (s : L2.St) (r : Rho) (D : Ends), EnvOk X.K Bs B Hs H s r → PostS X.K W z Bs B Hs s D (sv r) → aSs X st D s H
/-! ### targets that take data -/
def aG (X : Cx) (tg : Expr) : TG := fun v s H Q => ∃ t, PG X tg t ∧ t v s H Q
theorem pg_all {X : Cx} {tg : Expr} : PG X tg (aG X tg) := ⟨fun pins s σ H v u Q I rv ⟨t, h, q⟩ => h.run pins s σ H v u Q I rv q⟩
abbrev Tg := D → Rho → Option Rho
/-- the slots `is` alone may differ -/
def Alike (is : List Nat) (s s' : L2.St) : Prop := ∀ vs : List Nat, (∀ i ∈ is, i ∈ vs) → L2.wipe s' vs = L2.wipe s vs
def SndG (X : Cx) (tg : Expr) (g : Tg) (is : List Nat) : Prop := ∀ (Bs B Hs H : Hp) (s : L2.St) (r r' : Rho) (v : V) (d : D) (Q : L2.St → Hp → Prop), EnvOk X.K Bs B Hs H s r → Rp X.K Hs v d → g d r = some r' → (∀ s' H', Alike is s s' → EnvOk X.K Bs B Hs H' s' r' → Q s' H') → aG X tg v s H Q
theorem wipe_get (s : L2.St) (i : Nat) : ∀ vs : List Nat, i ∉ vs → (L2.wipe s vs)[i]? = s[i]?
  | [], _ => rfl
  | v :: vs, h => by
    have h1 : v ≠ i := fun e => h (by rw [e]; exact List.mem_cons_self)
    show ((L2.wipe s vs).set v none)[i]? = _
    rw [List.getElem?_set, if_neg h1]
    exact wipe_get s i vs fun z => h (List.mem_cons_of_mem _ z)
theorem wipe_in (s : L2.St) (j : Nat) : ∀ vs : List Nat, j ∈ vs → (L2.wipe s vs)[j]? = if j < s.length then some none else none
  | [], h => by simp at h
  | v :: vs, hj => by
    show ((L2.wipe s vs).set v none)[j]? = _
    rw [List.getElem?_set]
    by_cases h1 : v = j
    · subst h1; rw [if_pos rfl, wipe_length]
    · rw [if_neg h1]
      rcases List.mem_cons.mp hj with rfl | hj
      · exact absurd rfl h1
      · exact wipe_in s j vs hj
theorem Alike.refl (is : List Nat) (s : L2.St) : Alike is s s := fun _ _ => rfl
theorem Alike.set {is : List Nat} {i : Nat} (h : i ∈ is) (s : L2.St) (x : Option V) : Alike is s (s.set i x) := fun vs hv => by
  apply List.ext_getElem?
  intro j
  by_cases hj : j ∈ vs
  · rw [wipe_in _ j vs hj, wipe_in _ j vs hj, List.length_set]
  · rw [wipe_get _ j vs hj, wipe_get _ j vs hj, List.getElem?_set, if_neg]
    rintro rfl; exact hj (hv i h)
theorem Alike.trans {is : List Nat} {a b c : L2.St} (h1 : Alike is a b) (h2 : Alike is b c) : Alike is a c := fun vs hv => (h2 vs hv).trans (h1 vs hv)
theorem Alike.sub {is js : List Nat} {a b : L2.St} (h : Alike is a b) (k : ∀ i ∈ is, i ∈ js) : Alike js a b := fun vs hv => h vs fun i hi => hv i (k i hi)
theorem wipe_idem (s : L2.St) (vs : List Nat) : L2.wipe (L2.wipe s vs) vs = L2.wipe s vs := by
  apply List.ext_getElem?
  intro j
  by_cases hj : j ∈ vs
  · rw [wipe_in _ j vs hj, wipe_in _ j vs hj, wipe_length]
  · rw [wipe_get _ j vs hj]
def gN (i : Nat) : Tg := fun d r => some (r.set i (.val d))
section
variable {X : Cx} {W : WX} {tg : Expr} {pos : Pos}
theorem sng_n {i : Nat} (h : PG X tg (gName i)) : SndG X tg (gN i) [i] := fun Bs B Hs H s r r' v d Q E hv e q => by
  cases e
  exact ⟨_, h, q _ _ (.set (by simp) _ _) (E.setRv (x := .val d) hv i)⟩
/-- several names -/
inductive NmOk (X : Cx) : List Expr → List Nat → Prop
  | nil : NmOk X [] []
  | cons {e : Expr} {es : List Expr} {i : Nat} {is : List Nat} : PG X e (gName i) → (assignEach (e :: es) X.env).map (·.2) = assign e X.env :: (assignEach es X.env).map (·.2) → NmOk X es is → NmOk X (e :: es) (i :: is)
def gNs : List Nat → TGs
  | [] => gNil
  | i :: is => gCons (gName i) (gNs is)
theorem NmOk.pgs : ∀ {es : List Expr} {is : List Nat}, NmOk X es is → PGs X es (gNs is)
  | _, _, .nil => pgs_nil
  | _, _, .cons h h2 r => pgs_cons h r.pgs h2
theorem NmOk.len : ∀ {es : List Expr} {is : List Nat}, NmOk X es is → es.length = is.length
  | _, _, .nil => rfl
  | _, _, .cons h h2 r => congrArg (· + 1) r.len
/-- targets one after another -/
def gSeq : List Tg → List D → Rho → Option Rho
  | [], [], r => some r
  | g :: gs, d :: ds, r => match g d r with
    | some r' => gSeq gs ds r'
    | none => none
  | _, _, _ => none
def gT (gs : List Tg) : Tg := fun d r => match d with
  | .tup ds => gSeq gs ds r
  | _ => none
def aGs (X : Cx) (ts : List Expr) : TGs := fun vs s H Q => ∃ t, PGs X ts t ∧ t vs s H Q
theorem pgs_all {ts : List Expr} : PGs X ts (aGs X ts) := ⟨fun pins s σ H v u Q I rv ⟨t, h, q⟩ => h.run pins s σ H v u Q I rv q⟩
def SndGs (X : Cx) (ts : List Expr) (gs : List Tg) (is : List Nat) : Prop := ∀ (Bs B Hs H : Hp) (s : L2.St) (r r' : Rho) (vs : List V) (ds : List D) (Q : L2.St → Hp → Prop), EnvOk X.K Bs B Hs H s r → RpAll X.K Hs vs ds → gSeq gs ds r = some r' → (∀ s' H', Alike is s s' → EnvOk X.K Bs B Hs H' s' r' → Q s' H') → aGs X ts vs s H Q
theorem sngs_nil : SndGs X [] [] [] := fun Bs B Hs H s r r' vs ds Q E hv e q => by
  cases ds with
  | nil => cases hv; cases e; exact ⟨_, pgs_nil, rfl, q _ _ (.refl _ _) E⟩
  | cons _ _ => cases e
theorem sngs_cons {t : Expr} {ts : List Expr} {g : Tg} {gs : List Tg} {is js : List Nat} (h : SndG X t g is) (hs : SndGs X ts gs js) (h2 : (assignEach (t :: ts) X.env).map (·.2) = assign t X.env :: (assignEach ts X.env).map (·.2) := by rfl) : SndGs X (t :: ts) (g :: gs) (is ++ js) := fun Bs B Hs H s r r' vs ds Q E hv e q => by
  cases hv with
  | nil => cases e
  | cons a b =>
    unfold gSeq at e
    split at e
    · rename_i r1 hr1
      exact ⟨_, pgs_cons pg_all pgs_all h2, _, _, rfl, h _ _ _ _ _ _ _ _ _ _ E a hr1 fun s1 H1 al E1 => hs _ _ _ _ _ _ _ _ _ _ E1 b e fun s2 H2 al2 E2 => q s2 H2 ((al.sub fun j hj => List.mem_append_left _ hj).trans (al2.sub fun j hj => List.mem_append_right _ hj)) E2⟩
    · cases e
theorem gSeq_len : ∀ {gs : List Tg} {ds : List D} {r r' : Rho}, gSeq gs ds r = some r' → ds.length = gs.length
  | [], [], _, _, _ => rfl
  | [], _ :: _, _, _, h => by cases h
  | _ :: _, [], _, _, h => by cases h
  | g :: gs, d :: ds, r, r', h => by
    unfold gSeq at h
    split at h
    · exact congrArg (· + 1) (gSeq_len h)
    · cases h
theorem sng_t {es : List Expr} {gs : List Tg} {is : List Nat} {k : Nat} (hc : X.calm = true) (h : SndGs X es gs is) (hn : (assignEach es X.env).length = gs.length := by rfl) (hst : (assignEach es X.env).findIdx? (·.1) = none := by rfl) : SndG X (.Tuple es k pos) (gT gs) is := fun Bs B Hs H s r r' v d Q E hv e q => by
  unfold gT at e
  split at e
  · rename_i ds
    have hl := gSeq_len e
    cases hv with
    | tup h1 h2 => exact ⟨_, pg_tup hc pgs_all hn hst, _, _, rfl, st_of (E.sub _ _ h1), by rw [h2.length]; exact hl, h _ _ _ _ _ _ _ _ _ _ E h2 e q⟩
  · cases e
end
section
variable {X : Cx} {W : WX} {z : Bool} {e : Expr} {pos : Pos} {st : Stmt} {sts : List Stmt}
theorem Kz.fold {s : L2.St} {is : List Nat} (h : z = true → 0 ∉ is) : ∀ {vs : List V}, Kz z s ((is.zip vs).foldl (fun s p => s.set p.1 (some p.2)) s) := by
  induction is generalizing s with
  | nil => exact Kz.refl _
  | cons i is ih =>
    intro vs
    cases vs with
    | nil => exact Kz.refl _
    | cons v vs => exact (Kz.set (fun e z => h e (by rw [z]; exact List.mem_cons_self))).trans (ih (s := s.set i (some v)) fun e z => h e (List.mem_cons_of_mem _ z))
theorem Alike.kz {is : List Nat} {s s' : L2.St} (al : Alike is s s') (h : z = true → 0 ∉ is) : Kz z s s' := fun e => by
  have := congrArg (·[0]?) (al is fun i hi => hi)
  rw [wipe_get _ 0 is (h e), wipe_get _ 0 is (h e)] at this
  exact this
/-! ### blocks -/
def sNil : Sv := fun r => .nx r
def sCons (a b : Sv) : Sv := fun r => (a r).then b
theorem sns_nil : SndSs X W z [] sNil := fun Bs B Hs H s r D E q => ⟨_, pss_nil, q.nx E⟩
theorem sns_cons {a b : Sv} (ha : SndS X W z st a) (hb : SndSs X W z sts b) : SndSs X W z (st :: sts) (sCons a b) := fun Bs B Hs H s r D E q =>
  ⟨_, pss_cons ps_all pss_all, ha Bs B Hs H s r _ E (PostS.then q fun r' s' Hs' H' _ e E' q' => hb Bs B Hs' H' s' r' D E' q')⟩
theorem sns_one {a : Sv} (ha : SndS X W z st a) : SndSs X W z [st] a := fun Bs B Hs H s r D E q => ⟨_, pss_one ps_all, ha Bs B Hs H s r D E q⟩
theorem sns_pass : SndS X W z (.Pass pos) sNil := fun Bs B Hs H s r D E q => ⟨_, ps_pass, q.nx E⟩
def sBk : Sv := fun r => .bk r
def sCt : Sv := fun r => .ct r
theorem sns_break : SndS X W z (.Break pos) sBk := fun Bs B Hs H s r D E q => ⟨_, ps_break, q s Hs H (Kz.refl _) (Ex.refl _) E⟩
theorem sns_continue : SndS X W z (.Continue pos) sCt := fun Bs B Hs H s r D E q => ⟨_, ps_continue, q s Hs H (Kz.refl _) (Ex.refl _) E⟩
def sDrop (ev : Ev Rv) : Sv := fun r => (ev r).toS fun _ r => .nx r
theorem sns_expr {ev : Ev Rv} (h : SndE X W e ev) (hs : swapsWith e none pos.line X.env = pure false := by rfl) : SndS X W z (.Expr e pos) (sDrop ev) := fun Bs B Hs H s r D E q =>
  ⟨_, ps_expr pe_all hs, h _ _ _ _ _ _ _ E (PostS.toS q fun x r' v Hs' H' e1 E1 ra q1 => q1.nx E1)⟩
def sRet (ev : Ev Rv) : Sv := fun r => (ev r).toS fun x r => .ret x r
theorem sns_ret {ev : Ev Rv} (h : SndE X W e ev) : SndS X W z (.Return (some e) pos) (sRet ev) := fun Bs B Hs H s r D E q =>
  ⟨_, ps_ret pe_all, h _ _ _ _ _ _ _ E (PostS.toS q fun x r' v Hs' H' e1 E1 ra q1 => q1 v s Hs' H' (Kz.refl _) (Ex.refl _) E1 ra)⟩
def sRetN : Sv := fun r => .ret (.val .non) r
theorem sns_retN : SndS X W z (.Return none pos) sRetN := fun Bs B Hs H s r D E q => ⟨_, ps_retN, q .non s Hs H (Kz.refl _) (Ex.refl _) E .non⟩
def sIf (t : Ev Bool) (a b : Sv) : Sv := fun r => (t r).toS fun k r => if k then a r else b r
theorem sns_if {c : Expr} {ba bb : List Stmt} {t : Ev Bool} {a b : Sv} (hc : SndT X W c t) (ha : SndSs X W z ba a) (hb : SndSs X W z bb b) : SndS X W z (.If c ba bb pos) (sIf t a b) := fun Bs B Hs H s r D E q =>
  ⟨_, ps_if pt_all pss_all pss_all, hc _ _ _ _ _ _ _ E (PostS.toS q fun k r' k' Hs' H' e1 E1 ra q1 => by
    have ra : k' = k := ra
    subst ra
    cases k' with
    | true => rw [if_pos rfl] at q1 ⊢; exact ha _ _ _ _ _ _ _ E1 q1
    | false => rw [if_neg Bool.false_ne_true] at q1 ⊢; exact hb _ _ _ _ _ _ _ E1 q1)⟩
/-! ### stores -/
def sSet (i : Nat) (ev : Ev Rv) : Sv := fun r => (ev r).toS fun x r => .nx (r.set i (cellOf x))
theorem sns_set {i : Nat} {x : Str} {pos' : Pos} {ev : Ev Rv} (h : SndE X W e ev) (hz : z = true → i ≠ 0) (hN : X.N.Nodup) (hi : X.N[i]? = some x) (hx : Loc X.env.scope x) (hs : swapsWith e (some (.Name x pos')) pos.line X.env = pure false := by rfl)
    (hf : X.fn x = true ∨ X.env.scope.names.lookup x = some .local := by first | exact .inl rfl | exact .inr rfl | assumption) : SndS X W z (.Assign [.Name x pos'] e pos) (sSet i ev) := fun Bs B Hs H s r D E q =>
  ⟨_, ps_set hN hi hx pe_all hs hf, h _ _ _ _ _ _ _ E (PostS.toS q fun x r' v Hs' H' e1 E1 ra q1 => q1.nx' (Kz.set hz) (E1.setRv ra i))⟩
/-- target = e, e as data -/
def sTgt (g : Tg) (ev : Ev Rv) : Sv := fun r => (ev r).toS fun x r => match g x.data r with
  | some r' => .nx r'
  | none => .stuck
theorem sns_tgt {tg : Expr} {g : Tg} {is : List Nat} {ev : Ev Rv} (h : SndE X W e ev) (hg : SndG X tg g is) (hz : z = true → 0 ∉ is) (hs : swapsWithSole [tg] e pos.line X.env = pure false := by rfl) (hw : swappedStores [tg] e X.env = pure none := by rfl)
    (h1 : (assignEach [tg] X.env).map (·.2) = [assign tg X.env] := by rfl) : SndS X W z (.Assign [tg] e pos) (sTgt g ev) := fun Bs B Hs H s r D E q =>
  ⟨_, ps_asg pe_all pg_all hs hw h1, h _ _ _ _ _ _ _ E (PostS.toS q fun x r' v Hs' H' e1 E1 ra q1 => by
    obtain ⟨Hs2, e2, E2, r2⟩ := RvAt.use E1 ra
    split at q1
    · rename_i r2' hg'
      exact hg _ _ _ _ _ _ _ _ _ _ E2 r2 hg' fun s' H3 al E3 => q1 s' Hs2 H3 (Alike.kz al hz) e2 E3
    · exact False.elim q1)⟩
/-! ### several expressions whose news stay apart -/
inductive RvAll (K : PySem.W.Frag) (Hs H : Hp) (s : L2.St) (r : Rho) : Hp → List V → List Rv → Prop
  | nil {B : Hp} : RvAll K Hs H s r B [] []
  | val {B : Hp} {v : V} {d : D} {vs : List V} {xs : List Rv} : Rp K Hs v d → RvAll K Hs H s r B vs xs → RvAll K Hs H s r B (v :: vs) (.val d :: xs)
  | new {B : Hp} {a : Addr} {o : Own} {u : HO} {vs : List V} {xs : List Rv} : Hs a = none → B a = none → H a = some u → OwnAt K Hs H a o → (∀ (i : Nat) oi, r[i]? = some (.own oi) → s[i]? ≠ some (some (.ref a))) → RvAll K Hs H s r (upd B a u) vs xs → RvAll K Hs H s r B (.ref a :: vs) (.new o :: xs)
def relL (K : PySem.W.Frag) (B : Hp) (s : L2.St) : Hp → Hp → Rho → List V → List Rv → Prop := fun Hs H r vs xs => RvAll K Hs H s r B vs xs
def SndL (X : Cx) (W : WX) (es : List Expr) (ev : Ev (List Rv)) : Prop := ∀ (Bs B Hs H : Hp) (s : L2.St) (r : Rho) (Q : List V → Hp → Prop), EnvOk X.K Bs B Hs H s r →
  PostE X.K W Bs B Hs s (relL X.K B s) Q (ev r) → aA X es s H Q
def lNil : Ev (List Rv) := fun r => .ok [] r
def lCons (ea : Ev Rv) (as : Ev (List Rv)) : Ev (List Rv) := fun r => (ea r).bind fun x r1 => (as r1).bind fun xs r2 => .ok (x :: xs) r2
theorem snl_nil : SndL X W [] lNil := fun Bs B Hs H s r Q E q => ⟨_, pa_nil, q.ok E .nil⟩
/-- an object of nobody's is taken for one of the surroundings' -/
theorem EnvOk.more {K : PySem.W.Frag} {Bs B Hs H : Hp} {s : L2.St} {r : Rho} (E : EnvOk K Bs B Hs H s r) {a : Addr} {u : HO} (hs : Hs a = none) (hH : H a = some u) (ap : ∀ (i : Nat) oi, r[i]? = some (.own oi) → s[i]? ≠ some (some (.ref a))) : EnvOk K Bs (upd B a u) Hs H s r := by
  have hbs : Bs a = none := fresh_back E.ext1 hs
  refine ⟨E.sub, E.ext1, fun b o h n => ?_, fun b o h => ?_, E.len, E.val, fun i o h => ?_, E.dis⟩
  · by_cases e : b = a
    · subst e; rw [upd_same] at h; cases h; exact ⟨fun _ => hs, hH⟩
    · rw [upd_ne e] at h; exact E.ext2 b o h n
  · have e : b ≠ a := ne_of_none h hbs
    rw [upd_ne e]; exact E.ext3 b o h
  · obtain ⟨x, h1, h2, h3, h4⟩ := E.own i o h
    have e : x ≠ a := by rintro rfl; exact ap i o h h1
    exact ⟨x, h1, h2, by rw [upd_ne e]; exact h3, h4⟩
theorem EnvOk.less {K : PySem.W.Frag} {Bs B Hs H : Hp} {s : L2.St} {r : Rho} {a : Addr} {u : HO} (E : EnvOk K Bs (upd B a u) Hs H s r) (hB : B a = none) (hbs : Bs a = none) : EnvOk K Bs B Hs H s r := by
  refine ⟨E.sub, E.ext1, fun b o h n => ?_, fun b o h => ?_, E.len, E.val, fun i o h => ?_, E.dis⟩
  · have e : b ≠ a := ne_of_none h hB
    exact E.ext2 b o (by rw [upd_ne e]; exact h) n
  · have e : b ≠ a := ne_of_none h hbs
    have := E.ext3 b o h
    rw [upd_ne e] at this; exact this
  · obtain ⟨x, h1, h2, h3, h4⟩ := E.own i o h
    have e : x ≠ a := by rintro rfl; rw [upd_same] at h3; cases h3
    exact ⟨x, h1, h2, by rw [upd_ne e] at h3; exact h3, h4⟩
theorem snl_cons {es : List Expr} {ea : Ev Rv} {as : Ev (List Rv)} (ha : SndE X W e ea) (hs : SndL X W es as) (hst : starEach (e :: es) X.env = (false, eval e X.env) :: starEach es X.env := by rfl) : SndL X W (e :: es) (lCons ea as) := fun Bs B Hs H s r Q E q =>
  ⟨_, pa_cons pe_all pa_all hst, ha _ _ _ _ _ _ _ E (PostE.bind q fun x r1 v Hs1 H1 _ x1 E1 ra q1 => by
    cases x with
    | val d => exact hs _ _ _ _ _ _ _ E1 (PostE.bind q1 fun xs r2 vs Hs2 H2 _ x2 E2 rb q2 => q2.ok E2 (.val (Rp.mono x2 ra) rb))
    | new o =>
      obtain ⟨a, rfl, h1, h2, h3, h4⟩ := ra
      obtain ⟨u, hu⟩ := h3.here
      have hbs : Bs a = none := fresh_back E1.ext1 h1
      have key := hs Bs (upd B a u) Hs1 H1 s r1 (fun vs H' => Q (.ref a :: vs) H') (E1.more h1 hu h4)
      refine key ?_
      cases hm : as r1 with
      | stuck => rw [hm] at q1; exact q1
      | exc y r2 =>
        rw [hm] at q1
        exact fun c d Hs2 H2 e2 E2 => q1 c d Hs2 H2 e2 (E2.less h2 hbs)
      | ok xs r2 =>
        rw [hm] at q1
        intro vs Hs2 H2 e2 E2 rb
        obtain ⟨n2', k2⟩ := E2.ext2 a u upd_same hbs
        have n2 := n2' (h3.nt hu)
        refine q1 (.ref a :: vs) Hs2 H2 e2 (E2.less h2 hbs) (.new n2 h2 k2 (h3.mono e2 (by rw [k2, hu])) (fun i oi hi z => ?_) rb)
        obtain ⟨y, g1, g2, g3, g4⟩ := E2.own i oi hi
        rw [g1] at z; cases z
        rw [upd_same] at g3; cases g3)⟩
def sPar (is : List Nat) (la : Ev (List Rv)) : Sv := fun r => (la r).toS fun xs r => if xs.length = is.length then .nx ((is.zip xs).foldl (fun r p => r.set p.1 (cellOf p.2)) r) else .stuck
/-- storing one after another, the later news being of the surroundings -/
theorem RvAll.mono {K : PySem.W.Frag} {Hs H : Hp} {s s' : L2.St} {r r' : Rho} : ∀ {B : Hp} {vs : List V} {xs : List Rv}, (∀ (a : Addr), B a = none → (∀ (i : Nat) oi, r[i]? = some (.own oi) → s[i]? ≠ some (some (.ref a))) → ∀ (i : Nat) oi, r'[i]? = some (.own oi) → s'[i]? ≠ some (some (.ref a))) → RvAll K Hs H s r B vs xs → RvAll K Hs H s' r' B vs xs
  | _, _, _, _, .nil => .nil
  | _, _, _, k, .val a b => .val a (b.mono k)
  | B, _, _, k, .new (a := a) (u := u) h1 h2 h3 h4 h5 b => .new h1 h2 h3 h4 (k a h2 h5) (b.mono fun c hc h => k c (by
      by_cases e : c = a
      · subst e; rw [upd_same] at hc; cases hc
      · rw [upd_ne e] at hc; exact hc) h)
theorem RvAll.setAll {K : PySem.W.Frag} {Bs Hs H : Hp} : ∀ {is : List Nat} {vs : List V} {xs : List Rv} {B : Hp} {s : L2.St} {r : Rho}, EnvOk K Bs B Hs H s r → RvAll K Hs H s r B vs xs → xs.length = is.length →
    EnvOk K Bs B Hs H ((is.zip vs).foldl (fun s p => s.set p.1 (some p.2)) s) ((is.zip xs).foldl (fun r p => r.set p.1 (cellOf p.2)) r)
  | [], _, _, _, _, _, E, .nil, _ => E
  | [], _, _, _, _, _, _, .val _ _, h => by simp at h
  | [], _, _, _, _, _, _, .new _ _ _ _ _ _, h => by simp at h
  | _ :: _, _, _, _, _, _, _, .nil, h => by simp at h
  | i :: is, _, _, B, s, r, E, .val (v := v) (d := d) a b, h => by
    have E1 := E.setRv (x := .val d) a i
    refine RvAll.setAll (is := is) E1 (b.mono fun c hc ap j oj hj z => ?_) (by simpa using h)
    by_cases e : i = j
    · subst e
      simp only [cellOf] at hj
      rw [List.getElem?_set, if_pos rfl] at hj
      split at hj <;> cases hj
    · rw [List.getElem?_set, if_neg e] at hj z
      exact ap j oj hj z
  | i :: is, _, _, B, s, r, E, .new (a := a) (o := o) (u := u) (vs := vs) (xs := xs) h1 h2 h3 h4 h5 b, h => by
    have hbs : Bs a = none := fresh_back E.ext1 h1
    -- first the later ones, a being of the surroundings; told by storing a first
    have E1 := E.setRv (x := .new o) ⟨a, rfl, h1, h2, h4, h5⟩ i
    refine RvAll.setAll (is := is) E1 ?_ (by simpa using h)
    have low : ∀ {B' : Hp} {vs : List V} {xs : List Rv}, (∀ c, B' c = none → B c = none ∧ c ≠ a) → RvAll K Hs H s r B' vs xs → RvAll K Hs H (s.set i (some (.ref a))) (r.set i (cellOf (.new o))) B' vs xs := fun {B' vs xs} hb' b' => b'.mono fun c hc ap j oj hj z => by
      by_cases e : i = j
      · subst e
        have hlt : i < s.length := by
          by_cases hl : i < s.length
          · exact hl
          · rw [List.getElem?_set, if_pos rfl, if_neg hl] at z; cases z
        rw [List.getElem?_set, if_pos rfl, if_pos hlt] at z
        cases z
        exact (hb' _ hc).2 rfl
      · rw [List.getElem?_set, if_neg e] at hj z
        exact ap j oj hj z
    have b1 := low (fun c hc => by
      by_cases e : c = a
      · subst e; rw [upd_same] at hc; cases hc
      · rw [upd_ne e] at hc; exact ⟨hc, e⟩) b
    -- from upd B a u down to B
    have down : ∀ {B1 B2 : Hp} {vs : List V} {xs : List Rv} {s' : L2.St} {r' : Rho}, (∀ c, B1 c = none → B2 c = none) → RvAll K Hs H s' r' B1 vs xs → RvAll K Hs H s' r' B2 vs xs := by
      intro B1 B2 vs xs s' r' hb hh
      induction hh generalizing B2 with
      | nil => exact .nil
      | val a b ih => exact .val a (ih hb)
      | new g1 g2 g3 g4 g5 b ih =>
        rename_i B1' a' o' u' vs' xs'
        refine .new g1 (hb _ g2) g3 g4 g5 (ih fun c hc => ?_)
        by_cases e : c = a'
        · subst e; rw [upd_same] at hc; cases hc
        · rw [upd_ne e] at hc ⊢; exact hb c hc
    exact down (fun c hc => by
      by_cases e : c = a
      · subst e; rw [upd_same] at hc; cases hc
      · rw [upd_ne e] at hc; exact hc) b1
theorem sns_par2 {i j : Nat} {x y : Str} {a b : Expr} {px py pt : Pos} {kt k2 pt2} {la : Ev (List Rv)} (hl : SndL X W [a, b] la) (hz0 : z = true → 0 ∉ [i, j]) (hc : X.calm = true) (hN : X.N.Nodup) (hi : X.N[i]? = some x) (hj : X.N[j]? = some y) (hij : i ≠ j)
    (hx : X.env.scope.names.lookup x = some .local) (hy : X.env.scope.names.lookup y = some .local) (hw : swappedStores [.Tuple [.Name x px, .Name y py] kt pt] (.Tuple [a, b] k2 pt2) X.env = pure (some [x, y]))
    (hs : swapsWithSole [.Tuple [.Name x px, .Name y py] kt pt] (.Tuple [a, b] k2 pt2) pos.line X.env = pure false := by rfl) :
    SndS X W z (.Assign [.Tuple [.Name x px, .Name y py] kt pt] (.Tuple [a, b] k2 pt2) pos) (sPar [i, j] la) := fun Bs B Hs H s r D E q =>
  ⟨_, ps_par hc hN hi hj hij hx hy pa_all hw hs, hl _ _ _ _ _ _ _ E (PostS.toS q fun xs r' vs Hs' H' e1 E1 ra q1 => by
    have ra : RvAll X.K Hs' H' s r' B vs xs := ra
    split at q1
    · rename_i hlen
      have E2 := RvAll.setAll (is := [i, j]) E1 ra hlen
      have hv : ∃ v w, vs = [v, w] := by
        match xs, hlen, ra with
        | [_, _], _, ra => cases ra <;> (rename_i ra; cases ra <;> (rename_i ra; cases ra; exact ⟨_, _, rfl⟩))
      obtain ⟨v, w, rfl⟩ := hv
      exact ⟨v, w, rfl, q1.nx' (Kz.fold (is := [i, j]) (vs := [v, w]) hz0) E2⟩
    · exact False.elim q1)⟩
theorem sns_par3 {i j l : Nat} {x y y3 : Str} {a b c : Expr} {px py pz pt : Pos} {kt k2 pt2} {la : Ev (List Rv)} (ha : SndL X W [a, b, c] la) (hz0 : z = true → 0 ∉ [i, j, l]) (hc : X.calm = true) (hN : X.N.Nodup) (hi : X.N[i]? = some x) (hj : X.N[j]? = some y) (hl : X.N[l]? = some y3) (hij : i ≠ j) (hil : i ≠ l) (hjl : j ≠ l)
    (hx : X.env.scope.names.lookup x = some .local) (hy : X.env.scope.names.lookup y = some .local) (hz : X.env.scope.names.lookup y3 = some .local)
    (hw : swappedStores [.Tuple [.Name x px, .Name y py, .Name y3 pz] kt pt] (.Tuple [a, b, c] k2 pt2) X.env = pure (some [x, y, y3]))
    (hs : swapsWithSole [.Tuple [.Name x px, .Name y py, .Name y3 pz] kt pt] (.Tuple [a, b, c] k2 pt2) pos.line X.env = pure false := by rfl) :
    SndS X W z (.Assign [.Tuple [.Name x px, .Name y py, .Name y3 pz] kt pt] (.Tuple [a, b, c] k2 pt2) pos) (sPar [i, j, l] la) := fun Bs B Hs H s r D E q =>
  ⟨_, ps_par3 hc hN hi hj hl hij hil hjl hx hy hz pa_all hw hs, ha _ _ _ _ _ _ _ E (PostS.toS q fun xs r' vs Hs' H' e1 E1 ra q1 => by
    have ra : RvAll X.K Hs' H' s r' B vs xs := ra
    split at q1
    · rename_i hlen
      have E2 := RvAll.setAll (is := [i, j, l]) E1 ra hlen
      have hv : ∃ u v w, vs = [u, v, w] := by
        match xs, hlen, ra with
        | [_, _, _], _, ra => cases ra <;> (rename_i ra; cases ra <;> (rename_i ra; cases ra <;> (rename_i ra; cases ra; exact ⟨_, _, _, rfl⟩)))
      obtain ⟨u, v, w, rfl⟩ := hv
      exact ⟨u, v, w, rfl, q1.nx' (Kz.fold (is := [i, j, l]) (vs := [u, v, w]) hz0) E2⟩
    · exact False.elim q1)⟩
theorem gNs_fold {H : Hp} {Q : L2.St → Hp → Prop} : ∀ {is : List Nat} {vs : List V} {s : L2.St}, vs.length = is.length → Q ((is.zip vs).foldl (fun s p => s.set p.1 (some p.2)) s) H → gNs is vs s H Q
  | [], [], _, _, q => ⟨rfl, q⟩
  | [], _ :: _, _, h, _ => by simp at h
  | _ :: _, [], _, h, _ => by simp at h
  | i :: is, v :: vs, s, h, q => ⟨v, vs, rfl, gNs_fold (is := is) (by simpa using h) q⟩
theorem RvAll.lenV {K : PySem.W.Frag} {Hs H : Hp} {s : L2.St} {r : Rho} {B : Hp} {vs : List V} {xs : List Rv} (h : RvAll K Hs H s r B vs xs) : vs.length = xs.length := by
  induction h with
  | nil => rfl
  | val _ _ ih => exact congrArg (· + 1) ih
  | new _ _ _ _ _ _ ih => exact congrArg (· + 1) ih
/-- a new object that nobody shares, kept out of sight -/
theorem RvAll.step {K : PySem.W.Frag} {Hs H H' : Hp} {s : L2.St} {r : Rho} (ex : Ex H H') {B : Hp} {vs : List V} {xs : List Rv} (h : RvAll K Hs H s r B vs xs) : RvAll K Hs H' s r B vs xs := by
  induction h with
  | nil => exact .nil
  | val a _ ih => exact .val a ih
  | new h1 h2 h3 h4 h5 _ ih => exact .new h1 h2 (ex _ _ h3) (h4.mono (Ex.refl _) (by rw [ex _ _ h3, h3])) h5 ih
/-- the same through a tuple: for names that comprehensions capture -/
theorem sns_parT {es ts : List Expr} {is : List Nat} {pt : Pos} {kt k2 pt2} {la : Ev (List Rv)} (ha : SndL X W es la) (hz0 : z = true → 0 ∉ is) (hc : X.calm = true) (h : NmOk X ts is) (hn : (assignEach ts X.env).length = is.length := by rfl) (hst : (assignEach ts X.env).findIdx? (·.1) = none := by rfl)
    (hz : is.length ≤ sizeLine := by (try simp only [List.length_cons, List.length_nil]); rw [sizeLine_eq]; decide)
    (hs : swapsWithSole [.Tuple ts kt pt] (.Tuple es k2 pt2) pos.line X.env = pure false := by rfl) (hw : swappedStores [.Tuple ts kt pt] (.Tuple es k2 pt2) X.env = pure none := by rfl)
    (h1 : (assignEach [.Tuple ts kt pt] X.env).map (·.2) = [assign (.Tuple ts kt pt) X.env] := by rfl) : SndS X W z (.Assign [.Tuple ts kt pt] (.Tuple es k2 pt2) pos) (sPar is la) := fun Bs B Hs H s r D E q =>
  ⟨_, ps_asg (pe_tup pa_all) (pg_tup hc h.pgs hn hst) hs hw h1, ha _ _ _ _ _ _ _ E (PostS.toS q fun xs r' vs Hs' H' e1 E1 ra q1 => by
    have ra : RvAll X.K Hs' H' s r' B vs xs := ra
    split at q1
    · rename_i hlen
      have lv := ra.lenV
      refine ⟨by omega, fun p hp => ⟨p, vs, rfl, st_of upd_same, by omega, ?_⟩⟩
      have E2 := E1.step (Step.newO (o := .tup vs) E1.sub hp)
      have ra2 := ra.step (H' := upd H' p (.tup vs)) (Ex.new hp)
      exact gNs_fold (by omega) (q1.nx' (Kz.fold hz0) (RvAll.setAll (is := is) E2 ra2 hlen))
    · exact False.elim q1)⟩
end
end Mp
set_option Elab.async false
set_option linter.all false
set_option maxRecDepth 100000
namespace Mp
open PySem L2 Evl
/-! ### what is walked -/
/-- J walks the data ds, wherever what is shared now is shared -/
def Wk (K : PySem.W.Frag) (Hb : Hp) (J : It) (ds : List D) : Prop := ∀ Hs H : Hp, Ex Hb Hs → Ex Hs H →
  (∀ (i : Nat) d, ds[i]? = some d → J.go i H ∧ ∀ x H', J.yld i H x H' → ∃ Hs', Step Hs H Hs' H' ∧ Rp K Hs' x d) ∧ J.stop ds.length H
def aI (X : Cx) (tg iter : Expr) : TI := fun s H R => ∃ t, PI X tg iter t ∧ t s H R
theorem pi_all {X : Cx} {tg iter : Expr} : PI X tg iter (aI X tg iter) := ⟨fun pins s σ H R I ⟨t, h, q⟩ => h.run pins s σ H R I q⟩
def relI (K : PySem.W.Frag) : Hp → Hp → Rho → It → List D → Prop := fun Hs _ _ J ds => Wk K Hs J ds
def SndI (X : Cx) (W : WX) (tg iter : Expr) (it : Ev (List D)) : Prop := ∀ (Bs B Hs H : Hp) (s : St) (r : Rho) (R : It → Hp → Prop), EnvOk X.K Bs B Hs H s r →
  PostE X.K W Bs B Hs s (relI X.K) R (it r) → aI X tg iter s H R
section
variable {X : Cx} {W : WX} {tg e a b : Expr} {pos : Pos}
theorem wk_list {K : PySem.W.Frag} {Hb : Hp} {a : Addr} {vs : List V} {ds : List D} (h : Hb a = some (.lst vs)) (r : RpAll K Hb vs ds) : Wk K Hb (Itl K a) ds := fun Hs H e1 e2 => by
  have hl : H a = some (.lst vs) := e2 _ _ (e1 _ _ h)
  refine ⟨fun i d hd => ?_, ⟨vs, sq_of hl, by rw [r.length]; exact Nat.le_refl _⟩⟩
  obtain ⟨v, hv, rv⟩ := r.get hd
  refine ⟨⟨vs, v, sq_of hl, hv⟩, fun x H' ⟨e, hx⟩ => ?_⟩
  subst e
  have := hx vs (sq_of hl)
  rw [hv] at this; cases this
  exact ⟨Hs, Step.refl e2, rv.mono e1⟩
theorem wk_tup {K : PySem.W.Frag} {Hb : Hp} {a : Addr} {vs : List V} {ds : List D} (h : Hb a = some (.tup vs)) (r : RpAll K Hb vs ds) : Wk K Hb (Itt K a) ds := fun Hs H e1 e2 => by
  have hl : H a = some (.tup vs) := e2 _ _ (e1 _ _ h)
  refine ⟨fun i d hd => ?_, ⟨vs, st_of hl, by rw [r.length]; exact Nat.le_refl _⟩⟩
  obtain ⟨v, hv, rv⟩ := r.get hd
  refine ⟨⟨vs, v, st_of hl, hv⟩, fun x H' ⟨e, hx⟩ => ?_⟩
  subst e
  have := hx vs (st_of hl)
  rw [hv] at this; cases this
  exact ⟨Hs, Step.refl e2, rv.mono e1⟩
/-- signs of a text, as texts -/
def signs (x : Str) : List D := x.cps.toList.map fun c => .str ⟨#[c]⟩
theorem wk_str {K : PySem.W.Frag} {Hb : Hp} {x : Str} : Wk K Hb (Its x) (signs x) := fun Hs H e1 e2 => by
  refine ⟨fun i d hd => ?_, ?_⟩
  · unfold signs at hd
    rw [List.getElem?_map] at hd
    cases hc : x.cps.toList[i]? with
    | none => rw [hc] at hd; cases hd
    | some c =>
      rw [hc] at hd; cases hd
      have hc' : x.cps[i]? = some c := by simpa using hc
      have hi : i < x.cps.size := (Array.getElem?_eq_some_iff.mp hc').1
      refine ⟨hi, fun y H' ⟨e, c', h1, h2⟩ => ?_⟩
      subst e
      rw [hc'] at h1; cases h1; subst h2
      exact ⟨Hs, Step.refl e2, .str _⟩
  · show x.cps.size ≤ (signs x).length
    unfold signs; simp
/-- lists, tuples, texts -/
def iSeq (ev : Ev Rv) : Ev (List D) := fun r => (ev r).bind fun x r => match x.data with
  | .lst ds => .ok ds r
  | .tup ds => .ok ds r
  | .str z => .ok (signs z) r
  | _ => .stuck
theorem sni_seq {ev : Ev Rv} (h : SndE X W e ev) : SndI X W tg e (iSeq ev) := fun Bs B Hs H s r R E q => by
  unfold iSeq at q
  cases hm : ev r with
  | stuck => rw [hm] at q; exact False.elim q
  | exc y r1 =>
    refine ⟨_, pi_list pe_all, h _ _ _ _ _ _ _ E ?_⟩
    rw [hm] at q ⊢; exact q
  | ok x r1 =>
    rw [hm] at q
    have q' : PostE X.K W Bs B Hs s (relI X.K) R (match x.data with
      | .lst ds => .ok ds r1
      | .tup ds => .ok ds r1
      | .str z => .ok (signs z) r1
      | _ => .stuck) := q
    split at q'
    · rename_i ds hx
      refine ⟨_, pi_list pe_all, h _ _ _ _ _ _ _ E ?_⟩
      rw [hm]
      intro v Hs' H' e1 E1 ra
      obtain ⟨Hs2, e2, E2, r2⟩ := RvAt.use E1 ra
      rw [hx] at r2
      cases r2 with
      | lst h1 h2 => exact ⟨_, rfl, ⟨_, sq_of (E2.sub _ _ h1)⟩, q' _ Hs2 H' (e1.trans e2) E2 (wk_list h1 h2)⟩
    · rename_i ds hx
      refine ⟨_, pi_tup pe_all, h _ _ _ _ _ _ _ E ?_⟩
      rw [hm]
      intro v Hs' H' e1 E1 ra
      obtain ⟨Hs2, e2, E2, r2⟩ := RvAt.use E1 ra
      rw [hx] at r2
      cases r2 with
      | tup h1 h2 => exact ⟨_, rfl, ⟨_, st_of (E2.sub _ _ h1)⟩, q' _ Hs2 H' (e1.trans e2) E2 (wk_tup h1 h2)⟩
    · rename_i z hx
      refine ⟨_, pi_str pe_all, h _ _ _ _ _ _ _ E ?_⟩
      rw [hm]
      intro v Hs' H' e1 E1 ra
      obtain ⟨Hs2, e2, E2, r2⟩ := RvAt.use E1 ra
      rw [hx] at r2
      cases r2
      exact ⟨_, rfl, q' _ Hs2 H' (e1.trans e2) E2 wk_str⟩
    · exact False.elim q'
/-- lo, lo + 1, .. -/
def rangeD (lo : Int) (n : Nat) : List D := (List.range n).map fun i => .int (lo + (i : Nat))
theorem wk_range {K : PySem.W.Frag} {Hb : Hp} {lo : Int} {n : Nat} : Wk K Hb (Itr lo n) (rangeD lo n) := fun Hs H e1 e2 => by
  refine ⟨fun i d hd => ?_, ?_⟩
  · unfold rangeD at hd
    rw [List.getElem?_map] at hd
    cases hc : (List.range n)[i]? with
    | none => rw [hc] at hd; cases hd
    | some c =>
      rw [hc] at hd; cases hd
      obtain ⟨hi, hc⟩ := List.getElem?_eq_some_iff.mp hc
      rw [List.getElem_range] at hc
      subst hc
      rw [List.length_range] at hi
      refine ⟨hi, fun y H' ⟨e, h2⟩ => ?_⟩
      subst e; subst h2
      exact ⟨Hs, Step.refl e2, .int _⟩
  · show n ≤ (rangeD lo n).length
    unfold rangeD; simp
def okR (j : Int) : Bool := decide (-4611686018427387904 ≤ j) && decide (j < 4611686018427387904)
def iRange1 (oa : Ev Src) : Ev (List D) := fun r => (oa r).bind fun x r => match x.rd r with
  | some (.int j) => if okR j then .ok (rangeD 0 j.toNat) r else .stuck
  | _ => .stuck
theorem sni_range1 {oa : Ev Src} {p : Pos} (ha : SndO X W a oa) (hg : Gl X "range") (hm : X.mg "range" = none) (hs : starEach [a] X.env = [(false, eval a X.env)] := by rfl) (hst : starEach [a] X.env = (false, eval a X.env) :: starEach [] X.env := by rfl) : SndI X W tg (.Call (.Name "range" p) [a] [] pos) (iRange1 oa) := fun Bs B Hs H s r R E q =>
  ⟨_, pi_range1 hg hm (pa_cons pe_all pa_nil hst) hs, ha _ _ _ _ _ _ _ E (PostE.bind q fun x r1 v Hs1 H1 _ x1 E1 ra q1 => by
    split at q1
    · rename_i j hj
      split at q1
      · rename_i hz
        simp only [okR, Bool.and_eq_true, decide_eq_true_eq] at hz
        rw [(Src.opd E1 ra hj).int]
        exact ⟨j, rfl, hz.1, hz.2, q1.ok E1 wk_range⟩
      · exact False.elim q1
    · exact False.elim q1)⟩
def iRange2 (oa ob : Ev Src) : Ev (List D) := fun r => (oa r).bind fun x r => (ob r).bind fun y r => match x.rd r, y.rd r with
  | some (.int i), some (.int j) => if okR i && okR j then .ok (rangeD i (j - i).toNat) r else .stuck
  | _, _ => .stuck
theorem sni_range2 {oa ob : Ev Src} {p : Pos} (ha : SndO X W a oa) (hb : SndO X W b ob) (hg : Gl X "range") (hm : X.mg "range" = none) (hs : starEach [a, b] X.env = [(false, eval a X.env), (false, eval b X.env)] := by rfl) (hs2 : starEach [b] X.env = [(false, eval b X.env)] := by rfl)
    (hst : starEach [a, b] X.env = (false, eval a X.env) :: starEach [b] X.env := by rfl) (hst2 : starEach [b] X.env = (false, eval b X.env) :: starEach [] X.env := by rfl) : SndI X W tg (.Call (.Name "range" p) [a, b] [] pos) (iRange2 oa ob) := fun Bs B Hs H s r R E q =>
  ⟨_, pi_range2 hg hm (pa_cons pe_all (pa_cons pe_all pa_nil hst2) hst) hs hs2, ha _ _ _ _ _ _ _ E (PostE.bind q fun x r1 v Hs1 H1 _ x1 E1 ra q1 => hb _ _ _ _ _ _ _ E1 (PostE.bind q1 fun y r2 u Hs2 H2 _ x2 E2 rb q2 => by
    split at q2
    · rename_i i j hi hj
      split at q2
      · rename_i hz
        simp only [okR, Bool.and_eq_true, decide_eq_true_eq] at hz
        rw [(Src.opd E2 (SrcAt.mono x2 ra) hi).int, (Src.opd E2 rb hj).int]
        exact ⟨i, j, rfl, ⟨hz.1.1, hz.1.2, hz.2.1, hz.2.2⟩, q2.ok E2 wk_range⟩
      · exact False.elim q2
    · exact False.elim q2))⟩
/-- enumerate of a list -/
def enumD (ds : List D) : List D := ds.zipIdx.map fun p => .tup [.int (p.2 : Nat), p.1]
theorem wk_enum {K : PySem.W.Frag} {Hb : Hp} {a : Addr} {vs : List V} {ds : List D} (h : Hb a = some (.lst vs)) (r : RpAll K Hb vs ds) : Wk K Hb (Ite K a) (enumD ds) := fun Hs H e1 e2 => by
  have hl : H a = some (.lst vs) := e2 _ _ (e1 _ _ h)
  refine ⟨fun i d hd => ?_, ⟨vs, sq_of hl, by unfold enumD; rw [List.length_map, List.length_zipIdx, r.length]; exact Nat.le_refl _⟩⟩
  unfold enumD at hd
  rw [List.getElem?_map, List.getElem?_zipIdx] at hd
  cases hc : ds[i]? with
  | none => rw [hc] at hd; cases hd
  | some y =>
    rw [hc] at hd; simp at hd; subst hd
    obtain ⟨v, hv, rv⟩ := r.get hc
    refine ⟨⟨vs, v, sq_of hl, hv⟩, fun x H' ⟨T, z, e, hT, e3, hx⟩ => ?_⟩
    subst e; subst e3
    have := hx vs (sq_of hl)
    rw [hv] at this; cases this
    have hTs : Hs T = none := fresh_back e2 hT
    refine ⟨upd Hs T _, Step.new e2 hT, .tup upd_same (.cons (.int _) (.cons (rv.mono (e1.trans (Ex.new hTs))) .nil))⟩
def iEnumE (ev : Ev Rv) : Ev (List D) := fun r => (ev r).bind fun x r => match x.data with
  | .lst ds => .ok (enumD ds) r
  | _ => .stuck
theorem sni_enum {ev : Ev Rv} {p tpos : Pos} {elts : List Expr} {kk : Nat} (h : SndE X W e ev) (hg : Gl X "enumerate") (hm : X.mg "enumerate" = none) (hs : starEach [e] X.env = [(false, eval e X.env)] := by rfl) (hst : starEach [e] X.env = (false, eval e X.env) :: starEach [] X.env := by rfl) :
    SndI X W (.Tuple elts kk tpos) (.Call (.Name "enumerate" p) [e] [] pos) (iEnumE ev) := fun Bs B Hs H s r R E q =>
  ⟨_, pi_enum hg hm (pa_cons pe_all pa_nil hst) hs, h _ _ _ _ _ _ _ E (PostE.bind q fun x r1 v Hs1 H1 _ x1 E1 ra q1 => by
    obtain ⟨Hs2, e2, E2, r2⟩ := RvAt.use E1 ra
    split at q1
    · rename_i ds hx
      rw [hx] at r2
      cases r2 with
      | lst h1 h2 => exact ⟨_, _, rfl, sq_of (E2.sub _ _ h1), q1 _ Hs2 H1 e2 E2 (wk_enum h1 h2)⟩
    · exact False.elim q1)⟩
/-! ### for -/
def forL (g : Tg) (body : Sv) : List D → Rho → SO
  | [], r => .nx r
  | d :: ds, r => match g d r with
    | none => .stuck
    | some r1 => match body r1 with
      | .nx r2 => forL g body ds r2
      | .ct r2 => forL g body ds r2
      | .bk r2 => .nx r2
      | o => o
def sFor (it : Ev (List D)) (g : Tg) (body : Sv) : Sv := fun r => (it r).toS fun ds r => forL g body ds r
theorem sns_for {z : Bool} {iter : Expr} {is : List Nat} {sts : List Stmt} {it : Ev (List D)} {g : Tg} {body : Sv} (hp : PassesOwn (model X.prog X.w) X.A X.env X.xe) (hc : X.calm = true) (hi : SndI X W tg iter it) (hg : SndG X tg g is) (hz : z = true → 0 ∉ is) (hb : SndSs X W z sts body) (hs : ∀ x, foldedSetIterable iter X.env x = pure x := by intro _; rfl) : SndS X W z (.For tg iter sts [] pos) (sFor it g body) := fun Bs B Hs H s r D E q =>
  ⟨_, ps_for (hs := hs) hp hc pi_all pg_all pss_all, hi _ _ _ _ _ _ _ E (PostS.toS q fun ds r1 J Hs1 H1 e1 E1 wk q1 => by
    have wk : Wk X.K Hs1 J ds := wk
    refine ⟨fun i m σ H => m = ds.length - i ∧ i ≤ ds.length ∧ ∃ Hs r, Ex Hs1 Hs ∧ EnvOk X.K Bs B Hs H σ r ∧ PostS X.K W z Bs B Hs σ D (forL g body (ds.drop i) r), ⟨ds.length, rfl, Nat.zero_le _, Hs1, r1, Ex.refl _, E1, by rw [List.drop_zero]; exact q1⟩, ?_⟩
    rintro i m σ2 H2 ⟨rfl, hi2, Hs2, r2, e2, E2, q2⟩
    by_cases hlt : i < ds.length
    · obtain ⟨d, hd⟩ : ∃ d, ds[i]? = some d := ⟨_, List.getElem?_eq_getElem hlt⟩
      have hdrop : ds.drop i = d :: ds.drop (i + 1) := by
        rw [List.drop_eq_getElem_cons hlt]
        have := List.getElem?_eq_getElem hlt
        rw [hd] at this
        rw [Option.some.inj this]
      obtain ⟨g1, g2⟩ := (wk Hs2 H2 e2 E2.sub).1 i d hd
      refine .inr ⟨g1, fun σ' H' => ∃ Hs r, Ex Hs1 Hs ∧ EnvOk X.K Bs B Hs H' σ' r ∧ PostS X.K W z Bs B Hs σ' D (forL g body (ds.drop (i + 1)) r), fun σ' H' ⟨Hs, r, h1, h2, h3⟩ => ⟨ds.length - (i + 1), by omega, rfl, by omega, Hs, r, h1, h2, h3⟩, fun x H' hy => ?_⟩
      obtain ⟨Hs3, st, rx⟩ := g2 x H' hy
      have E3 := E2.step st
      rw [hdrop] at q2
      unfold forL at q2
      split at q2
      · exact False.elim q2
      · rename_i r3 hr3
        refine hg _ _ _ _ _ _ _ _ _ _ E3 rx hr3 fun s4 H4 al4 E4 => ?_
        refine hb _ _ _ _ _ _ _ E4 ?_
        have e3 : Ex Hs1 Hs3 := e2.trans st.sh
        have q3 := PostS.on (al4.kz hz) (PostS.mono st.sh q2)
        cases hbd : body r3 with
        | stuck => rw [hbd] at q3; exact q3
        | nx r4 =>
          rw [hbd] at q3
          exact fun s5 Hs5 H5 k5 e5 E5 => ⟨Hs5, r4, e3.trans e5, E5, (q3.mono e5).on k5⟩
        | ct r4 =>
          rw [hbd] at q3
          exact fun s5 Hs5 H5 k5 e5 E5 => ⟨Hs5, r4, e3.trans e5, E5, (q3.mono e5).on k5⟩
        | bk r4 => rw [hbd] at q3; exact q3
        | ret x r4 => rw [hbd] at q3; exact q3
        | exc x r4 => rw [hbd] at q3; exact q3
    · have hi' : i = ds.length := by omega
      subst hi'
      rw [List.drop_length] at q2
      exact .inl ⟨(wk Hs2 H2 e2 E2.sub).2, q2.nx E2⟩)⟩
/-! ### while -/
def whl (t : Ev Bool) (body : Sv) : Nat → Rho → SO
  | 0, _ => .stuck
  | n + 1, r => (t r).toS fun k r1 => if k then (match body r1 with
      | .nx r2 => whl t body n r2
      | .ct r2 => whl t body n r2
      | .bk r2 => .nx r2
      | o => o) else .nx r1
theorem sns_while {z : Bool} {c : Expr} {sts : List Stmt} {t : Ev Bool} {body : Sv} (n : Nat) (hp : PassesOwn (model X.prog X.w) X.A X.env X.xe) (hc : SndT X W c t) (hb : SndSs X W z sts body) : SndS X W z (.While c sts [] pos) (whl t body n) := fun Bs B Hs H s r D E q =>
  ⟨_, ps_while hp pt_all pss_all, fun m σ H => ∃ Hs r, EnvOk X.K Bs B Hs H σ r ∧ PostS X.K W z Bs B Hs σ D (whl t body m r), ⟨n, Hs, r, E, q⟩, by
    rintro m σ2 H2 ⟨Hs2, r2, E2, q2⟩
    cases m with
    | zero => exact False.elim q2
    | succ m =>
      unfold whl at q2
      refine hc _ _ _ _ _ _ _ E2 (PostS.toS q2 fun k r3 k' Hs3 H3 e3 E3 ra q3 => ?_)
      have ra : k' = k := ra
      subst ra
      cases k' with
      | false => rw [if_neg Bool.false_ne_true] at q3 ⊢; exact q3.nx E3
      | true =>
        rw [if_pos rfl] at q3 ⊢
        refine ⟨fun σ' H' => ∃ Hs r, EnvOk X.K Bs B Hs H' σ' r ∧ PostS X.K W z Bs B Hs σ' D (whl t body m r), fun σ' H' ⟨Hs, r, h1, h2⟩ => ⟨m, by omega, Hs, r, h1, h2⟩, hb _ _ _ _ _ _ _ E3 ?_⟩
        cases hbd : body r3 with
        | stuck => rw [hbd] at q3; exact q3
        | nx r4 => rw [hbd] at q3; exact fun s5 Hs5 H5 k5 e5 E5 => ⟨Hs5, r4, E5, (q3.mono e5).on k5⟩
        | ct r4 => rw [hbd] at q3; exact fun s5 Hs5 H5 k5 e5 E5 => ⟨Hs5, r4, E5, (q3.mono e5).on k5⟩
        | bk r4 => rw [hbd] at q3; exact q3
        | ret x r4 => rw [hbd] at q3; exact q3
        | exc x r4 => rw [hbd] at q3; exact q3⟩
/-! ### [elt for tg in iter if cond] -/
def wipeR (r : Rho) : List Nat → Rho
  | [] => r
  | v :: vs => (wipeR r vs).set v .un
def keepVal (r0 : Rho) (v : Nat) : Cell := match r0[v]? with
  | some (.val d) => .val d
  | _ => .un
def restore (r0 r : Rho) : List Nat → Rho
  | [] => r
  | v :: vs => (restore r0 r vs).set v (keepVal r0 v)
theorem EnvOk.setUn {K : PySem.W.Frag} {Bs B Hs H : Hp} {s : St} {r : Rho} (E : EnvOk K Bs B Hs H s r) (i : Nat) (x : Option V) : EnvOk K Bs B Hs H (s.set i x) (r.set i .un) := by
  have keep : ∀ (j : Nat) c, c ≠ Cell.un → (r.set i .un)[j]? = some c → r[j]? = some c ∧ (s.set i x)[j]? = s[j]? := fun j c hc h => by
    rw [List.getElem?_set] at h
    by_cases e : i = j
    · subst e
      rw [if_pos rfl] at h
      split at h
      · cases h; exact absurd rfl hc
      · cases h
    · rw [if_neg e] at h; exact ⟨h, by rw [List.getElem?_set, if_neg e]⟩
  refine ⟨E.sub, E.ext1, E.ext2, E.ext3, by rw [List.length_set, List.length_set]; exact E.len, fun j d h => ?_, fun j o h => ?_, fun i' j' a oi oj ne h1 h2 h3 => ?_⟩
  · obtain ⟨h1, h2⟩ := keep j _ (by intro z; cases z) h
    rw [h2]; exact E.val j d h1
  · obtain ⟨h1, h2⟩ := keep j _ (by intro z; cases z) h
    rw [h2]; exact E.own j o h1
  · obtain ⟨g1, g2⟩ := keep i' _ (by intro z; cases z) h1
    obtain ⟨g3, g4⟩ := keep j' _ (by intro z; cases z) h2
    rw [g4]; rw [g2] at h3
    exact E.dis i' j' a oi oj ne g1 g3 h3
theorem EnvOk.wipe {K : PySem.W.Frag} {Bs B Hs H : Hp} {s : St} {r : Rho} (E : EnvOk K Bs B Hs H s r) : ∀ vs : List Nat, EnvOk K Bs B Hs H (L2.wipe s vs) (wipeR r vs)
  | [] => E
  | v :: vs => (E.wipe vs).setUn v none
theorem wipeR_get (s : Rho) (i : Nat) : ∀ vs : List Nat, i ∉ vs → (wipeR s vs)[i]? = s[i]?
  | [], _ => rfl
  | v :: vs, h => by
    have h1 : v ≠ i := fun e => h (by rw [e]; exact List.mem_cons_self)
    show ((wipeR s vs).set v .un)[i]? = _
    rw [List.getElem?_set, if_neg h1]
    exact wipeR_get s i vs fun z => h (List.mem_cons_of_mem _ z)
theorem restore_get (r0 r : Rho) (i : Nat) : ∀ vs : List Nat, i ∉ vs → (restore r0 r vs)[i]? = r[i]?
  | [], _ => rfl
  | v :: vs, h => by
    have h1 : v ≠ i := fun e => h (by rw [e]; exact List.mem_cons_self)
    show ((restore r0 r vs).set v _)[i]? = _
    rw [List.getElem?_set, if_neg h1]
    exact restore_get r0 r i vs fun z => h (List.mem_cons_of_mem _ z)
theorem restore_in (r0 r : Rho) (i : Nat) (c : Cell) : ∀ vs : List Nat, i ∈ vs → (restore r0 r vs)[i]? = some c → c = keepVal r0 i
  | [], h, _ => by simp at h
  | v :: vs, h, e => by
    have e : ((restore r0 r vs).set v (keepVal r0 v))[i]? = some c := e
    rw [List.getElem?_set] at e
    by_cases h1 : v = i
    · subst h1
      rw [if_pos rfl] at e
      split at e
      · exact (Option.some.inj e).symm
      · cases e
    · rw [if_neg h1] at e
      rcases List.mem_cons.mp h with rfl | h
      · exact absurd rfl h1
      · exact restore_in r0 r i c vs h e
theorem restore_len (r0 r : Rho) : ∀ vs : List Nat, (restore r0 r vs).length = r.length
  | [] => rfl
  | v :: vs => by
    show ((restore r0 r vs).set v _).length = _
    rw [List.length_set]; exact restore_len r0 r vs
theorem wipeR_len (r : Rho) : ∀ vs : List Nat, (wipeR r vs).length = r.length
  | [] => rfl
  | v :: vs => by
    show ((wipeR r vs).set v _).length = _
    rw [List.length_set]; exact wipeR_len r vs
theorem EnvOk.restore {K : PySem.W.Frag} {Bs B Hs0 H0 Hs H : Hp} {s : St} {r0 r : Rho} {vs : List Nat} (E0 : EnvOk K Bs B Hs0 H0 s r0) (ex : Ex Hs0 Hs) (E : EnvOk K Bs B Hs H (L2.wipe s vs) (wipeR r vs)) : EnvOk K Bs B Hs H s (restore r0 r vs) := by
  have own : ∀ (i : Nat) o, (Mp.restore r0 r vs)[i]? = some (.own o) → i ∉ vs := fun i o h hi => by
    have := restore_in r0 r i _ vs hi h
    unfold keepVal at this
    split at this <;> cases this
  refine ⟨E.sub, E.ext1, E.ext2, E.ext3, ?_, fun i d h => ?_, fun i o h => ?_, fun i' j' a oi oj ne h1 h2 h3 => ?_⟩
  · rw [restore_len]
    have := E.len
    rw [wipe_length, wipeR_len] at this; exact this
  · by_cases hi : i ∈ vs
    · have := restore_in r0 r i _ vs hi h
      unfold keepVal at this
      split at this <;> cases this
      rename_i h0
      obtain ⟨v, h1, h2⟩ := E0.val i _ h0
      exact ⟨v, h1, h2.mono ex⟩
    · rw [restore_get r0 r i vs hi] at h
      obtain ⟨v, h1, h2⟩ := E.val i d (by rw [wipeR_get r i vs hi]; exact h)
      exact ⟨v, by rw [wipe_get s i vs hi] at h1; exact h1, h2⟩
  · have hi := own i o h
    rw [restore_get r0 r i vs hi] at h
    obtain ⟨a, h1, h2⟩ := E.own i o (by rw [wipeR_get r i vs hi]; exact h)
    exact ⟨a, by rw [wipe_get s i vs hi] at h1; exact h1, h2⟩
  · have hi := own i' oi h1
    have hj := own j' oj h2
    rw [restore_get r0 r i' vs hi] at h1
    rw [restore_get r0 r j' vs hj] at h2
    have := E.dis i' j' a oi oj ne (by rw [wipeR_get r i' vs hi]; exact h1) (by rw [wipeR_get r j' vs hj]; exact h2) (by rw [wipe_get s i' vs hi]; exact h3)
    rw [wipe_get s j' vs hj] at this; exact this
/-- an object of nobody's changes -/
theorem EnvOk.poke {K : PySem.W.Frag} {Bs B Hs H : Hp} {s : St} {r : Rho} (E : EnvOk K Bs B Hs H s r) {a : Addr} {o : HO} (hs : Hs a = none) (hB : B a = none) (ap : ∀ (i : Nat) oi, r[i]? = some (.own oi) → s[i]? ≠ some (some (.ref a))) : EnvOk K Bs B Hs (upd H a o) s r := by
  refine ⟨Ex.mut E.sub hs, E.ext1, fun b u h n => ?_, E.ext3, E.len, E.val, fun i u h => ?_, E.dis⟩
  · have e : b ≠ a := ne_of_none h hB
    rw [upd_ne e]; exact E.ext2 b u h n
  · obtain ⟨x, h1, h2, h3, h4⟩ := E.own i u h
    have e : x ≠ a := by rintro rfl; exact ap i u h h1
    exact ⟨x, h1, h2, h3, h4.mono (Ex.refl _) (upd_ne e)⟩
def lcL (g : Tg) (t : Ev Bool) (ev : Ev Rv) (vs : List Nat) : List D → Rho → EO (List D)
  | [], r => .ok [] r
  | d :: ds, r => match g d r with
    | none => .stuck
    | some r1 => (t r1).bind fun k r2 => if k then (ev r2).bind fun x r3 => (lcL g t ev vs ds (wipeR r3 vs)).bind fun l r4 => .ok (x.data :: l) r4 else lcL g t ev vs ds (wipeR r2 vs)
def eComp (it : Ev (List D)) (g : Tg) (t : Ev Bool) (ev : Ev Rv) (vs : List Nat) : Ev Rv := fun r => (it r).bind fun ds r1 => if ds.length ≤ sizeLine then (match lcL g t ev vs ds (wipeR r1 vs) with
  | .ok l r2 => .ok (.new (.lst l)) (restore r1 r2 vs)
  | _ => .stuck) else .stuck
def WF : WX := fun _ _ _ _ => False
def tT : Ev Bool := fun r => .ok true r
/-- the readings of what stands in the block, for every block -/
def cE (X : Cx) (scope : Scope) (e : Expr) : TE := fun σ H Q => ∀ (s : Shared) (H0 : Hp) (C : Addr) (cl : List (Str × Addr)) (fp : List Addr), aE (X.blk s H0 scope (compEnvC scope cl C X.env) fp) e σ H Q
def cG (X : Cx) (scope : Scope) (e : Expr) : TG := fun v σ H Q => ∀ (s : Shared) (H0 : Hp) (C : Addr) (cl : List (Str × Addr)) (fp : List Addr), aG (X.blk s H0 scope (compEnvC scope cl C X.env) fp) e v σ H Q
def aPTs (X : Cx) (ifs : List Expr) : TT := fun σ H Q => ∃ t, PTs X ifs t ∧ t σ H Q
theorem pts_all {ifs : List Expr} : PTs X ifs (aPTs X ifs) := ⟨fun pins s σ H Q I ⟨t, h, q⟩ => h.run pins s σ H Q I q⟩
def cT (X : Cx) (scope : Scope) (ifs : List Expr) : TT := fun σ H Q => ∀ (s : Shared) (H0 : Hp) (C : Addr) (cl : List (Str × Addr)) (fp : List Addr), aPTs (X.blk s H0 scope (compEnvC scope cl C X.env) fp) ifs σ H Q
theorem pe_c {scope : Scope} {e : Expr} (s : Shared) (H0 : Hp) (C : Addr) (cl : List (Str × Addr)) (fp : List Addr) : PE (X.blk s H0 scope (compEnvC scope cl C X.env) fp) e (cE X scope e) := ⟨fun pins s1 σ H Q I h => pe_all.run pins s1 σ H Q I (h s H0 C cl fp)⟩
theorem pg_c {scope : Scope} {e : Expr} (s : Shared) (H0 : Hp) (C : Addr) (cl : List (Str × Addr)) (fp : List Addr) : PG (X.blk s H0 scope (compEnvC scope cl C X.env) fp) e (cG X scope e) := ⟨fun pins s1 σ H v u Q I rv h => pg_all.run pins s1 σ H v u Q I rv (h s H0 C cl fp)⟩
theorem pts_c {scope : Scope} {e : List Expr} (s : Shared) (H0 : Hp) (C : Addr) (cl : List (Str × Addr)) (fp : List Addr) : PTs (X.blk s H0 scope (compEnvC scope cl C X.env) fp) e (cT X scope e) := ⟨fun pins s1 σ H Q I h => pts_all.run pins s1 σ H Q I (h s H0 C cl fp)⟩
def SndTs (X : Cx) (W : WX) (ifs : List Expr) (ev : Ev Bool) : Prop := ∀ (Bs B Hs H : Hp) (s : St) (r : Rho) (Q : Bool → Hp → Prop), EnvOk X.K Bs B Hs H s r →
  PostE X.K W Bs B Hs s relB Q (ev r) → aPTs X ifs s H Q
theorem snts_nil : SndTs X W [] tT := fun Bs B Hs H s r Q E q => ⟨_, pts_nil, q.ok E rfl⟩
theorem snts_one {c : Expr} {t : Ev Bool} (h : SndT X W c t) : SndTs X W [c] t := fun Bs B Hs H s r Q E q => ⟨_, pts_one pt_all, h _ _ _ _ _ _ _ E q⟩
theorem RpAll.snoc {K : PySem.W.Frag} {H : Hp} {vs : List V} {ds : List D} {v : V} {d : D} (h : RpAll K H vs ds) (hv : Rp K H v d) : RpAll K H (vs ++ [v]) (ds ++ [d]) := h.append (.cons hv .nil)
/-- what is wanted of the rest of a comprehension -/
def Fin (K : PySem.W.Frag) (W : WX) (Bs B Hs : Hp) (s : St) (Q : VK) (r1 : Rho) (vs : List Nat) (acc : List D) : EO (List D) → Prop
  | .ok l r2 => PostE K W Bs B Hs s (relR K B s) Q (.ok (.new (.lst (acc ++ l))) (restore r1 r2 vs))
  | _ => False
theorem Fin.mono {K : PySem.W.Frag} {W : WX} {Bs B Hs Hs' : Hp} {s : St} {Q : VK} {r1 : Rho} {vs : List Nat} {acc : List D} {m : EO (List D)} (e : Ex Hs Hs') (h : Fin K W Bs B Hs s Q r1 vs acc m) : Fin K W Bs B Hs' s Q r1 vs acc m := by
  cases m with
  | ok l r2 =>
    have h : PostE K W Bs B Hs s (relR K B s) Q (.ok (.new (.lst (acc ++ l))) (Mp.restore r1 r2 vs)) := h
    exact h.mono e
  | stuck => exact h
  | exc x r => exact h
structure LcInv (K : PySem.W.Frag) (W : WX) (Bs B Hs1 : Hp) (s : St) (Q : VK) (r1 : Rho) (vs : List Nat) (Dl : Addr) (i : Nat) (m : Rho → EO (List D)) (H : Hp) : Prop where
  ex : ∃ (Hs : Hp) (r : Rho) (acc : List D) (us : List V), Ex Hs1 Hs ∧ EnvOk K Bs B Hs H (L2.wipe s vs) (wipeR r vs) ∧ Hs Dl = none ∧ H Dl = some (.lst us) ∧ RpAll K Hs us acc ∧ acc.length ≤ i ∧
      (∀ (j : Nat) oj, (wipeR r vs)[j]? = some (.own oj) → (L2.wipe s vs)[j]? ≠ some (some (.ref Dl))) ∧ Fin K W Bs B Hs s Q r1 vs acc (m (wipeR r vs))
theorem lc_read {elt iter : Expr} {ifs : List Expr} {scope : Scope} {own : List (Str × Nat)} {it : Ev (List D)} {g : Tg} {is : List Nat} {t : Ev Bool} {ev : Ev Rv} (hc : X.calm = true) (hN : X.N.Nodup) (ok : BlkOk X.N X.env.scope scope own) (hi : SndI X W tg iter it)
    (hg : ∀ (s : Shared) (H0 : Hp) (C : Addr) (cl : List (Str × Addr)) (fp : List Addr), SndG (X.blk s H0 scope (compEnvC scope cl C X.env) fp) tg g is)
    (ht : ∀ (s : Shared) (H0 : Hp) (C : Addr) (cl : List (Str × Addr)) (fp : List Addr), SndTs (X.blk s H0 scope (compEnvC scope cl C X.env) fp) WF ifs t)
    (he : ∀ (s : Shared) (H0 : Hp) (C : Addr) (cl : List (Str × Addr)) (fp : List Addr), SndE (X.blk s H0 scope (compEnvC scope cl C X.env) fp) WF elt ev) (hiv : ∀ i ∈ is, i ∈ own.map (·.2)) {Bs B Hs H : Hp} {s : St} {r : Rho} {Q : VK} (E : EnvOk X.K Bs B Hs H s r) (q : PostE X.K W Bs B Hs s (relR X.K B s) Q (eComp it g t ev (own.map (·.2)) r)) :
    tLc (aI X tg iter) (cG X scope tg) (cT X scope ifs) (cE X scope elt) (own.map (·.2)) s H Q :=
  hi _ _ _ _ _ _ _ E (PostE.bind q fun ds r1 J Hs1 H1 _ e1 E1 wk q1 => by
    have wk : Wk X.K Hs1 J ds := wk
    generalize hvs : own.map (·.2) = vs at q1 hiv ⊢
    intro Dl hD
    split at q1
    case isFalse => exact False.elim q1
    rename_i hsz
    have hDs : Hs1 Dl = none := fresh_back E1.sub hD
    have hDB : B Dl = none := E1.bnone hD
    have hDbs : Bs Dl = none := fresh_back E1.ext1 hDs
    refine ⟨fun i m H => m = ds.length - i ∧ i ≤ ds.length ∧ LcInv X.K W Bs B Hs1 s Q r1 vs Dl i (lcL g t ev vs (ds.drop i)) H, ⟨ds.length, rfl, Nat.zero_le _, ⟨Hs1, r1, [], [], Ex.refl _, ?_, hDs, upd_same, .nil, Nat.le_refl _, ?_, ?_⟩⟩, ?_⟩
    · exact (E1.wipe vs).step (Step.newO E1.sub hD)
    · exact fun j oj hj => (E1.wipe vs).apart hD j oj hj
    · rw [List.drop_zero]
      cases hl : lcL g t ev vs ds (wipeR r1 vs) with
      | stuck => rw [hl] at q1; exact q1
      | exc x r2 => rw [hl] at q1; exact q1
      | ok l r2 => rw [hl] at q1; exact q1
    rintro i m H2 ⟨rfl, hi2, Hs2, r2, acc, us, e2, E2, hD2, hH2, hus, hacc, hap, fin⟩
    by_cases hlt : i < ds.length
    case neg =>
      have hi' : i = ds.length := by omega
      subst hi'
      rw [List.drop_length] at fin
      have fin : PostE X.K W Bs B Hs2 s (relR X.K B s) Q (.ok (.new (.lst (acc ++ []))) (restore r1 (wipeR r2 vs) vs)) := fin
      rw [List.append_nil] at fin
      have E2' : EnvOk X.K Bs B Hs2 H2 (L2.wipe s vs) (wipeR (wipeR r2 vs) vs) := by
        have := E2.wipe vs
        rw [wipe_idem] at this; exact this
      refine .inl ⟨(wk Hs2 H2 e2 E2.sub).2, ?_⟩
      have E3 : EnvOk X.K Bs B Hs2 H2 s (restore r1 (wipeR r2 vs) vs) := EnvOk.restore E1 e2 E2'
      refine fin.ok E3 ⟨Dl, rfl, hD2, hDB, ⟨us, hH2, hus⟩, fun j oj hj z => ?_⟩
      have hjv : j ∉ vs := fun hv => by
        have := restore_in r1 (wipeR r2 vs) j _ vs hv hj
        unfold keepVal at this
        split at this <;> cases this
      rw [restore_get _ _ j vs hjv] at hj
      exact hap j oj hj (by rw [wipe_get s j vs hjv]; exact z)
    case pos =>
      obtain ⟨d, hd⟩ : ∃ d, ds[i]? = some d := ⟨_, List.getElem?_eq_getElem hlt⟩
      have hdrop : ds.drop i = d :: ds.drop (i + 1) := by
        rw [List.drop_eq_getElem_cons hlt]
        have := List.getElem?_eq_getElem hlt
        rw [hd] at this
        rw [Option.some.inj this]
      obtain ⟨g1, g2⟩ := (wk Hs2 H2 e2 E2.sub).1 i d hd
      refine .inr ⟨g1, LcInv X.K W Bs B Hs1 s Q r1 vs Dl (i + 1) (lcL g t ev vs (ds.drop (i + 1))), fun H' h => ⟨ds.length - (i + 1), by omega, rfl, by omega, h⟩, fun x H' hy => ?_⟩
      obtain ⟨Hs3, st, rx⟩ := g2 x H' hy
      have E3 := E2.step st
      obtain ⟨hD3a, hH3⟩ := st.fr Dl _ hH2 hD2; have hD3 := hD3a (fun _ z => nomatch z)
      have e3 : Ex Hs1 Hs3 := e2.trans st.sh
      -- Dl is of the surroundings while the turn runs
      have E3' := E3.more hD3 hH3 hap
      have fin := Fin.mono st.sh fin
      have hus := hus.mono st.sh
      rw [hdrop] at fin
      unfold lcL at fin
      split at fin
      · exact False.elim fin
      rename_i r4 hg0
      intro sh H0 C cl fp
      refine hg sh H0 C cl fp _ _ _ _ _ _ _ _ _ _ E3' rx hg0 fun s4 H4 al E4 => ⟨?_, ?_⟩
      · rw [al vs hiv, wipe_idem]
      have al4 : L2.wipe s4 vs = L2.wipe s vs := by rw [al vs hiv, wipe_idem]
      intro sh H0 C cl fp
      refine ht sh H0 C cl fp _ _ _ _ _ _ _ E4 ?_
      -- the turn's end, whatever came before
      have back : ∀ (Hs5 H5 : Hp) (r5 : Rho), EnvOk X.K Bs (upd B Dl (.lst us)) Hs5 H5 s4 r5 → Hs5 Dl = none ∧ H5 Dl = some (.lst us) := fun Hs5 H5 r5 E5 => ⟨(E5.ext2 Dl _ upd_same hDbs).1 (fun _ z => nomatch z), (E5.ext2 Dl _ upd_same hDbs).2⟩
      have apart : ∀ (Hs5 H5 : Hp) (r5 : Rho), EnvOk X.K Bs (upd B Dl (.lst us)) Hs5 H5 s4 r5 → ∀ (j : Nat) oj, (wipeR r5 vs)[j]? = some (.own oj) → (L2.wipe s vs)[j]? ≠ some (some (.ref Dl)) := fun Hs5 H5 r5 E5 j oj hj z => by
        have E6 := E5.wipe vs
        rw [al4] at E6
        obtain ⟨a, k1, _, k3, _⟩ := E6.own j oj hj
        rw [k1] at z; cases z
        rw [upd_same] at k3; cases k3
      cases hm : t r4 with
      | stuck => rw [hm] at fin; exact fin
      | exc y r5 => rw [hm] at fin; exact False.elim fin
      | ok k r5 =>
        rw [hm] at fin
        intro k' Hs5 H5 e5 E5 hk
        have hk : k' = k := hk
        subst hk
        obtain ⟨hD5, hH5⟩ := back Hs5 H5 r5 E5
        cases k' with
        | false =>
          rw [if_neg Bool.false_ne_true]
          have fin : Fin X.K W Bs B Hs3 s Q r1 vs acc (lcL g t ev vs (ds.drop (i + 1)) (wipeR r5 vs)) := fin
          have E6 := (E5.less hDB hDbs).wipe vs
          rw [al4] at E6
          exact ⟨Hs5, r5, acc, us, e3.trans e5, E6, hD5, hH5, hus.mono e5, by omega, apart Hs5 H5 r5 E5, fin.mono e5⟩
        | true =>
          rw [if_pos rfl]
          have fin : Fin X.K W Bs B Hs3 s Q r1 vs acc ((ev r5).bind fun x r6 => (lcL g t ev vs (ds.drop (i + 1)) (wipeR r6 vs)).bind fun l r7 => .ok (x.data :: l) r7) := fin
          intro sh H0 C cl fp
          refine he sh H0 C cl fp _ _ _ _ _ _ _ E5 ?_
          cases hv : ev r5 with
          | stuck => rw [hv] at fin; exact fin
          | exc y r6 => rw [hv] at fin; exact False.elim fin
          | ok y r6 =>
            rw [hv] at fin
            have fin : Fin X.K W Bs B Hs3 s Q r1 vs acc ((lcL g t ev vs (ds.drop (i + 1)) (wipeR r6 vs)).bind fun l r7 => .ok (y.data :: l) r7) := fin
            intro w Hs6 H6 e6 E6 ry
            obtain ⟨Hs7, e7, E7, ry7⟩ := RvAt.use E6 ry
            obtain ⟨hD7, hH7⟩ := back Hs7 H6 r6 E7
            refine ⟨us, hH7, ?_, ?_⟩
            · have := hus.length; omega
            have E8 := (E7.less hDB hDbs).wipe vs
            rw [al4] at E8
            have ap8 := apart Hs7 H6 r6 E7
            have E9 := E8.poke (o := .lst (us ++ [w])) hD7 hDB ap8
            have e37 : Ex Hs3 Hs7 := e5.trans (e6.trans e7)
            refine ⟨Hs7, r6, acc ++ [y.data], us ++ [w], e3.trans e37, E9, hD7, upd_same, (hus.mono e37).snoc ry7, by rw [List.length_append]; simp only [List.length_cons, List.length_nil]; omega, ap8, ?_⟩
            have fin := Fin.mono e37 fin
            cases hl : lcL g t ev vs (ds.drop (i + 1)) (wipeR r6 vs) with
            | stuck => rw [hl] at fin; exact fin
            | exc z r7 => rw [hl] at fin; exact False.elim fin
            | ok l r7 =>
              rw [hl] at fin
              have fin : PostE X.K W Bs B Hs7 s (relR X.K B s) Q (.ok (.new (.lst (acc ++ (y.data :: l)))) (restore r1 r7 vs)) := fin
              show PostE X.K W Bs B Hs7 s (relR X.K B s) Q (.ok (.new (.lst ((acc ++ [y.data]) ++ l))) (restore r1 r7 vs))
              rw [List.append_assoc]
              exact fin)
theorem snd_lc {elt iter : Expr} {ifs : List Expr} {scope : Scope} {own : List (Str × Nat)} {it : Ev (List D)} {g : Tg} {is : List Nat} {t : Ev Bool} {ev : Ev Rv} (hc : X.calm = true) (hN : X.N.Nodup) (ok : BlkOk X.N X.env.scope scope own) (hi : SndI X W tg iter it)
    (hg : ∀ (s : Shared) (H0 : Hp) (C : Addr) (cl : List (Str × Addr)) (fp : List Addr), SndG (X.blk s H0 scope (compEnvC scope cl C X.env) fp) tg g is)
    (ht : ∀ (s : Shared) (H0 : Hp) (C : Addr) (cl : List (Str × Addr)) (fp : List Addr), SndTs (X.blk s H0 scope (compEnvC scope cl C X.env) fp) WF ifs t)
    (he : ∀ (s : Shared) (H0 : Hp) (C : Addr) (cl : List (Str × Addr)) (fp : List Addr), SndE (X.blk s H0 scope (compEnvC scope cl C X.env) fp) WF elt ev) (hiv : ∀ i ∈ is, i ∈ own.map (·.2)) (hs : ∀ x, foldedSetIterable iter X.env x = pure x := by intro _; rfl) :
    SndE X W (.ListComp elt [⟨tg, iter, ifs, 0⟩] scope pos) (eComp it g t ev (own.map (·.2))) := fun Bs B Hs H s r Q E q =>
  ⟨_, pe_lc hc hN pi_all ok pg_c pts_c pe_c hs, lc_read hc hN ok hi hg ht he hiv E q⟩
end
end Mp
set_option Elab.async false
set_option linter.all false
set_option maxRecDepth 100000
namespace Mp
open PySem L2 Evl
/-! ### items -/
def lkp {A : Type} [DecidableEq A] (l : List (A × D)) (k : A) : Option D := (l.find? fun p => decide (p.1 = k)).map (·.2)
theorem lkp_rp {A : Type} [DecidableEq A] {K : PySem.W.Frag} {H : Hp} {k : A} : ∀ {kvs : List (A × V)} {l : List (A × D)}, kvs.map (·.1) = l.map (·.1) → RpAll K H (kvs.map (·.2)) (l.map (·.2)) →
    (∀ d, lkp l k = some d → ∃ v, valV kvs k = some v ∧ Rp K H v d) ∧ (lkp l k = none → valV kvs k = none)
  | [], [], _, _ => ⟨fun d h => by simp [lkp] at h, fun _ => rfl⟩
  | [], _ :: _, h, _ => by simp at h
  | _ :: _, [], h, _ => by simp at h
  | (a, v) :: kvs, (b, d) :: l, h, r => by
    simp only [List.map_cons, List.cons.injEq] at h
    obtain ⟨rfl, h2⟩ := h
    cases r with
    | cons r1 r2 =>
      have ih := lkp_rp (k := k) h2 r2
      unfold lkp valV
      rw [List.find?_cons, List.find?_cons]
      by_cases e : a = k
      · simp only [decide_eq_true e]
        exact ⟨fun d' h' => by simp at h'; subst h'; exact ⟨v, rfl, r1⟩, fun h' => by simp at h'⟩
      · simp only [decide_eq_false e]
        exact ih
def keyD : D → Option Key
  | .int i => some (.inl i)
  | .str x => some (.inr x)
  | _ => none
def keysD : List D → Option (List Key)
  | [] => some []
  | d :: l => match keyD d, keysD l with
    | some k, some ks => some (k :: ks)
    | _, _ => none
theorem keyD_rp {K : PySem.W.Frag} {H : Hp} {v : V} {d : D} {k : Key} (h : Rp K H v d) (e : keyD d = some k) : v = kV k := by
  cases h <;> simp only [keyD, Option.some.injEq, reduceCtorEq] at e <;> subst e <;> rfl
theorem keysD_rp {K : PySem.W.Frag} {H : Hp} : ∀ {vs : List V} {ds : List D} {ks : List Key}, RpAll K H vs ds → keysD ds = some ks → vs = ks.map kV
  | _, _, _, .nil, e => by simp only [keysD, Option.some.injEq] at e; subst e; rfl
  | _, _, _, .cons (d := d) (ds := ds) a b, e => by
    simp only [keysD] at e
    split at e
    · rename_i k ks h1 h2
      cases e
      rw [keyD_rp a h1, keysD_rp b h2]; rfl
    · cases e
/-- what a dict holds at a key: none where it isn't a dict with such a key's kind -/
def dGet (d k : D) : Option (Option D) := match d with
  | .dT l => match k with
    | .tup ks => (keysD ks).map fun q => lkp l q
    | _ => none
  | .dK l => (keyD k).map fun q => lkp l q
  | _ => none
theorem Opd.dT {K : PySem.W.Frag} {Hs H : Hp} (e : Ex Hs H) {v : V} {l : List (List Key × D)} (h : Opd K Hs H v (.dT l)) : ∃ a kvs, v = .ref a ∧ H a = some (.dT kvs) ∧ kvs.map (·.1) = l.map (·.1) ∧ RpAll K Hs (kvs.map (·.2)) (l.map (·.2)) := by
  generalize hd : D.dT l = d at h
  cases h with
  | sh h =>
    subst hd
    cases h with
    | dT h k r => exact ⟨_, _, rfl, e _ _ h, k, r⟩
  | own h =>
    rename_i a o
    cases o <;> simp only [Own.data] at hd <;> cases hd
    obtain ⟨kvs, h1, h2, h3⟩ := h
    exact ⟨_, kvs, rfl, h1, h2, h3⟩
theorem Opd.dK {K : PySem.W.Frag} {Hs H : Hp} (e : Ex Hs H) {v : V} {l : List (Key × D)} (h : Opd K Hs H v (.dK l)) : ∃ a kvs, v = .ref a ∧ H a = some (.dK kvs) ∧ kvs.map (·.1) = l.map (·.1) ∧ RpAll K Hs (kvs.map (·.2)) (l.map (·.2)) := by
  generalize hd : D.dK l = d at h
  cases h with
  | sh h =>
    subst hd
    cases h with
    | dK h k r => exact ⟨_, _, rfl, e _ _ h, k, r⟩
  | own h =>
    rename_i a o
    cases o <;> simp only [Own.data] at hd <;> cases hd
    obtain ⟨kvs, h1, h2, h3⟩ := h
    exact ⟨_, kvs, rfl, h1, h2, h3⟩
theorem dGet_rp {K : PySem.W.Frag} {Hs H : Hp} (e : Ex Hs H) {v u : V} {d k : D} {x : Option D} (hv : Opd K Hs H v d) (hu : Opd K Hs H u k) (h : dGet d k = some x) :
    ∃ a o, v = .ref a ∧ DGet H a u o ∧ ((x.isSome = true ∧ ∃ y w, x = some y ∧ o = some w ∧ Rp K Hs w y) ∨ (x = none ∧ o = none)) ∧ ((∃ kvs, H a = some (.dK kvs)) ∨ ∃ kvs, H a = some (.dT kvs)) := by
  unfold dGet at h
  split at h
  · rename_i l
    split at h
    · rename_i ks
      simp only [Option.map_eq_some_iff] at h
      obtain ⟨q, hq, rfl⟩ := h
      obtain ⟨a, kvs, rfl, h1, h2, h3⟩ := hv.dT e
      obtain ⟨b, us, rfl, g1, g2, _⟩ := hu.tup e
      have := keysD_rp g2 hq
      subst this
      obtain ⟨p1, p2⟩ := lkp_rp (k := q) h2 h3
      refine ⟨a, valV kvs q, rfl, DGet.t h1 g1, ?_, .inr ⟨_, h1⟩⟩
      cases hl : lkp l q with
      | some y => obtain ⟨w, hw, rw'⟩ := p1 y hl; exact .inl ⟨rfl, y, w, rfl, hw, rw'⟩
      | none => exact .inr ⟨rfl, p2 hl⟩
    · cases h
  · rename_i l
    simp only [Option.map_eq_some_iff] at h
    obtain ⟨q, hq, rfl⟩ := h
    obtain ⟨a, kvs, rfl, h1, h2, h3⟩ := hv.dK e
    have hk : u = kV q := keyD_rp (hu.rp e) hq
    subst hk
    obtain ⟨p1, p2⟩ := lkp_rp (k := q) h2 h3
    refine ⟨a, valV kvs q, rfl, DGet.k h1, ?_, .inl ⟨_, h1⟩⟩
    cases hl : lkp l q with
    | some y => obtain ⟨w, hw, rw'⟩ := p1 y hl; exact .inl ⟨rfl, y, w, rfl, hw, rw'⟩
    | none => exact .inr ⟨rfl, p2 hl⟩
  · cases h
def dIx (d i : D) : Option D := match d, i with
  | .lst l, .int i => atI l i
  | .tup l, .int i => atI l i
  | .scr l, .int i => (atI l i).map .int
  | .str z, .int i => if z.length ≤ sizeLine then (atI z.cps.toList i).map fun c => .str ⟨#[c]⟩ else none
  | d, k => match dGet d k with
    | some (some y) => some y
    | _ => none
def isDct : D → Bool
  | .dT _ => true
  | .dK _ => true
  | _ => false
theorem atI_rp {K : PySem.W.Frag} {H : Hp} {vs : List V} {ds : List D} {i : Int} {d : D} (r : RpAll K H vs ds) (h : atI ds i = some d) : ∃ v, atI vs i = some v ∧ Rp K H v d := by
  unfold atI at h ⊢
  rw [r.length]
  cases hj : ixN ds.length i with
  | none => rw [hj] at h; cases h
  | some j =>
    rw [hj] at h
    exact r.get h
section
variable {X : Cx} {W : WX} {tg e a b c : Expr} {es : List Expr} {pos : Pos}
def eIx (oa ob : Ev Src) : Ev Rv := e2 (fun d i => (dIx d i).map .val) oa ob
theorem snd_ix {oa ob : Ev Src} (R : Rm X) (ha : SndO X W a oa) (hb : SndO X W b ob) (hs : PlainIx b) : SndE X W (.Subscript a b pos) (eIx oa ob) := fun Bs B Hs H s r Q E q => by
  by_cases hd : ∃ x r1 y r2 d, oa r = .ok x r1 ∧ ob r1 = .ok y r2 ∧ x.rd r2 = some d ∧ isDct d = true
  · obtain ⟨x0, r10, y0, r20, d0, hx, hy, hxd, hdd⟩ := hd
    refine ⟨_, pe_dget (by have := R.un; omega) pe_all pe_all hs, ha _ _ _ _ _ _ _ E (PostE.bind q fun x r1 v Hs1 H1 m1 x1 E1 ra q1 => hb _ _ _ _ _ _ _ E1 (PostE.bind q1 fun y r2 u Hs2 H2 m2 x2 E2 rb q2 => ?_))⟩
    rw [hx] at m1; cases m1
    rw [hy] at m2; cases m2
    unfold two at q2
    split at q2
    · rename_i d i h1 h2
      rw [hxd] at h1; cases h1
      split at q2
      · rename_i z hz
        simp only [Option.map_eq_some_iff] at hz
        obtain ⟨w, hw, rfl⟩ := hz
        have od := Src.opd E2 (SrcAt.mono x2 ra) hxd
        have oi := Src.opd E2 rb h2
        have hg : dGet d0 i = some (some w) := by
          cases d0 <;> simp only [isDct, reduceCtorEq] at hdd <;> (simp only [dIx] at hw; split at hw <;> cases hw; assumption)
        obtain ⟨p, o, rfl, g, k, _⟩ := dGet_rp E2.sub od oi hg
        rcases k with ⟨_, y', w', e1, rfl, rw'⟩ | ⟨e1, _⟩
        · cases e1
          exact ⟨p, w', rfl, g, q2.ok E2 rw'⟩
        · cases e1
      · exact False.elim q2
    · exact False.elim q2
  · refine ⟨_, pe_ix ix_seq pe_all pe_all hs, ha _ _ _ _ _ _ _ E (PostE.bind q fun x r1 v Hs1 H1 m1 x1 E1 ra q1 => hb _ _ _ _ _ _ _ E1 (PostE.bind q1 fun y r2 u Hs2 H2 m2 x2 E2 rb q2 => ?_))⟩
    unfold two at q2
    split at q2
    · rename_i d i h1 h2
      have nd : isDct d = false := by
        cases hz : isDct d with
        | false => rfl
        | true => exact absurd ⟨x, r1, y, r2, d, m1, m2, h1, hz⟩ hd
      split at q2
      · rename_i z hz
        simp only [Option.map_eq_some_iff] at hz
        obtain ⟨w, hw, rfl⟩ := hz
        have od := Src.opd E2 (SrcAt.mono x2 ra) h1
        have oi := Src.opd E2 rb h2
        unfold dIx at hw
        split at hw
        · obtain ⟨p, vs, rfl, k1, k2⟩ := od.lst E2.sub
          rw [oi.int]
          obtain ⟨w', e1, e2⟩ := atI_rp k2 hw
          exact .inl ⟨p, vs, _, w', rfl, rfl, sq_of k1, e1, q2.ok E2 e2⟩
        · obtain ⟨p, vs, rfl, k1, k2, _⟩ := od.tup E2.sub
          rw [oi.int]
          obtain ⟨w', e1, e2⟩ := atI_rp k2 hw
          exact .inr (.inl ⟨p, vs, _, w', rfl, rfl, st_of k1, e1, q2.ok E2 e2⟩)
        · rename_i l k
          have hv := od.val (fun o => by cases o <;> intro z <;> cases z)
          rw [oi.int]
          simp only [Option.map_eq_some_iff] at hw
          obtain ⟨n, hn, rfl⟩ := hw
          cases hv with
          | scr hs =>
            have : atI (l.map V.int) k = some (.int n) := by
              unfold atI at hn ⊢
              rw [List.length_map]
              cases hj : ixN l.length k with
              | none => rw [hj] at hn; cases hn
              | some j =>
                rw [hj] at hn
                show (l.map V.int)[j]? = _
                rw [List.getElem?_map, show l[j]? = some n from hn]; rfl
            exact .inl ⟨_, _, _, _, rfl, rfl, ex_l E2.sub hs, this, q2.ok E2 (.int n)⟩
        · rw [od.str, oi.int]
          split at hw
          · rename_i hz
            simp only [Option.map_eq_some_iff] at hw
            obtain ⟨n, hn, rfl⟩ := hw
            exact .inr (.inr ⟨_, _, n, rfl, rfl, hz, hn, q2.ok E2 (.str _)⟩)
          · cases hw
        · split at hw
          · rename_i hg
            unfold dGet at hg
            cases d <;> simp only [isDct, reduceCtorEq] at nd <;> simp at hg
          · cases hw
      · exact False.elim q2
    · exact False.elim q2
/-! k in d, whatever d is -/
def dInA (d e : D) : Option Bool := match dGet e d with
  | some x => some x.isSome
  | none => dInB d e
def dInV (d e : D) : Option Rv := (dInA d e).map fun k => .val (.bl k)
def dNotInV (d e : D) : Option Rv := (dInA d e).map fun k => .val (.bl (!k))
def tDG (f : Bool → Bool) (ty td : TE) : TE := fun s H Q => ty s H fun y H1 => td s H1 fun x H2 => ∃ a o, x = .ref a ∧ DGet H2 a y o ∧ Q (.bl (f o.isSome)) H2
def dInF (f : Bool → Bool) (d e : D) : Option Rv := (dInA d e).map fun k => .val (.bl (f k))
theorem din_core {oa ob : Ev Src} {f : Bool → Bool} {x0 y0 : Src} {r10 r20 : Rho} {d0 e0 : D} {k0 : Option D} (ha : SndO X W a oa) (hb : SndO X W b ob) {Bs B Hs H : Hp} {s : St} {r : Rho} {Q : VK} (E : EnvOk X.K Bs B Hs H s r) (q : PostE X.K W Bs B Hs s (relR X.K B s) Q (e2 (dInF f) oa ob r))
    (hx : oa r = .ok x0 r10) (hy : ob r10 = .ok y0 r20) (hxd : x0.rd r20 = some d0) (hyd : y0.rd r20 = some e0) (hk : dGet e0 d0 = some k0) : tDG f (aE X a) (aE X b) s H Q := by
  refine ha _ _ _ _ _ _ _ E (PostE.bind q fun x r1 v Hs1 H1 m1 x1 E1 ra q1 => hb _ _ _ _ _ _ _ E1 (PostE.bind q1 fun y r2 u Hs2 H2 m2 x2 E2 rb q2 => ?_))
  rw [hx] at m1; cases m1
  rw [hy] at m2; cases m2
  obtain ⟨p, o, rfl, g, kk, _⟩ := dGet_rp E2.sub (Src.opd E2 rb hyd) (Src.opd E2 (SrcAt.mono x2 ra) hxd) hk
  refine ⟨p, o, rfl, g, ?_⟩
  have hs : o.isSome = k0.isSome := by
    rcases kk with ⟨_, y', w', rfl, rfl, _⟩ | ⟨rfl, rfl⟩ <;> rfl
  rw [hs]
  unfold two at q2
  rw [hxd, hyd] at q2
  simp only [dInF, dInA, hk, Option.map_some] at q2
  exact q2.ok E2 (.bl _)
/-- where the right side is no dict, the operator's own rule serves -/
theorem inf_two {op : CmpOp} {f : Bool → Bool} {oa ob : Ev Src} (ok : OpOk X (compareOp op) fun d e => (dInB d e).map fun k => .val (.bl (f k))) (ha : SndO X W a oa) (hb : SndO X W b ob) {Bs B Hs H : Hp} {s : St} {r : Rho} {Q : VK} (E : EnvOk X.K Bs B Hs H s r)
    (q : PostE X.K W Bs B Hs s (relR X.K B s) Q (e2 (dInF f) oa ob r))
    (hd : ¬ ∃ x r1 y r2 d e k, oa r = .ok x r1 ∧ ob r1 = .ok y r2 ∧ x.rd r2 = some d ∧ y.rd r2 = some e ∧ dGet e d = some k) : tOp (rAny X (compareOp op)) (aE X a) (aE X b) s H Q := by
  refine ha _ _ _ _ _ _ _ E (PostE.bind q fun x r1 v Hs1 H1 m1 x1 E1 ra q1 => hb _ _ _ _ _ _ _ E1 (PostE.bind q1 fun y r2 u Hs2 H2 m2 x2 E2 rb q2 => two_ok (W := W) ok E2 (SrcAt.mono x2 ra) rb ?_))
  unfold two at q2 ⊢
  split at q2
  · rename_i d e h1 h2
    have hn : dGet e d = none := by
      cases hz : dGet e d with
      | none => rfl
      | some k => exact absurd ⟨x, r1, y, r2, d, e, k, m1, m2, h1, h2, hz⟩ hd
    simp only [dInF, dInA, hn] at q2
    exact q2
  · exact False.elim q2
theorem snd_in {oa ob : Ev Src} (R : Rm X) (ha : SndO X W a oa) (hb : SndO X W b ob) (hm : behindInMarks .In b = false := by rfl) : SndE X W (.Compare a [.In] [b] pos) (e2 (dInF id) oa ob) := fun Bs B Hs H s r Q E q => by
  by_cases hd : ∃ x r1 y r2 d e k, oa r = .ok x r1 ∧ ob r1 = .ok y r2 ∧ x.rd r2 = some d ∧ y.rd r2 = some e ∧ dGet e d = some k
  · obtain ⟨x0, r10, y0, r20, d0, e0, k0, h1, h2, h3, h4, h5⟩ := hd
    exact ⟨_, pe_cmp (pc_din (by have := R.un; omega) pe_all pe_all) hm, din_core ha hb E q h1 h2 h3 h4 h5⟩
  · exact ⟨_, pe_cmpR op_any pe_all pe_all hm, inf_two (ok_in2 R).1 ha hb E q hd⟩
theorem snd_notin {oa ob : Ev Src} (R : Rm X) (ha : SndO X W a oa) (hb : SndO X W b ob) (hm : behindInMarks .NotIn b = false := by rfl) : SndE X W (.Compare a [.NotIn] [b] pos) (e2 (dInF (!·)) oa ob) := fun Bs B Hs H s r Q E q => by
  by_cases hd : ∃ x r1 y r2 d e k, oa r = .ok x r1 ∧ ob r1 = .ok y r2 ∧ x.rd r2 = some d ∧ y.rd r2 = some e ∧ dGet e d = some k
  · obtain ⟨x0, r10, y0, r20, d0, e0, k0, h1, h2, h3, h4, h5⟩ := hd
    exact ⟨_, pe_cmp (pc_dnotin (by have := R.un; omega) pe_all pe_all) hm, din_core ha hb E q h1 h2 h3 h4 h5⟩
  · exact ⟨_, pe_cmpR op_any pe_all pe_all hm, inf_two (ok_in2 R).2 ha hb E q hd⟩
theorem snt_in {oa ob : Ev Src} (R : Rm X) (ha : SndO X W a oa) (hb : SndO X W b ob) (hm : behindInMarks .In b = false := by rfl) : SndT X W (.Compare a [.In] [b] pos) (tv (e2 (dInF id) oa ob)) := fun Bs B Hs H s r Q E q => by
  have q := tv_post (m := e2 (dInF id) oa ob r) q
  by_cases hd : ∃ x r1 y r2 d e k, oa r = .ok x r1 ∧ ob r1 = .ok y r2 ∧ x.rd r2 = some d ∧ y.rd r2 = some e ∧ dGet e d = some k
  · obtain ⟨x0, r10, y0, r20, d0, e0, k0, h1, h2, h3, h4, h5⟩ := hd
    exact ⟨_, pt_cmp (pc_din (by have := R.un; omega) pe_all pe_all) hm, din_core ha hb E q h1 h2 h3 h4 h5⟩
  · exact ⟨_, pt_cmpR op_any pe_all pe_all hm, inf_two (ok_in2 R).1 ha hb E q hd⟩
theorem snt_notin {oa ob : Ev Src} (R : Rm X) (ha : SndO X W a oa) (hb : SndO X W b ob) (hm : behindInMarks .NotIn b = false := by rfl) : SndT X W (.Compare a [.NotIn] [b] pos) (tv (e2 (dInF (!·)) oa ob)) := fun Bs B Hs H s r Q E q => by
  have q := tv_post (m := e2 (dInF (!·)) oa ob r) q
  by_cases hd : ∃ x r1 y r2 d e k, oa r = .ok x r1 ∧ ob r1 = .ok y r2 ∧ x.rd r2 = some d ∧ y.rd r2 = some e ∧ dGet e d = some k
  · obtain ⟨x0, r10, y0, r20, d0, e0, k0, h1, h2, h3, h4, h5⟩ := hd
    exact ⟨_, pt_cmp (pc_dnotin (by have := R.un; omega) pe_all pe_all) hm, din_core ha hb E q h1 h2 h3 h4 h5⟩
  · exact ⟨_, pt_cmpR op_any pe_all pe_all hm, inf_two (ok_in2 R).2 ha hb E q hd⟩
/-! d.get(k), d.get(k, y) -/
def eGet1 (oa ob : Ev Src) : Ev Rv := fun r => (oa r).bind fun x r1 => match x.rd r1 with
  | some d1 => if isDct d1 then (ob r1).bind fun y r2 => (match x.rd r2, y.rd r2 with
    | some d, some k => (match dGet d k with
      | some o => .ok (.val (o.getD .non)) r2
      | none => .stuck)
    | _, _ => .stuck) else .stuck
  | none => .stuck
def eGet2 (oa ob oc : Ev Src) : Ev Rv := fun r => (oa r).bind fun x r1 => match x.rd r1 with
  | some d1 => if isDct d1 then (ob r1).bind fun y r2 => (oc r2).bind fun z r3 => (match x.rd r3, y.rd r3, z with
    | some d, some k, .dat w => (match dGet d k with
      | some o => .ok (.val (o.getD w)) r3
      | none => .stuck)
    | _, _, _ => .stuck) else .stuck
  | none => .stuck
theorem isD_of {K : PySem.W.Frag} {Hs H : Hp} (e : Ex Hs H) {v : V} {d : D} (h : Opd K Hs H v d) (hd : isDct d = true) : ∃ a, v = .ref a ∧ IsD H a := by
  cases d <;> simp only [isDct, reduceCtorEq] at hd
  · obtain ⟨a, kvs, rfl, h1, _⟩ := h.dT e; exact ⟨a, rfl, .inr ⟨kvs, .inl h1⟩⟩
  · obtain ⟨a, kvs, rfl, h1, _⟩ := h.dK e; exact ⟨a, rfl, .inl ⟨kvs, .inl h1⟩⟩
theorem snd_get1 {apos : Pos} {oa ob : Ev Src} (R : Rm X) (ha : SndO X W a oa) (hb : SndO X W b ob) (m : M1 X a "get" apos b pos) : SndE X W (.Call (.Attribute a "get" apos) [b] [] pos) (eGet1 oa ob) := fun Bs B Hs H s r Q E q =>
  ⟨_, pe_dget1 (by have := R.un; omega) pe_all pe_all m, ha _ _ _ _ _ _ _ E (PostE.bind q fun x r1 v Hs1 H1 _ x1 E1 ra q1 => by
    split at q1
    · rename_i d1 h1
      split at q1
      · rename_i h2
        obtain ⟨p, rfl, isd⟩ := isD_of E1.sub (Src.opd E1 ra h1) h2
        refine ⟨p, rfl, isd, hb _ _ _ _ _ _ _ E1 (PostE.bind q1 fun y r2 u Hs2 H2 _ x2 E2 rb q2 => ?_)⟩
        split at q2
        · rename_i d k h3 h4
          split at q2
          · rename_i o h5
            obtain ⟨p', o', e1, g, kk, _⟩ := dGet_rp E2.sub (Src.opd E2 (SrcAt.mono x2 ra) h3) (Src.opd E2 rb h4) h5
            cases e1
            refine ⟨o', g, ?_⟩
            rcases kk with ⟨_, y', w', rfl, rfl, hw⟩ | ⟨rfl, rfl⟩
            · exact q2.ok E2 hw
            · exact q2.ok E2 .non
          · exact False.elim q2
        · exact False.elim q2
      · exact False.elim q1
    · exact False.elim q1)⟩
theorem snd_get2 {apos : Pos} {oa ob oc : Ev Src} (R : Rm X) (ha : SndO X W a oa) (hb : SndO X W b ob) (hc : SndO X W c oc) (m : M2 X a "get" apos b c pos) : SndE X W (.Call (.Attribute a "get" apos) [b, c] [] pos) (eGet2 oa ob oc) := fun Bs B Hs H s r Q E q =>
  ⟨_, pe_dget2 (by have := R.un; omega) pe_all pe_all pe_all m, ha _ _ _ _ _ _ _ E (PostE.bind q fun x r1 v Hs1 H1 _ x1 E1 ra q1 => by
    split at q1
    · rename_i d1 h1
      split at q1
      · rename_i h2
        obtain ⟨p, rfl, isd⟩ := isD_of E1.sub (Src.opd E1 ra h1) h2
        refine ⟨p, rfl, isd, hb _ _ _ _ _ _ _ E1 (PostE.bind q1 fun y r2 u Hs2 H2 _ x2 E2 rb q2 => hc _ _ _ _ _ _ _ E2 (PostE.bind q2 fun z r3 w0 Hs3 H3 _ x3 E3 rc q3 => ?_))⟩
        split at q3
        · rename_i d k w h3 h4 h4'
          split at q3
          · rename_i o h5
            obtain ⟨p', o', e1, g, kk, _⟩ := dGet_rp E3.sub (Src.opd E3 (SrcAt.mono (x2.trans x3) ra) h3) (Src.opd E3 (SrcAt.mono x3 rb) h4) h5
            cases e1
            refine ⟨o', g, ?_⟩
            rcases kk with ⟨_, y', w', rfl, rfl, hw⟩ | ⟨rfl, rfl⟩
            · exact q3.ok E3 hw
            · exact q3.ok E3 rc
          · exact False.elim q3
        · exact False.elim q3
      · exact False.elim q1
    · exact False.elim q1)⟩
/-! ### slices -/
def cutD {A : Type} (xs : List A) (lo hi : Option Int) : List A := (xs.drop (HT.sIx xs.length 0 lo)).take (HT.sIx xs.length xs.length hi - HT.sIx xs.length 0 lo)
def dSl (d : D) (lo hi : Option Int) : Option Rv := match d with
  | .lst l => some (.new (.lst (cutD l lo hi)))
  | .scr l => some (.new (.lst ((cutD l lo hi).map .int)))
  | .tup l => some (.val (.tup (cutD l lo hi)))
  | .str z => if z.length ≤ sizeLine then vS (cutS z lo hi) else none
  | _ => none
theorem RpAll.cut {K : PySem.W.Frag} {H : Hp} {vs : List V} {ds : List D} (h : RpAll K H vs ds) (lo hi : Option Int) : RpAll K H (cutV vs lo hi) (cutD ds lo hi) := by
  unfold cutV cutD
  rw [h.length]
  exact (h.drop _).take _
def OptP (X : Cx) (W : WX) (e : Option Expr) (ev : Ev (Option Int)) : Prop := ∀ (Bs B Hs H : Hp) (s : St) (r : Rho) (Q : Option Int → Hp → Prop), EnvOk X.K Bs B Hs H s r →
  PostE X.K W Bs B Hs s (fun _ _ _ (y : Option Int) z => y = z) Q (ev r) → ∃ t, PO X e t ∧ t s H Q
def aO (X : Cx) (e : Option Expr) : TO := fun s H Q => ∃ t, PO X e t ∧ t s H Q
theorem po_all {e : Option Expr} : PO X e (aO X e) := ⟨fun pins s σ H Q I ⟨t, h, q⟩ => h.run pins s σ H Q I q⟩
def pNone : Ev (Option Int) := fun r => .ok none r
def pSome (oa : Ev Src) : Ev (Option Int) := fun r => (oa r).bind fun x r1 => match x.rd r1 with
  | some (.int i) => .ok (some i) r1
  | _ => .stuck
theorem op_none : OptP X W none pNone := fun Bs B Hs H s r Q E q => ⟨_, po_none, q.ok E rfl⟩
theorem op_some {oa : Ev Src} (ha : SndO X W a oa) : OptP X W (some a) (pSome oa) := fun Bs B Hs H s r Q E q => ⟨_, po_some pe_all, ha _ _ _ _ _ _ _ E (PostE.bind q fun x r1 v Hs1 H1 _ x1 E1 ra q1 => by
  split at q1
  · rename_i i hi
    rw [(Src.opd E1 ra hi).int]
    exact ⟨i, rfl, q1.ok E1 rfl⟩
  · exact False.elim q1)⟩
def eSl (oa : Ev Src) (pl ph : Ev (Option Int)) : Ev Rv := fun r => (oa r).bind fun x r1 => (pl r1).bind fun lo r2 => (ph r2).bind fun hi r3 => match x.rd r3 with
  | some d => (match dSl d lo hi with
    | some z => .ok z r3
    | none => .stuck)
  | none => .stuck
def rSlAny (X : Cx) : V → Option Int → Option Int → Hp → VK → Prop := fun x lo hi H Q => ∃ rr, SlR X rr ∧ rr x lo hi H Q
theorem sl_any : SlR X (rSlAny X) := fun pins s σ H x v vl vu lo hi sl Q I rx h1 h2 h3 ⟨rr, h, q⟩ => h pins s σ H x v vl vu lo hi sl Q I rx h1 h2 h3 q
theorem snd_sl {lo hi : Option Expr} {oa : Ev Src} {pl ph : Ev (Option Int)} {p2 : Pos} (ha : SndO X W a oa) (hl : OptP X W lo pl) (hh : OptP X W hi ph) : SndE X W (.Subscript a (.Slice lo hi none p2) pos) (eSl oa pl ph) := fun Bs B Hs H s r Q E q =>
  ⟨_, pe_slice sl_any pe_all po_all po_all, ha _ _ _ _ _ _ _ E (PostE.bind q fun x r1 v Hs1 H1 _ x1 E1 ra q1 => hl _ _ _ _ _ _ _ E1 (PostE.bind q1 fun l r2 l' Hs2 H2 _ x2 E2 rb q2 => hh _ _ _ _ _ _ _ E2 (PostE.bind q2 fun h r3 h' Hs3 H3 _ x3 E3 rc q3 => by
    have rb : l' = l := rb
    have rc : h' = h := rc
    subst rb; subst rc
    split at q3
    · rename_i d hd
      have o := Src.opd E3 (SrcAt.mono (x2.trans x3) ra) hd
      split at q3
      · rename_i z hz
        unfold dSl at hz
        split at hz
        · cases hz
          obtain ⟨p, vs, rfl, k1, k2⟩ := o.lst E3.sub
          exact ⟨_, sl_list, p, vs, rfl, sq_of k1, fun q hq => (PostE.prim E3 q3).lst E3 (k2.cut _ _) hq⟩
        · cases hz
          rename_i l
          have hv := o.val (fun o => by cases o <;> intro z <;> cases z)
          cases hv with
          | scr hs =>
            refine ⟨_, sl_list, _, _, rfl, ex_l E3.sub hs, fun q hq => (PostE.prim E3 q3).lst E3 ?_ hq⟩
            have e : cutV (l.map V.int) l' h' = (cutD l l' h').map V.int := by
              unfold cutV cutD
              rw [List.length_map, List.map_take, List.map_drop]
            rw [e]
            generalize cutD l l' h' = m
            induction m with
            | nil => exact .nil
            | cons a m ih => exact .cons (.int a) ih
        · cases hz
          rename_i l
          obtain ⟨p, vs, rfl, k1, k2, k3⟩ := o.tup E3.sub
          refine ⟨_, sl_tupA, p, vs, rfl, st_of k1, fun e => ?_, fun _ q hq => (PostE.prim E3 q3).tup E3 (k2.cut _ _) hq⟩
          have : cutD l l' h' = l := by
            unfold cutD
            rw [← k2.length, e.1, e.2, List.drop_zero, Nat.sub_zero, List.take_of_length_le (by rw [k2.length]; exact Nat.le_refl _)]
          rw [this] at q3
          exact q3.ok E3 k3
        · split at hz <;> cases hz
          rw [o.str]
          exact ⟨_, sl_str, _, rfl, by assumption, q3.ok E3 (.str _)⟩
        · cases hz
      · exact False.elim q3
    · exact False.elim q3)))⟩
end
end Mp
set_option Elab.async false
set_option linter.all false
set_option maxRecDepth 100000
namespace Mp
open PySem L2 Evl
/-! ### calls of built-ins -/
inductive OpdAll (K : PySem.W.Frag) (Hs H : Hp) : List V → List D → Prop
  | nil : OpdAll K Hs H [] []
  | cons {v : V} {vs : List V} {d : D} {ds : List D} : Opd K Hs H v d → OpdAll K Hs H vs ds → OpdAll K Hs H (v :: vs) (d :: ds)
def rdAll (r : Rho) : List Src → Option (List D)
  | [] => some []
  | x :: xs => match x.rd r, rdAll r xs with
    | some d, some ds => some (d :: ds)
    | _, _ => none
theorem SrcAll.opd {K : PySem.W.Frag} {Bs B Hs H : Hp} {s : St} {r : Rho} (E : EnvOk K Bs B Hs H s r) : ∀ {vs : List V} {xs : List Src} {ds : List D}, SrcAll K Hs s vs xs → rdAll r xs = some ds → OpdAll K Hs H vs ds
  | _, _, _, .nil, e => by cases e; exact .nil
  | _, _, _, .cons a b, e => by
    unfold rdAll at e
    split at e
    · rename_i d ds h1 h2
      cases e
      exact .cons (Src.opd E a h1) (SrcAll.opd E b h2)
    · cases e
def CallOk (X : Cx) (g : Value) (f : List D → Option Rv) : Prop := ∀ (Bs B Hs H : Hp) (s : St) (r : Rho) (vs : List V) (ds : List D) (x : Rv) (Q : VK), EnvOk X.K Bs B Hs H s r → OpdAll X.K Hs H vs ds → f ds = some x →
  PrimQ X.K Bs B Hs H s r Q x → ∃ rr, CallR X g rr ∧ rr vs H Q
def cAny (X : Cx) (g : Value) : List V → Hp → VK → Prop := fun vs H Q => ∃ rr, CallR X g rr ∧ rr vs H Q
theorem cr_any' {X : Cx} {g : Value} : CallR X g (cAny X g) := fun pins s σ H xs us Q I r ⟨rr, h, q⟩ => h pins s σ H xs us Q I r q
def eCB (f : List D → Option Rv) (as : Ev (List Src)) : Ev Rv := fun r => (as r).bind fun xs r1 => match rdAll r1 xs with
  | some ds => (match f ds with
    | some z => .ok z r1
    | none => .stuck)
  | none => .stuck
section
variable {X : Cx} {W : WX} {z : Bool} {e o : Expr} {es : List Expr} {pos p apos cpos : Pos} {x : Str}
theorem ecb_core {g : Value} {f : List D → Option Rv} {as : Ev (List Src)} (ok : CallOk X g f) (ha : SndA X W es as) {Bs B Hs H : Hp} {s : St} {r : Rho} {Q : VK} (E : EnvOk X.K Bs B Hs H s r) (q : PostE X.K W Bs B Hs s (relR X.K B s) Q (eCB f as r)) :
    tCB (cAny X g) (aA X es) s H Q := ha _ _ _ _ _ _ _ E (PostE.bind q fun xs r1 vs Hs1 H1 _ x1 E1 ra q1 => by
  split at q1
  · rename_i ds h1
    split at q1
    · rename_i z hz
      exact ok Bs B Hs1 H1 s r1 vs ds z Q E1 (SrcAll.opd E1 ra h1) hz (PostE.prim E1 q1)
    · exact False.elim q1
  · exact False.elim q1)
theorem snd_cb {id : String} {f : List D → Option Rv} {as : Ev (List Src)} (ok : CallOk X (.builtin id) f) (ha : SndA X W (e :: es) as) (hg : Gl X x) (hm : X.mg x = none) (hv : bootBuiltins x = some (.builtin id)) (hn : x ≠ "__name__" := by decide) (hdb : (x == ("__debug__" : Str)) = false := by decide)
    (he : starEach (e :: es) X.env = (false, eval e X.env) :: starEach es X.env := by rfl) (hpl : (backTo pos (starEach es X.env)).any (·.1) = false := by rfl) : SndE X W (.Call (.Name x p) (e :: es) [] pos) (eCB f as) := fun Bs B Hs H s r Q E q =>
  ⟨_, pe_callB cr_any' hg hm hv pa_all hn hdb he hpl, ecb_core ok ha E q⟩
theorem snd_ct {T : String} {f : List D → Option Rv} {as : Ev (List Src)} (ok : CallOk X (.type T) f) (ha : SndA X W (e :: es) as) (hg : Gl X x) (hm : X.mg x = none) (hv : bootBuiltins x = some (.type T)) (hn : x ≠ "__name__" := by decide) (hdb : (x == ("__debug__" : Str)) = false := by decide)
    (he : starEach (e :: es) X.env = (false, eval e X.env) :: starEach es X.env := by rfl) (hpl : (backTo pos (starEach es X.env)).any (·.1) = false := by rfl) : SndE X W (.Call (.Name x p) (e :: es) [] pos) (eCB f as) := fun Bs B Hs H s r Q E q =>
  ⟨_, pe_callTy cr_any' hg hm hv pa_all hn hdb he hpl, ecb_core ok ha E q⟩
theorem OpdAll.one {K : PySem.W.Frag} {Hs H : Hp} {vs : List V} {d : D} (h : OpdAll K Hs H vs [d]) : ∃ v, vs = [v] ∧ Opd K Hs H v d := by
  cases h with | cons a b => cases b; exact ⟨_, rfl, a⟩
theorem OpdAll.two {K : PySem.W.Frag} {Hs H : Hp} {vs : List V} {d e : D} (h : OpdAll K Hs H vs [d, e]) : ∃ v u, vs = [v, u] ∧ Opd K Hs H v d ∧ Opd K Hs H u e := by
  cases h with | cons a b => cases b with | cons b c => cases c; exact ⟨_, _, rfl, a, b⟩
theorem Opd.scr {K : PySem.W.Frag} {Hs H : Hp} (e : Ex Hs H) {v : V} {l : List Int} (h : Opd K Hs H v (.scr l)) : ∃ a, v = .ref a ∧ SqL K H a (l.map V.int) := by
  have hv := h.val (fun o => by cases o <;> intro z <;> cases z)
  cases hv with | scr hs => exact ⟨_, rfl, ex_l e hs⟩
def dLen : List D → Option Rv
  | [.lst l] => vI l.length
  | [.tup l] => vI l.length
  | [.scr l] => vI l.length
  | [.dK l] => vI l.length
  | [.str z] => if z.length ≤ sizeLine then vI z.length else none
  | _ => none
theorem ok_len : CallOk X (.builtin "len") dLen := by
  intro Bs B Hs H s r vs ds x Q E h hf q
  unfold dLen at hf
  split at hf
  · cases hf
    obtain ⟨v, rfl, hh⟩ := h.one; clear h; have h := hh
    obtain ⟨a, us, rfl, h1, h2⟩ := h.lst E.sub
    exact ⟨_, call_len_seq, a, us, rfl, .inl (sq_of h1), by rw [h2.length]; exact q.val E (.int _)⟩
  · cases hf
    obtain ⟨v, rfl, hh⟩ := h.one; clear h; have h := hh
    obtain ⟨a, us, rfl, h1, h2, _⟩ := h.tup E.sub
    exact ⟨_, call_len_seq, a, us, rfl, .inr (st_of h1), by rw [h2.length]; exact q.val E (.int _)⟩
  · cases hf
    obtain ⟨v, rfl, hh⟩ := h.one; clear h; have h := hh
    obtain ⟨a, rfl, h1⟩ := h.scr E.sub
    exact ⟨_, call_len_seq, a, _, rfl, .inl h1, by rw [List.length_map]; exact q.val E (.int _)⟩
  · cases hf
    rename_i l
    obtain ⟨v, rfl, hh⟩ := h.one; clear h; have h := hh
    obtain ⟨a, kvs, rfl, h1, h2, _⟩ := h.dK E.sub
    have hl : kvs.length = l.length := by have := congrArg List.length h2; simpa using this
    exact ⟨_, call_lenD, a, kvs, rfl, h1, by rw [hl]; exact q.val E (.int _)⟩
  · split at hf <;> cases hf
    obtain ⟨v, rfl, hh⟩ := h.one; clear h; have h := hh
    rw [h.str]
    exact ⟨_, call_len_str, _, rfl, by assumption, q.val E (.int _)⟩
  · cases hf
def dAbs : List D → Option Rv
  | [.int i] => vI (if i < 0 then -i else i)
  | _ => none
theorem ok_abs : CallOk X (.builtin "abs") dAbs := by
  intro Bs B Hs H s r vs ds x Q E h hf q
  unfold dAbs at hf
  split at hf <;> cases hf
  obtain ⟨v, rfl, hh⟩ := h.one; clear h; have h := hh
  rw [h.int]
  exact ⟨_, call_abs, _, rfl, q.val E (.int _)⟩
def dMin : List D → Option Rv
  | [.int i, .int j] => vI (if j < i then j else i)
  | _ => none
theorem ok_min (R : Rm X) : CallOk X (.builtin "min") dMin := by
  intro Bs B Hs H s r vs ds x Q E h hf q
  unfold dMin at hf
  split at hf <;> cases hf
  obtain ⟨v, u, rfl, hh, h'⟩ := h.two; clear h; have h := hh
  rw [h.int, h'.int]
  exact ⟨_, call_min2 R.calm, _, _, rfl, q.val E (.int _)⟩
def dMax : List D → Option Rv
  | [.int i, .int j] => vI (if j > i then j else i)
  | _ => none
theorem ok_max (R : Rm X) : CallOk X (.builtin "max") dMax := by
  intro Bs B Hs H s r vs ds x Q E h hf q
  unfold dMax at hf
  split at hf <;> cases hf
  obtain ⟨v, u, rfl, hh, h'⟩ := h.two; clear h; have h := hh
  rw [h.int, h'.int]
  exact ⟨_, call_max2 R.calm, _, _, rfl, q.val E (.int _)⟩
def dDivmod : List D → Option Rv
  | [.int i, .int j] => if 0 < j ∧ j < 1073741824 then some (.val (.tup [.int (i / j), .int (i % j)])) else none
  | _ => none
theorem ok_divmod : CallOk X (.builtin "divmod") dDivmod := by
  intro Bs B Hs H s r vs ds x Q E h hf q
  unfold dDivmod at hf
  split at hf
  · split at hf <;> cases hf
    rename_i hz
    obtain ⟨v, u, rfl, hh, h'⟩ := h.two; clear h; have h := hh
    rw [h.int, h'.int]
    exact ⟨_, call_divmod, _, _, rfl, hz, fun p hp => q.tup E (.cons (.int _) (.cons (.int _) .nil)) hp⟩
  · cases hf
def dInt : List D → Option Rv
  | [.int i] => vI i
  | [.bl k] => vI (if k then 1 else 0)
  | [.str a] => if a.length ≤ 640 then (match PySem.intText? a with
    | some n => vI n
    | none => none) else none
  | _ => none
theorem ok_int : CallOk X (.type "int") dInt := by
  intro Bs B Hs H s r vs ds x Q E h hf q
  unfold dInt at hf
  split at hf
  · cases hf
    obtain ⟨v, rfl, hh⟩ := h.one; clear h; have h := hh
    rw [h.int]
    exact ⟨_, call_int1, .inl ⟨_, rfl, q.val E (.int _)⟩⟩
  · cases hf
    obtain ⟨v, rfl, hh⟩ := h.one; clear h; have h := hh
    rw [h.bl]
    exact ⟨_, call_int1, .inr ⟨_, rfl, q.val E (.int _)⟩⟩
  · split at hf
    · rename_i hz
      split at hf <;> cases hf
      rename_i n hn
      obtain ⟨v, rfl, hh⟩ := h.one; clear h; have h := hh
      rw [h.str]
      exact ⟨_, call_int_str, _, _, rfl, hn, hz, q.val E (.int _)⟩
    · cases hf
  · cases hf
def dStr : List D → Option Rv
  | [.int i] => if i.natAbs.log2 < 1920 then vS (toString i) else none
  | _ => none
theorem ok_str : CallOk X (.type "str") dStr := by
  intro Bs B Hs H s r vs ds x Q E h hf q
  unfold dStr at hf
  split at hf
  · split at hf <;> cases hf
    obtain ⟨v, rfl, hh⟩ := h.one; clear h; have h := hh
    rw [h.int]
    exact ⟨_, call_str_int, _, rfl, by assumption, q.val E (.str _)⟩
  · cases hf
def dListOf : List D → Option Rv
  | [.lst l] => some (.new (.lst l))
  | [.tup l] => some (.new (.lst l))
  | _ => none
theorem ok_list : CallOk X (.type "list") dListOf := by
  intro Bs B Hs H s r vs ds x Q E h hf q
  unfold dListOf at hf
  split at hf
  · cases hf
    obtain ⟨v, rfl, hh⟩ := h.one; clear h; have h := hh
    obtain ⟨a, us, rfl, h1, h2⟩ := h.lst E.sub
    exact ⟨_, call_list_of, a, us, rfl, .inl (sq_of h1), fun p hp => q.lst E h2 hp⟩
  · cases hf
    obtain ⟨v, rfl, hh⟩ := h.one; clear h; have h := hh
    obtain ⟨a, us, rfl, h1, h2, _⟩ := h.tup E.sub
    exact ⟨_, call_list_of, a, us, rfl, .inr (st_of h1), fun p hp => q.lst E h2 hp⟩
  · cases hf
def dTupOf : List D → Option Rv
  | [.lst l] => some (.val (.tup l))
  | [.tup l] => some (.val (.tup l))
  | _ => none
theorem ok_tuple : CallOk X (.type "tuple") dTupOf := by
  intro Bs B Hs H s r vs ds x Q E h hf q
  unfold dTupOf at hf
  split at hf
  · cases hf
    obtain ⟨v, rfl, hh⟩ := h.one; clear h; have h := hh
    obtain ⟨a, us, rfl, h1, h2⟩ := h.lst E.sub
    exact ⟨_, call_tuple_of, a, us, rfl, .inl ⟨sq_of h1, fun p hp => q.tup E h2 hp⟩⟩
  · cases hf
    obtain ⟨v, rfl, hh⟩ := h.one; clear h; have h := hh
    obtain ⟨a, us, rfl, h1, h2, h3⟩ := h.tup E.sub
    exact ⟨_, call_tuple_of, a, us, rfl, .inr ⟨st_of h1, q.val E h3⟩⟩
  · cases hf
/-- bools, texts of a list -/
def toBls : List D → Option (List Bool)
  | [] => some []
  | .bl b :: l => (toBls l).map (b :: ·)
  | _ => none
theorem toBls_rp {K : PySem.W.Frag} {H : Hp} : ∀ {ds : List D} {ns : List Bool} {vs : List V}, toBls ds = some ns → RpAll K H vs ds → vs = ns.map V.bl
  | [], _, _, h, .nil => by simp only [toBls, Option.some.injEq] at h; subst h; rfl
  | d :: ds, _, _, h, .cons a b => by
    cases d <;> simp only [toBls, Option.map_eq_some_iff, reduceCtorEq] at h
    obtain ⟨ms, h1, rfl⟩ := h
    cases a
    rw [toBls_rp h1 b]; rfl
def toStrs : List D → Option (List Str)
  | [] => some []
  | .str b :: l => (toStrs l).map (b :: ·)
  | _ => none
theorem toStrs_rp {K : PySem.W.Frag} {H : Hp} : ∀ {ds : List D} {ns : List Str} {vs : List V}, toStrs ds = some ns → RpAll K H vs ds → vs = ns.map V.str
  | [], _, _, h, .nil => by simp only [toStrs, Option.some.injEq] at h; subst h; rfl
  | d :: ds, _, _, h, .cons a b => by
    cases d <;> simp only [toStrs, Option.map_eq_some_iff, reduceCtorEq] at h
    obtain ⟨ms, h1, rfl⟩ := h
    cases a
    rw [toStrs_rp h1 b]; rfl
def dAll : List D → Option Rv
  | [.lst l] => (toBls l).map fun bs => .val (.bl (bs.all id))
  | _ => none
theorem ok_all (R : Rm X) : CallOk X (.builtin "all") dAll := by
  intro Bs B Hs H s r vs ds x Q E h hf q
  unfold dAll at hf
  split at hf
  · simp only [Option.map_eq_some_iff] at hf
    obtain ⟨bs, hb, rfl⟩ := hf
    obtain ⟨v, rfl, hh⟩ := h.one; clear h; have h := hh
    obtain ⟨a, us, rfl, h1, h2⟩ := h.lst E.sub
    have := toBls_rp hb h2
    subst this
    exact ⟨_, cr_all R.calm, a, bs, rfl, sq_of h1, q.val E (.bl _)⟩
  · cases hf
/-! ### methods of built-ins -/
def MtOk (X : Cx) (id : String) (T : String) (f : D → List D → Option Rv) : Prop := ∀ (Bs B Hs H : Hp) (s : St) (r : Rho) (v : V) (vs : List V) (d : D) (ds : List D) (x : Rv) (Q : VK), EnvOk X.K Bs B Hs H s r → Opd X.K Hs H v d → OpdAll X.K Hs H vs ds → f d ds = some x →
  PrimQ X.K Bs B Hs H s r Q x → ∃ rr, MtR X id rr ∧ rr v vs H Q
def mAny (X : Cx) (id : String) : V → List V → Hp → VK → Prop := fun v vs H Q => ∃ rr, MtR X id rr ∧ rr v vs H Q
theorem mt_any {id : String} : MtR X id (mAny X id) := fun pins s σ H x xs v us Q I r r2 ⟨rr, h, q⟩ => h pins s σ H x xs v us Q I r r2 q
/-- T is the receiver's type -/
def tyD : D → String
  | .str _ => "str"
  | .int _ => "int"
  | .lst _ => "list"
  | .scr _ => "list"
  | .dT _ => "dict"
  | .dK _ => "dict"
  | _ => ""
theorem tyD_ok {Hs H : Hp} (e : Ex Hs H) {v : V} {d : D} {T : String} (h : Opd X.K Hs H v d) (ht : tyD d = T) (hT : T ≠ "") : tyV X.K T v H := by
  have k := h.rp e
  clear h
  subst ht
  cases k
  · exact absurd rfl hT
  · exact absurd rfl hT
  · exact rfl
  · exact rfl
  · rename_i h _; exact .inl ⟨rfl, _, sq_of h⟩
  · exact absurd rfl hT
  · rename_i h; exact .inl ⟨rfl, _, h⟩
  · rename_i h _ _; exact .inr (.inr (.inl ⟨rfl, .inr ⟨_, h⟩⟩))
  · rename_i h _ _; exact .inr (.inr (.inl ⟨rfl, .inl ⟨_, h⟩⟩))
  · exact absurd rfl hT
def eMt (T : String) (f : D → List D → Option Rv) (oa : Ev Src) (as : Ev (List Src)) : Ev Rv := fun r => (oa r).bind fun x r1 => match x.rd r1 with
  | some d1 => if tyD d1 = T then (as r1).bind fun ys r2 => (match x.rd r2, rdAll r2 ys with
    | some d, some ds => (match f d ds with
      | some z => .ok z r2
      | none => .stuck)
    | _, _ => .stuck) else .stuck
  | none => .stuck
theorem snd_mt {name : Str} {T id : String} {f : D → List D → Option Rv} {oa : Ev Src} {as : Ev (List Src)} (ok : MtOk X id T f) (ha : SndO X W o oa) (hs : SndA X W (e :: es) as) (hT : T ≠ "") (pa : PlainAttrs T) (slot : Slot T name id) (hty : typeOf (.builtin id) = pure (.type "method_descriptor"))
    (hbase : attributeBase o name X.env (eval o X.env) = eval o X.env := by rfl)
    (hfew : ((backTo cpos (starEach (e :: es) X.env)).all (fun x => !x.1) && (backToKw cpos (keywordEach [] X.env)).all (fun x => x.1.isSome)
      && decide ((e :: es).length + ([] : List Keyword).length + (if ([] : List Keyword).isEmpty then 0 else 1) < 30)) = true := by rfl)
    (hline : (apos.endLine == cpos.line) = true := by rfl) (hst : starEach (e :: es) X.env = (false, eval e X.env) :: starEach es X.env := by rfl) (hplain : (backTo cpos (starEach es X.env)).any (·.1) = false := by rfl) :
    SndE X W (.Call (.Attribute o name apos) (e :: es) [] cpos) (eMt T f oa as) := fun Bs B Hs H s r Q E q =>
  ⟨_, pe_bm pa slot hty mt_any pe_all pa_all hbase hfew hline hst hplain, ha _ _ _ _ _ _ _ E (PostE.bind q fun x r1 v Hs1 H1 _ x1 E1 ra q1 => by
    split at q1
    · rename_i d1 h1
      split at q1
      · rename_i h2
        refine ⟨tyD_ok E1.sub (Src.opd E1 ra h1) h2 hT, hs _ _ _ _ _ _ _ E1 (PostE.bind q1 fun ys r2 us Hs2 H2 _ x2 E2 rb q2 => ?_)⟩
        split at q2
        · rename_i d ds h3 h4
          split at q2
          · rename_i z hz
            exact ok _ _ _ _ _ _ _ _ _ _ _ _ E2 (Src.opd E2 (SrcAt.mono x2 ra) h3) (SrcAll.opd E2 rb h4) hz (PostE.prim E2 q2)
          · exact False.elim q2
        · exact False.elim q2
      · exact False.elim q1
    · exact False.elim q1)⟩
def dJoin : D → List D → Option Rv
  | .str a, [.lst l] => (match toStrs l with
    | some ys => if (ys.map (·.length)).sum + ys.length * a.length ≤ 16777216 then vS (Txt.join a ys) else none
    | none => none)
  | _, _ => none
theorem ok_join : MtOk X "str.join" "str" dJoin := by
  intro Bs B Hs H s r v vs d ds x Q E hv h hf q
  unfold dJoin at hf
  split at hf
  · split at hf
    · rename_i ys hy
      split at hf <;> cases hf
      obtain ⟨u, rfl, hh⟩ := h.one; clear h; have h := hh
      obtain ⟨a, us, rfl, h1, h2⟩ := h.lst E.sub
      have := toStrs_rp hy h2
      subst this
      rw [hv.str]
      exact ⟨_, mt_join, _, a, ys, rfl, rfl, .inl (sq_of h1), by assumption, q.val E (.str _)⟩
    · cases hf
  · cases hf
theorem RpAll.strs {K : PySem.W.Frag} {H : Hp} : ∀ l : List Str, RpAll K H (l.map V.str) (l.map D.str)
  | [] => .nil
  | x :: l => .cons (.str x) (RpAll.strs l)
def dSplit : D → List D → Option Rv
  | .str a, [.str b] => if (b.length == 0) = false ∧ a.length + 2 ≤ sizeLine then some (.new (.lst ((Txt.split a b).map .str))) else none
  | _, _ => none
theorem ok_split : MtOk X "str.split" "str" dSplit := by
  intro Bs B Hs H s r v vs d ds x Q E hv h hf q
  unfold dSplit at hf
  split at hf
  · split at hf <;> cases hf
    rename_i hz
    obtain ⟨u, rfl, hh⟩ := h.one; clear h; have h := hh
    rw [hv.str, h.str]
    exact ⟨_, mt_split, _, _, rfl, rfl, hz.1, hz.2, fun p hp => q.lst E (RpAll.strs _) hp⟩
  · cases hf
/-! ### x.append(e), x.pop(): x an own list -/
/-- the object of an own slot changes -/
theorem EnvOk.putOwn {K : PySem.W.Frag} {Bs B Hs H : Hp} {s : St} {r : Rho} (E : EnvOk K Bs B Hs H s r) {i : Nat} {o o' : Own} {a : Addr} {u : HO} (h : r[i]? = some (.own o)) (hs : s[i]? = some (some (.ref a))) (hn : OwnAt K Hs (upd H a u) a o') : EnvOk K Bs B Hs (upd H a u) s (r.set i (.own o')) := by
  obtain ⟨a', e1, h2, h3, h4⟩ := E.own i o h
  rw [hs] at e1; cases e1
  have ap : ∀ (j : Nat) oj, (r.set i .un)[j]? = some (.own oj) → s[j]? ≠ some (some (.ref a)) := fun j oj hj => by
    rw [List.getElem?_set] at hj
    by_cases e : i = j
    · subst e
      rw [if_pos rfl] at hj
      split at hj <;> cases hj
    · rw [if_neg e] at hj
      exact E.dis i j a o oj e h hj hs
  have E1 := (E.drop i).poke (o := u) h2 h3 ap
  have E2 := E1.setRv (v := .ref a) (x := .new o') ⟨a, rfl, h2, h3, hn, ap⟩ i
  rw [List.set_set] at E2
  have es : s.set i (some (.ref a)) = s := by
    apply List.ext_getElem?
    intro j
    rw [List.getElem?_set]
    by_cases e : i = j
    · subst e
      rw [if_pos rfl]
      split
      · exact hs.symm
      · rename_i hl
        rw [List.getElem?_eq_none_iff.mpr (by omega)]
    · rw [if_neg e]
  rw [es] at E2
  exact E2
def eApp (i : Nat) (ev : Ev Rv) : Ev Rv := fun r => match r[i]? with
  | some (.own (.lst _)) => (ev r).bind fun x r1 => (match r1[i]? with
    | some (.own (.lst l)) => if l.length < sizeLine then .ok (.val .non) (r1.set i (.own (.lst (l ++ [x.data])))) else .stuck
    | _ => .stuck)
  | _ => .stuck
theorem snd_app {i : Nat} {ev : Ev Rv} (ho : PE X o (tVar i)) (h : SndE X W e ev) (hbase : attributeBase o "append" X.env (eval o X.env) = eval o X.env := by rfl)
    (hfew : ((backTo cpos (starEach [e] X.env)).all (fun x => !x.1) && (backToKw cpos (keywordEach [] X.env)).all (fun x => x.1.isSome)
      && decide (([e] : List Expr).length + ([] : List Keyword).length + (if ([] : List Keyword).isEmpty then 0 else 1) < 30)) = true := by rfl)
    (hline : (apos.endLine == cpos.line) = true := by rfl) (hst : starEach [e] X.env = (false, eval e X.env) :: starEach [] X.env := by rfl) (hplain : (backTo cpos (starEach [] X.env)).any (·.1) = false := by rfl) :
    SndE X W (.Call (.Attribute o "append" apos) [e] [] cpos) (eApp i ev) := fun Bs B Hs H s r Q E q => by
  unfold eApp at q
  split at q
  case h_2 => exact False.elim q
  rename_i l0 hl0
  obtain ⟨a, h1, h2, h3, vs0, h4, h5⟩ := E.own i _ hl0
  refine ⟨_, pe_bm PySem.F.plainAttrs_list PySem.F.slot_list_append PySem.F.type_list_append mt_append ho (pa_cons pe_all pa_nil hst) hbase hfew hline hst hplain, .ref a, h1, .inl ⟨rfl, _, sq_of h4⟩, h _ _ _ _ _ _ _ E (PostE.bind q fun x r1 v Hs1 H1 _ x1 E1 ra q1 => ?_)⟩
  obtain ⟨Hs2, e2, E2, r2⟩ := RvAt.use E1 ra
  have q1 := PostE.mono e2 q1
  split at q1
  case h_2 => exact False.elim q1
  rename_i l hl
  obtain ⟨a', g1, g2, g3, vs, g4, g5⟩ := E2.own i _ hl
  rw [h1] at g1; cases g1
  split at q1
  case isFalse => exact False.elim q1
  exact ⟨a, vs, v, rfl, rfl, g4, by rw [g5.length]; assumption, q1.ok (E2.putOwn (o' := .lst (l ++ [x.data])) hl h1 ⟨_, upd_same, g5.snoc r2⟩) .non⟩
def ePop (i : Nat) : Ev Rv := fun r => match r[i]? with
  | some (.own (.lst l)) => (match l[l.length - 1]? with
    | some d => .ok (.val d) (r.set i (.own (.lst l.dropLast)))
    | none => .stuck)
  | _ => .stuck
theorem RpAll.dropLast {K : PySem.W.Frag} {H : Hp} {vs : List V} {ds : List D} (h : RpAll K H vs ds) : RpAll K H vs.dropLast ds.dropLast := by
  rw [List.dropLast_eq_take, List.dropLast_eq_take, h.length]; exact h.take _
theorem snd_pop {i : Nat} (ho : PE X o (tVar i)) (hbase : attributeBase o "pop" X.env (eval o X.env) = eval o X.env := by rfl) (hline : (apos.endLine == cpos.line) = true := by rfl) : SndE X W (.Call (.Attribute o "pop" apos) [] [] cpos) (ePop i) := fun Bs B Hs H s r Q E q => by
  unfold ePop at q
  split at q
  case h_2 => exact False.elim q
  rename_i l hl
  split at q
  case h_2 => exact False.elim q
  rename_i d hd
  obtain ⟨a, h1, h2, h3, vs, h4, h5⟩ := E.own i _ hl
  obtain ⟨v, hv, rv⟩ := h5.get hd
  exact ⟨_, pe_bm0 PySem.F.plainAttrs_list PySem.F.slot_list_pop PySem.F.type_list_pop mt_pop ho hbase hline, .ref a, h1, .inl ⟨rfl, _, sq_of h4⟩, a, vs, v, rfl, rfl, h4, by rw [h5.length]; exact hv,
    q.ok (E.putOwn (o' := .lst l.dropLast) hl h1 ⟨_, upd_same, h5.dropLast⟩) rv⟩
/-! ### x[k] = .., x an own list or dict -/
def gIx (i : Nat) (oi : Rho → Option Int) : Tg := fun d r => match r[i]?, oi r with
  | some (.own (.lst l)), some k => (match ixN l.length k with
    | some j => some (r.set i (.own (.lst (l.set j d))))
    | none => none)
  | _, _ => none
/-- an index that is written -/
theorem sng_ix {i : Nat} {b : Expr} {k : Int} (ho : PE X o (tVar i)) (hb : PE X b (tC (.int k))) (ha : ∀ v, assign (.Subscript o b pos) X.env v = (do
      let ov ← holding [v] (eval o X.env)
      let iv ← holding [v, ov] (eval b X.env)
      standAt pos
      holding [v, ov, iv] (setItem ov iv v)
      release [v, ov, iv] []) := by intro _; rfl) : SndG X (.Subscript o b pos) (gIx i fun _ => some k) [] := fun Bs B Hs H s r r' v d Q E hv e q => by
  unfold gIx at e
  split at e
  case h_2 => cases e
  rename_i l k' hl hk
  cases hk
  split at e <;> cases e
  rename_i j hj
  obtain ⟨a, h1, h2, h3, vs, h4, h5⟩ := E.own i _ hl
  refine ⟨_, pg_sub ho hb set_list ha, .ref a, h1, a, vs, k, j, rfl, rfl, h4, by rw [h5.length]; exact hj, ?_⟩
  exact q _ _ (.refl _ _) (E.putOwn (o' := .lst (l.set j d)) hl h1 ⟨_, upd_same, RpAll.set hv j h5⟩)
/-- x[b] = e, whatever b is -/
def sSetIx (i : Nat) (ev : Ev Rv) (oi : Ev Src) : Sv := fun r => (ev r).toS fun x r1 => match r1[i]? with
  | some (.own _) => (oi r1).toS fun y r2 => (match r2[i]?, y.rd r2 with
    | some (.own (.lst l)), some (.int k) => (match ixN l.length k with
      | some j => .nx (r2.set i (.own (.lst (l.set j x.data))))
      | none => .stuck)
    | _, _ => .stuck)
  | _ => .stuck
theorem sns_setix {i : Nat} {b : Expr} {ev : Ev Rv} {oi : Ev Src} {p2 : Pos} (ho : PE X o (tVar i)) (h : SndE X W e ev) (hb : SndO X W b oi) (ha : ∀ v, assign (.Subscript o b p2) X.env v = (do
      let ov ← holding [v] (eval o X.env)
      let iv ← holding [v, ov] (eval b X.env)
      standAt p2
      holding [v, ov, iv] (setItem ov iv v)
      release [v, ov, iv] []) := by intro _; rfl) (hs : swapsWithSole [.Subscript o b p2] e pos.line X.env = pure false := by rfl) (hw : swappedStores [.Subscript o b p2] e X.env = pure none := by rfl)
    (h1 : (assignEach [.Subscript o b p2] X.env).map (·.2) = [assign (.Subscript o b p2) X.env] := by rfl) : SndS X W z (.Assign [.Subscript o b p2] e pos) (sSetIx i ev oi) := fun Bs B Hs H s r D E q =>
  ⟨_, ps_asg pe_all (pg_sub ho pe_all set_list ha) hs hw h1, h _ _ _ _ _ _ _ E (PostS.toS q fun x r1 v Hs1 H1 x1 E1 ra q1 => by
    obtain ⟨Hs2, e2, E2, r2⟩ := RvAt.use E1 ra
    have q1 := PostS.mono e2 q1
    split at q1
    case h_2 => exact False.elim q1
    rename_i o0 ho0
    obtain ⟨a, h1, h2, h3, h4⟩ := E2.own i _ ho0
    refine ⟨.ref a, h1, hb _ _ _ _ _ _ _ E2 (PostS.toS q1 fun y r3 u Hs3 H3 x3 E3 rb q3 => ?_)⟩
    split at q3
    case h_2 => exact False.elim q3
    rename_i l k hl hk
    split at q3
    case h_2 => exact False.elim q3
    rename_i j hj
    obtain ⟨a', g1, g2, g3, vs, g4, g5⟩ := E3.own i _ hl
    rw [h1] at g1; cases g1
    rw [(Src.opd E3 rb hk).int]
    exact ⟨a, vs, k, j, rfl, rfl, g4, by rw [g5.length]; exact hj, q3.nx (E3.putOwn (o' := .lst (l.set j x.data)) hl h1 ⟨_, upd_same, RpAll.set (r2.mono x3) j g5⟩)⟩)⟩
def putD {A : Type} [DecidableEq A] (l : List (A × D)) (k : A) (v : D) : List (A × D) :=
  if (l.any fun p => decide (p.1 = k)) = true then l.map (fun p => if p.1 = k then (p.1, v) else p) else l ++ [(k, v)]
theorem putD_rp {A : Type} [DecidableEq A] {K : PySem.W.Frag} {H : Hp} {k : A} {v : V} {d : D} {kvs : List (A × V)} {l : List (A × D)} (h : kvs.map (·.1) = l.map (·.1)) (r : RpAll K H (kvs.map (·.2)) (l.map (·.2))) (hv : Rp K H v d) :
    (putK kvs k v).map (·.1) = (putD l k d).map (·.1) ∧ RpAll K H ((putK kvs k v).map (·.2)) ((putD l k d).map (·.2)) ∧ (putD l k d).length ≤ l.length + 1 := by
  have hany : (kvs.any fun p => decide (p.1 = k)) = (l.any fun p => decide (p.1 = k)) := by
    have e1 : (kvs.any fun p => decide (p.1 = k)) = ((kvs.map (·.1)).any fun a => decide (a = k)) := by rw [List.any_map]; rfl
    have e2 : (l.any fun p => decide (p.1 = k)) = ((l.map (·.1)).any fun a => decide (a = k)) := by rw [List.any_map]; rfl
    rw [e1, e2, h]
  unfold putK putD
  rw [hany]
  by_cases hc : (l.any fun p => decide (p.1 = k)) = true
  · rw [if_pos hc, if_pos hc]
    have m1 : ∀ {B : Type} (m : List (A × B)) (y : B), (m.map fun p => if p.1 = k then (p.1, y) else p).map (·.1) = m.map (·.1) := fun m y => by
      rw [List.map_map]
      apply List.map_congr_left
      intro p _
      show (if p.1 = k then (p.1, y) else p).1 = p.1
      split <;> rfl
    refine ⟨by rw [m1, m1]; exact h, ?_, by rw [List.length_map]; omega⟩
    clear hc hany
    induction kvs generalizing l with
    | nil => cases l with | nil => exact .nil | cons _ _ => simp at h
    | cons a kvs ih =>
      cases l with
      | nil => simp at h
      | cons b l =>
        simp only [List.map_cons, List.cons.injEq] at h
        simp only [List.map_cons] at r ⊢
        cases r with
        | cons r1 r2 =>
          refine .cons ?_ (ih h.2 r2)
          rw [h.1]
          split
          · exact hv
          · exact r1
  · rw [if_neg hc, if_neg hc]
    refine ⟨by rw [List.map_append, List.map_append, h]; rfl, ?_, by rw [List.length_append]; exact Nat.le_refl _⟩
    rw [List.map_append, List.map_append]
    exact r.append (.cons hv .nil)
def sDput (i : Nat) (ev : Ev Rv) (oi : Ev Src) : Sv := fun r => (ev r).toS fun x r1 => match r1[i]? with
  | some (.own _) => (oi r1).toS fun y r2 => (match r2[i]?, y.rd r2 with
    | some (.own (.dT l)), some (.tup ks) => (match keysD ks with
      | some k => if l.length < sizeLine then .nx (r2.set i (.own (.dT (putD l k x.data)))) else .stuck
      | none => .stuck)
    | some (.own (.dK l)), some kd => (match keyD kd with
      | some k => if l.length < sizeLine then .nx (r2.set i (.own (.dK (putD l k x.data)))) else .stuck
      | none => .stuck)
    | _, _ => .stuck)
  | _ => .stuck
theorem sns_dput {i : Nat} {b : Expr} {ev : Ev Rv} {oi : Ev Src} {p2 : Pos} (R : Rm X) (ho : PE X o (tVar i)) (h : SndE X W e ev) (hb : SndO X W b oi) (hs : swapsWith e (some (.Subscript o b p2)) pos.line X.env = pure false := by rfl) :
    SndS X W z (.Assign [.Subscript o b p2] e pos) (sDput i ev oi) := fun Bs B Hs H s r D E q =>
  ⟨_, ps_dput (by have := R.un; omega) ho pe_all pe_all hs, h _ _ _ _ _ _ _ E (PostS.toS q fun x r1 v Hs1 H1 x1 E1 ra q1 => by
    obtain ⟨Hs2, e2, E2, r2⟩ := RvAt.use E1 ra
    have q1 := PostS.mono e2 q1
    split at q1
    case h_2 => exact False.elim q1
    rename_i o0 ho0
    obtain ⟨a, h1, h2, h3, h4⟩ := E2.own i _ ho0
    refine ⟨.ref a, h1, hb _ _ _ _ _ _ _ E2 (PostS.toS q1 fun y r3 u Hs3 H3 x3 E3 rb q3 => ?_)⟩
    split at q3
    · rename_i l ks hl hk
      split at q3
      case h_2 => exact False.elim q3
      rename_i k hkk
      split at q3
      case isFalse => exact False.elim q3
      obtain ⟨a', g1, g2, g3, kvs, g4, g5, g6⟩ := E3.own i _ hl
      rw [h1] at g1; cases g1
      obtain ⟨b', us, rfl, k1, k2, _⟩ := (Src.opd E3 rb hk).tup E3.sub
      have := keysD_rp k2 hkk
      subst this
      obtain ⟨p1, p2, p3⟩ := putD_rp (k := k) g5 g6 (r2.mono x3)
      have hl' : kvs.length = l.length := by have := congrArg List.length g5; simpa using this
      exact ⟨a, _, rfl, DPut.t g4 k1 (by rw [hl']; assumption), q3.nx (E3.putOwn (o' := .dT (putD l k x.data)) hl h1 ⟨_, upd_same, p1, p2⟩)⟩
    · rename_i l kd hl hk
      split at q3
      case h_2 => exact False.elim q3
      rename_i k hkk
      split at q3
      case isFalse => exact False.elim q3
      obtain ⟨a', g1, g2, g3, kvs, g4, g5, g6⟩ := E3.own i _ hl
      rw [h1] at g1; cases g1
      have : u = kV k := keyD_rp ((Src.opd E3 rb hk).rp E3.sub) hkk
      subst this
      obtain ⟨p1, p2, p3⟩ := putD_rp (k := k) g5 g6 (r2.mono x3)
      have hl' : kvs.length = l.length := by have := congrArg List.length g5; simpa using this
      exact ⟨a, _, rfl, DPut.k g4 (by rw [hl']; assumption), q3.nx (E3.putOwn (o' := .dK (putD l k x.data)) hl h1 ⟨_, upd_same, p1, p2⟩)⟩
    · exact False.elim q3)⟩
/-! {} -/
def eDT : Ev Rv := fun r => .ok (.new (.dT [])) r
def eDK : Ev Rv := fun r => .ok (.new (.dK [])) r
theorem snd_dt : SndE X W (.Dict [] [] pos) eDT := fun Bs B Hs H s r Q E q => ⟨_, pe_dnewT, fun p hp => (PostE.prim E q).newO E hp ⟨[], upd_same, rfl, .nil⟩⟩
theorem snd_dk : SndE X W (.Dict [] [] pos) eDK := fun Bs B Hs H s r Q E q => ⟨_, pe_dnewK, fun p hp => (PostE.prim E q).newO E hp ⟨[], upd_same, rfl, .nil⟩⟩
/-! texts with fields -/
def JOk (X : Cx) (W : WX) : List Expr → List (Ev Src) → Prop
  | [], [] => True
  | e :: es, o :: os => SndO X W e o ∧ JOk X W es os
  | _, _ => False
def eJoin : List (Ev Src) → Str → Rho → EO Str
  | [], acc, r => .ok acc r
  | o :: os, acc, r => (o r).bind fun x r1 => match x.rd r1 with
    | some (.str y) => if (acc ++ y).length ≤ sizeLine then eJoin os (acc ++ y) r1 else .stuck
    | _ => .stuck
def eJs (os : List (Ev Src)) : Ev Rv := fun r => (eJoin os Str.empty r).bind fun x r1 => .ok (.val (.str x)) r1
def oFmt (oa : Ev Src) : Ev Src := fun r => (oa r).bind fun x r1 => match x.rd r1 with
  | some (.str y) => if y.length ≤ sizeLine then .ok (.dat (.str y)) r1 else .stuck
  | some (.int i) => if i.natAbs.log2 < 1920 then .ok (.dat (.str (toString i))) r1 else .stuck
  | _ => .stuck
theorem sno_fmt {oa : Ev Src} (h : SndO X W e oa) : SndO X W (.FormattedValue e (-1) none pos) (oFmt oa) := fun Bs B Hs H s r Q E q =>
  ⟨_, pe_fmt pe_all, h _ _ _ _ _ _ _ E (PostE.bind q fun x r1 v Hs1 H1 _ x1 E1 ra q1 => by
    split at q1
    · rename_i y hy
      split at q1
      · rw [(Src.opd E1 ra hy).str]
        exact .inl ⟨y, rfl, by assumption, q1.ok E1 (show Rp X.K Hs1 _ _ from .str y)⟩
      · exact False.elim q1
    · rename_i i hi
      split at q1
      · rw [(Src.opd E1 ra hi).int]
        exact .inr ⟨i, rfl, by assumption, q1.ok E1 (show Rp X.K Hs1 _ _ from .str _)⟩
      · exact False.elim q1
    · exact False.elim q1)⟩
theorem pj_of : ∀ {es : List Expr} {os : List (Ev Src)}, JOk X W es os → PJ X es (es.map (aE X))
  | [], [], _ => .nil
  | [], _ :: _, h => False.elim h
  | _ :: _, [], h => False.elim h
  | _ :: es, _ :: os, h => .cons pe_all (pj_of h.2)
theorem js_core {Bs B : Hp} {s : St} : ∀ {es : List Expr} {os : List (Ev Src)} {acc : Str} {Hs H : Hp} {r : Rho} {Q : Str → Hp → Prop}, JOk X W es os → EnvOk X.K Bs B Hs H s r →
    PostE X.K W Bs B Hs s (fun _ _ _ (y : Str) z => y = z) Q (eJoin os acc r) → tJs (es.map (aE X)) acc s H Q
  | [], [], acc, Hs, H, r, Q, _, E, q => q.ok E rfl
  | [], _ :: _, _, _, _, _, _, h, _, _ => False.elim h
  | _ :: _, [], _, _, _, _, _, h, _, _ => False.elim h
  | e :: es, o :: os, acc, Hs, H, r, Q, h, E, q => h.1 _ _ _ _ _ _ _ E (PostE.bind q fun x r1 v Hs1 H1 _ x1 E1 ra q1 => by
    split at q1
    · rename_i y hy
      split at q1
      · rw [(Src.opd E1 ra hy).str]
        exact ⟨y, rfl, by assumption, js_core h.2 E1 q1⟩
      · exact False.elim q1
    · exact False.elim q1)
theorem snd_js {v1 v2 : Expr} {rest : List Expr} {os : List (Ev Src)} (h : JOk X W (v1 :: v2 :: rest) os) : SndE X W (.JoinedStr (v1 :: v2 :: rest) pos) (eJs os) := fun Bs B Hs H s r Q E q =>
  ⟨_, pe_joined (pj_of h), js_core h E (PostE.bind q fun x r1 y Hs1 H1 _ x1 E1 ra q1 => by
    have ra : y = x := ra
    subst ra
    exact q1.ok E1 (show Rp X.K Hs1 _ _ from .str y))⟩
end
end Mp
set_option Elab.async false
set_option linter.all false
set_option maxRecDepth 100000
namespace Mp
open PySem PyProof.Rows L2 Evl
/-! ### a def's promise, where no repr runs around the call -/
structure FnG (P : Program) (w : World) (K : PySem.W.Frag) (mg : Str → Option Value) (base : Heap) (k : Nat) (f : Addr) (fd : FuncData) (ps : List Str) (sp : Sp) : Prop where
  len : ∀ vs H Q E, sp vs H Q E → vs.length = ps.length
  run : ∀ (A : Around) (outer : List Env) (s : Shared) (H : Hp) (args : Args) (us : List Value) (vs : List V) (Q : VK) (E : XK),
    Room k A → A.guards = some [] → Env0 P w K mg base A outer s H → BindsTo s fd args (ps.zip us) → Vals vs us → sp vs H Q E →
    codeAny (model P w) A (.call (.ref f) args) (CR (L2.CX P w) outer P w H s Q E) s
section
variable {P : Program} {w : World} {K : PySem.W.Frag} {mg : Str → Option Value} {base : Heap}
/-- by its body -/
theorem fng_of {x qual : Str} {st : Stmt} {f : Addr} {fd : FuncData} {N ps : List Str} {k : Nat} {sp : Sp} (F : Fun K x qual st f fd) (S : FnScope N ps (defScope st))
    (len : ∀ vs H Q E, sp vs H Q E → vs.length = ps.length)
    (hbody : ∀ (cdv : Value) (A : Around) (outer : List Env) (s : Shared) (H : Hp) (vs : List V) (Q : VK) (E : XK),
      Room k (A.deeper (envOfC qual (defScope st) s.heap.objs.size f cdv)) → A.guards = some [] → sp vs H Q E →
      aSs (cxOf (L2.CX P w) P w K mg base N qual (defScope st) f cdv A outer s H E) (defBody st) { nx := fun _ H' => Q .non H', rt := Q } (start N vs) H) :
    FnG P w K mg base (k + 1) f fd ps sp := by
  obtain ⟨oc, od, kV, doc, pm, an, cdv, ct, osl, rfl, lk, hcd⟩ := F.ex
  constructor
  · exact len
  intro A outer s H args us vs Q E room gd env bind rv want
  have nvs : vs.length = ps.length := len _ _ _ _ want
  have inK : K.In s.heap := env.mod.kin.keeps fun b o e => (env.bs b o e).1
  have noLim : s.heap.NoLimit := env.mod.nolimit.keeps fun b o e => (env.bs b o e).1
  have kinds : ∀ y ∈ ps.zip us, (defScope st).names.lookup y.1 = some .local ∨
      ((defScope st).names.lookup y.1 = some .cell ∧ ((cellsFrom (s.heap.objs.size + 1) (defScope st).names []).lookup y.1).isSome = true) := by
    rintro ⟨n, v⟩ hy
    cases S.par n (List.of_mem_zip hy).1 with
    | inl q => exact .inl q
    | inr q => exact .inr ⟨q, PySem.W.cellsFrom_some _ _ _ (.inl q)⟩
  refine codeAny_call_function room.depth (inK _ _ lk) rfl S.co S.gen rfl (PySem.W.codeRec_of inK hcd) ?_
  refine bind _ _ _ _ ?_
  refine wpAny_newFunctionEnv_cells S.kind kinds ?_
  intro env' he s1 made
  subst he
  refine ⟨noLim.keeps made.toInCall.keep, ?_⟩
  refine codeAny_func ?_
  obtain ⟨t, ht, hq⟩ := hbody cdv A outer s H vs Q E (room.deeper _) gd want
  have I := inv_start (CX := L2.CX P w) (E := E) S room.hd env nvs rv made
  have fin : ∀ {σ' : L2.St} {H' : Hp} {v : V} {u : Value} {s' : Shared}, Inv (cxOf (L2.CX P w) P w K mg base N qual (defScope st) f cdv A outer s H E) [] σ' H' s' → RelV v u → Q v H' → CE outer P w H s Q u s' :=
    fun J rv q => ⟨_, _, J.os, J.bare, J.base, J.hok, rv, q⟩
  refine wpAny_mono (ht.run [] s1 (start N vs) H _ I hq) ?_ fun e s' hs => hs
  intro fl s' hs
  cases fl with
  | next => obtain ⟨σ', H', J, q⟩ := hs; exact fin (v := .non) (u := .none) J rfl q
  | ret u => obtain ⟨v, σ', H', J, rv, q⟩ := hs; exact fin J rv q
  | brk => obtain ⟨_, _, _, q⟩ := hs; exact q.elim
  | cont => obtain ⟨_, _, _, q⟩ := hs; exact q.elim
end
/-! ### what is called: a value g with n arguments and keywords ks -/
def CallAt (X : Cx) (g : Value) (n : Nat) (ks : List Str) (rr : List V → List V → L2.St → Hp → VK → Prop) : Prop :=
  ∀ (pins : List (Addr × Obj)) (s : Shared) (σ : L2.St) (H : Hp) (vs zs : List V) (us ws : List Value) (Q : VK), Inv X pins σ H s → Vals vs us → Vals zs ws → vs.length = n → zs.length = ks.length → rr vs zs σ H Q →
    wpAny (model X.prog X.w) X.A (call g us (ks.zip ws)) (EP X pins σ Q) X.xe s
/-- the places of the arguments, positional ones and keywords in a row, in the order of the parameters -/
def sel {A : Type} (is : List Nat) (l : List A) : List A := is.filterMap fun i => l[i]?
theorem Vals.sel {is : List Nat} {vs : List V} {us : List Value} (h : Vals vs us) : Vals (sel is vs) (sel is us) := by
  induction is with
  | nil => exact .nil
  | cons i is ih =>
    unfold Mp.sel
    rw [List.filterMap_cons, List.filterMap_cons]
    cases e : vs[i]? with
    | none => rw [h.none_of e]; exact ih
    | some v =>
      obtain ⟨u, hu, r⟩ := h.get e
      rw [hu]; exact .cons r ih
theorem RpAll.sel {K : PySem.W.Frag} {H : Hp} {is : List Nat} {vs : List V} {ds : List D} (h : RpAll K H vs ds) : RpAll K H (sel is vs) (sel is ds) := by
  induction is with
  | nil => exact .nil
  | cons i is ih =>
    unfold Mp.sel
    rw [List.filterMap_cons, List.filterMap_cons]
    cases e : ds[i]? with
    | none =>
      have : vs[i]? = none := by
        rw [List.getElem?_eq_none_iff] at e ⊢
        rw [h.length]; exact e
      rw [this]; exact ih
    | some d =>
      obtain ⟨v, hv, r⟩ := h.get e
      rw [hv]; exact .cons r ih
structure KB (K : PySem.W.Frag) (fd : FuncData) (ps : List Str) (n : Nat) (ks : List Str) (is : List Nat) : Prop where
  to : ∀ (s : Shared) (us ws : List Value), K.In s.heap → us.length = n → ws.length = ks.length → BindsTo s fd ⟨us, ks.zip ws⟩ (ps.zip (sel is (us ++ ws)))
/-- by computation: h is «fun kV doc pm an cdv ct us ws h1 h2 => match us, ws, h1, h2 with | [_, _], [], _, _ => rfl» -/
theorem kb_of {K : PySem.W.Frag} {x qual : Str} {st : Stmt} {f : Addr} {fd : FuncData} {ps ks : List Str} {n : Nat} {is : List Nat} (F : Fun K x qual st f fd)
    (h : ∀ (kV doc pm : Value) (an : Option Addr) (cdv ct : Value) (us ws : List Value), us.length = n → ws.length = ks.length → bindArgs (PySem.W.fnOf x qual (defArgs st) (defBody st) (defScope st) .none kV doc pm an cdv ct) ⟨us, ks.zip ws⟩ = pure (ps.zip (sel is (us ++ ws)))) : KB K fd ps n ks is := by
  obtain ⟨oc, od, kV, doc, pm, an, cdv, ct, osl, rfl, lk, hcd⟩ := F.ex
  exact ⟨fun s us ws _ h1 h2 => .of_eq (h kV doc pm an cdv ct us ws h1 h2)⟩
section
variable {X : Cx} {W : WX} {k n : Nat} {f C : Addr} {fd : FuncData} {ps ks : List Str} {is : List Nat} {sp : Sp}
/-- where a raise goes -/
theorem goes_out (tk : Takes X W) {pins : List (Addr × Obj)} {σ : L2.St} {H : Hp} {s : Shared} {e : Value} {s' : Shared} (I : Inv X pins σ H s) (h : L2.CX X.prog X.w X.stack H s (fun c d H' => W c d σ H') e s') : X.xe e s' :=
  passAt tk σ pins H s e s' I h
theorem call_fng (F : FnG X.prog X.w X.K X.mg X.base k f fd ps sp) (hr : Room k X.A) (hg : X.A.guards = some []) (hb : KB X.K fd ps n ks is) (tk : Takes X W) :
    CallAt X (.ref f) n ks fun vs zs σ H Q => sp (sel is (vs ++ zs)) H Q fun c d H' => W c d σ H' := by
  intro pins s σ H vs zs us ws Q I r rz h1 h2 want
  have r2 : Vals (sel is (vs ++ zs)) (sel is (us ++ ws)) := Vals.sel (r.append rz)
  refine wpAny_call (codeAny_mono (F.run X.A X.stack s H ⟨us, ks.zip ws⟩ _ _ Q _ hr hg I.env0 (hb.to s us ws I.kIn (r.length.symm.trans h1) (rz.length.symm.trans h2)) r2 want) ?_)
  intro res s' hq
  match res, hq with
  | .ok (.ret u), hq => exact I.after hq
  | .error e, hq => exact goes_out tk I hq
theorem guards_make {A : Around} {C : Addr} {us : List Value} {kw : List (Str × Value)} (h : A.guards = some []) : (A.under (.builtin "type.__call__" ⟨.ref C :: us, kw⟩)).guards = some [] := by
  first | exact h | simp [Around.under, pushGuards, Code.guards, Code.isGuard, guardIds, h]
/-- C(..): __init__'s promise upon the new instance -/
theorem call_make (M : Mk X.K C f) (F : FnG X.prog X.w X.K X.mg X.base k f fd ps sp) (hr : Room (k + 1) X.A) (hg : X.A.guards = some []) (hb : KB X.K fd ps (n + 1) ks is) (tk : Takes X W) :
    CallAt X (.ref C) n ks fun vs zs σ H Q => ∀ x dx, H x = none → H dx = none → dx ≠ x →
      sp (sel is ((.ref x :: vs) ++ zs)) (upd (upd H dx (.own x)) x (.ins C dx [])) (fun v H2 => v = .non ∧ Q (.ref x) H2) fun c d H' => W c d σ H' := by
  intro pins s σ H vs zs us ws Q I r rz h1 h2 want
  have want := want (s.heap.objs.size + 1) s.heap.objs.size (I.hok.fresh (Nat.le_succ _)) (I.hok.fresh (Nat.le_refl _)) (Nat.ne_of_lt (Nat.lt_succ_self _))
  have J := Inv.made (C := C) I
  have r1 : Vals (V.ref (s.heap.objs.size + 1) :: vs) (Value.ref (s.heap.objs.size + 1) :: us) := .cons rfl r
  have n1 : (Value.ref (s.heap.objs.size + 1) :: us).length = n + 1 := by
    rw [List.length_cons, ← r.length, h1]
  refine wpAny_call (make_map (f := f) I.kIn M.makes M.init (beq_iff_eq.mp M.fn) ?_)
  refine codeAny_mono (F.run _ X.stack _ _ ⟨Value.ref (s.heap.objs.size + 1) :: us, ks.zip ws⟩ _ _ _ _ (hr.make C us (ks.zip ws)) (guards_make hg)
    (J.env0.make C us (ks.zip ws)) (hb.to _ (Value.ref (s.heap.objs.size + 1) :: us) ws J.kIn n1 (rz.length.symm.trans h2)) (Vals.sel (r1.append rz)) want) ?_
  intro res s' hq
  match res, hq with
  | .ok (.ret u), hq =>
    obtain ⟨v, H', I3, rv, ev, q3⟩ := J.after hq
    subst ev
    exact ⟨rv, V.ref (s.heap.objs.size + 1), H', I3, rfl, q3⟩
  | .error e, hq => exact goes_out tk J hq
/-! ### the four forms of a call, of a global name -/
variable {rr : List V → List V → L2.St → Hp → VK → Prop} {x m : Str} {p pos apos : Pos} {e o : Expr} {es : List Expr} {kws : List Keyword} {t tk : TA} {g : Addr}
def tCA (rr : List V → List V → L2.St → Hp → VK → Prop) (n m : Nat) (t tk : TA) : TE := fun σ H Q => t σ H fun vs H1 => tk σ H1 fun zs H2 => vs.length = n ∧ zs.length = m ∧ rr vs zs σ H2 Q
theorem pe_ca (c : CallAt X (.ref g) n [] rr) (hg : Gl X x) (hm : X.mg x = some (.ref g)) (hk : PySem.W.keepIn X.K (.ref g) = true) (ha : PA X (e :: es) t) (hdb : (x == ("__debug__" : Str)) = false := by decide)
    (he : starEach (e :: es) X.env = (false, eval e X.env) :: starEach es X.env := by rfl) (hpl : (backTo pos (starEach es X.env)).any (·.1) = false := by rfl) : PE X (.Call (.Name x p) (e :: es) [] pos) (tCA rr n 0 t tNil) := by
  constructor
  intro pins s σ H Q I h
  refine wpAny_Call_Name_kw (ld_glob I hg hm ?_ hdb)
  refine PySem.W.callWith_K (h₀ := X.base) I.ok.mod.kin hk ?_ he hpl
  refine thn (ha.run pos pins s σ H _ I h) ?_
  rintro us s1 ⟨vs, H1, I1, r, q⟩
  obtain ⟨l1, l2, q⟩ := q
  exact ⟨I1.kIn, c pins s1 σ H1 vs [] us [] Q I1 r .nil l1 l2 q⟩
theorem pe_ca0 (c : CallAt X (.ref g) 0 [] rr) (hg : Gl X x) (hm : X.mg x = some (.ref g)) (hk : PySem.W.keepIn X.K (.ref g) = true) (hdb : (x == ("__debug__" : Str)) = false := by decide) : PE X (.Call (.Name x p) [] [] pos) (tCA rr 0 0 tNil tNil) := by
  constructor
  intro pins s σ H Q I h
  refine wpAny_Call_Name_kw (ld_glob I hg hm ?_ hdb)
  obtain ⟨l1, l2, q⟩ := h
  exact PySem.W.callWith_K0 I.kIn hk (c pins s σ H [] [] [] [] Q I .nil .nil l1 l2 q)
theorem pe_caK (c : CallAt X (.ref g) n ks rr) (hg : Gl X x) (hm : X.mg x = some (.ref g)) (hk : PySem.W.keepIn X.K (.ref g) = true) (ha : PA X (e :: es) t) (hkw : PK X kws tk)
    (hall : (backToKw pos (keywordEach kws X.env)).all (·.1.isSome) = true := by rfl) (hks : (backToKw pos (keywordEach kws X.env)).filterMap (·.1) = ks := by rfl)
    (hdb : (x == ("__debug__" : Str)) = false := by decide) (he : starEach (e :: es) X.env = (false, eval e X.env) :: starEach es X.env := by rfl)
    (hpl : ((backTo pos (starEach (e :: es) X.env)).any (·.1) || (backToKw pos (keywordEach kws X.env)).any (·.1.isNone)) = false := by rfl) : PE X (.Call (.Name x p) (e :: es) kws pos) (tCA rr n ks.length t tk) := by
  constructor
  intro pins s σ H Q I h
  refine wpAny_Call_Name_kw (ld_glob I hg hm ?_ hdb)
  refine PySem.W.callWith_KW (h₀ := X.base) I.ok.mod.kin hk hall ?_ hpl he
  refine thn (ha.run pos pins s σ H _ I h) ?_
  rintro us s1 ⟨vs, H1, I1, r, q⟩
  refine thn (hkw.run pos pins s1 σ H1 _ I1 q) ?_
  rintro ws s2 ⟨zs, H2, I2, rz, l1, l2, q2⟩
  rw [hks]
  exact ⟨I2.kIn, c pins s2 σ H2 vs zs us ws Q I2 r rz l1 l2 q2⟩
theorem pe_caK0 (c : CallAt X (.ref g) 0 ks rr) (hg : Gl X x) (hm : X.mg x = some (.ref g)) (hk : PySem.W.keepIn X.K (.ref g) = true) (hkw : PK X kws tk)
    (hall : (backToKw pos (keywordEach kws X.env)).all (·.1.isSome) = true := by rfl) (hks : (backToKw pos (keywordEach kws X.env)).filterMap (·.1) = ks := by rfl) (hdb : (x == ("__debug__" : Str)) = false := by decide)
    (hpl : ((backTo pos (starEach [] X.env)).any (·.1) || (backToKw pos (keywordEach kws X.env)).any (·.1.isNone)) = false := by rfl) : PE X (.Call (.Name x p) [] kws pos) (tCA rr 0 ks.length tNil tk) := by
  constructor
  intro pins s σ H Q I h
  refine wpAny_Call_Name_kw (ld_glob I hg hm ?_ hdb)
  refine PySem.W.callWith_KW0 (h₀ := X.base) I.ok.mod.kin hk hall ?_ hpl
  refine thn (hkw.run pos pins s σ H _ I h) ?_
  rintro ws s2 ⟨zs, H2, I2, rz, l1, l2, q2⟩
  rw [hks]
  exact ⟨I2.kIn, c pins s2 σ H2 [] zs [] ws Q I2 .nil rz l1 l2 q2⟩
/-! ### .. of a method of an own class's instance -/
def tCM (C : Addr) (m : Str) (rr : List V → List V → L2.St → Hp → VK → Prop) (n k : Nat) (to : TE) (t tk : TA) : TE := fun σ H Q => to σ H fun x H1 => ∃ a dx fs, x = .ref a ∧ H1 a = some (.ins C dx fs) ∧ fs.lookup m = none ∧
  t σ H1 fun vs H2 => tk σ H2 fun zs H3 => vs.length + 1 = n ∧ zs.length = k ∧ rr (.ref a :: vs) zs σ H3 Q
variable {to : TE} {pl : Sem Bool}
theorem pe_cm (c : CallAt X (.ref g) n [] rr) (he : PE X o to) (cl : Cls X.K C) (hm : Meth X.K C m g) (ha : PA X (e :: es) t)
    (hst : starEach (e :: es) X.env = (false, eval e X.env) :: starEach es X.env := by rfl) (hpl : (backTo pos (starEach es X.env)).any (·.1) = false := by rfl)
    (ht : eval (.Call (.Attribute o m apos) (e :: es) [] pos) X.env = (eval o X.env >>= fun ov => standAt apos.atName >>= fun _ => holding [ov] (getMethod ov m pl) >>= fun r =>
      callWith pos r.1 r.2 (backTo pos (starEach (e :: es) X.env)) (backToKw pos (keywordEach [] X.env))) := by rfl) :
    PE X (.Call (.Attribute o m apos) (e :: es) [] pos) (tCM C m rr n 0 to t tNil) := by
  constructor
  intro pins s σ H Q I h
  refine PySem.W.methodCall_KW (pl := pl) (thn (he.run pins s σ H _ I h) ?_) ht
  rintro u s1 ⟨x, H1, I1, rx, a, dx, fs, rfl, ea, l, q⟩
  obtain rfl : u = Value.ref a := rx
  refine getmeth_ok I1 ea cl hm l ?_
  refine PySem.W.callWith_K (first := [.ref a]) (h₀ := X.base) I.ok.mod.kin hm.kp ?_ hst hpl
  refine thn (ha.run pos pins s1 σ H1 _ I1 q) ?_
  rintro us s2 ⟨vs, H2, I2, r, l1, l2, q2⟩
  exact ⟨I2.kIn, c pins s2 σ H2 (.ref a :: vs) [] (.ref a :: us) [] Q I2 (.cons rfl r) .nil l1 l2 q2⟩
theorem pe_cmK0 (c : CallAt X (.ref g) 1 ks rr) (he : PE X o to) (cl : Cls X.K C) (hm : Meth X.K C m g) (hkw : PK X kws tk)
    (hall : (backToKw pos (keywordEach kws X.env)).all (·.1.isSome) = true := by rfl) (hks : (backToKw pos (keywordEach kws X.env)).filterMap (·.1) = ks := by rfl)
    (hpl : ((backTo pos (starEach [] X.env)).any (·.1) || (backToKw pos (keywordEach kws X.env)).any (·.1.isNone)) = false := by rfl)
    (ht : eval (.Call (.Attribute o m apos) [] kws pos) X.env = (eval o X.env >>= fun ov => standAt apos.atName >>= fun _ => holding [ov] (getMethod ov m pl) >>= fun r =>
      callWith pos r.1 r.2 (backTo pos (starEach [] X.env)) (backToKw pos (keywordEach kws X.env))) := by rfl) :
    PE X (.Call (.Attribute o m apos) [] kws pos) (tCM C m rr 1 ks.length to tNil tk) := by
  constructor
  intro pins s σ H Q I h
  refine PySem.W.methodCall_KW (pl := pl) (thn (he.run pins s σ H _ I h) ?_) ht
  rintro u s1 ⟨x, H1, I1, rx, a, dx, fs, rfl, ea, l, q⟩
  obtain rfl : u = Value.ref a := rx
  refine getmeth_ok I1 ea cl hm l ?_
  refine PySem.W.callWith_KW0 (first := [.ref a]) (h₀ := X.base) I.ok.mod.kin hm.kp hall ?_ hpl
  refine thn (hkw.run pos pins s1 σ H1 _ I1 q) ?_
  rintro ws s2 ⟨zs, H2, I2, rz, l1, l2, q2⟩
  rw [hks]
  exact ⟨I2.kIn, c pins s2 σ H2 [.ref a] zs [.ref a] ws Q I2 (.cons rfl .nil) rz l1 l2 q2⟩
end
end Mp
set_option Elab.async false
set_option linter.all false
set_option maxRecDepth 100000
namespace Mp
open PySem PyProof.Rows L2 Evl
/-! ### what a def comes to, as a function of data -/
inductive FO where
  | stuck | val (d : D) | new (o : Own) | exc (x : Exn)
/-- what is asked behind a call, for what it comes to -/
def AskF (K : PySem.W.Frag) (Hs H : Hp) (Q : VK) (E : XK) : FO → Prop
  | .stuck => False
  | .val d => ∀ v Hs' H', Step Hs H Hs' H' → Rp K Hs' v d → Q v H'
  | .new o => ∀ a Hs' H', Step Hs H Hs' H' → H a = none → Hs' a = none → OwnAt K Hs' H' a o → Q (.ref a) H'
  | .exc x => ∀ cls d Hs' H', Step Hs H Hs' H' → ExAt K Hs' H' cls d x → E cls d H'
/-- a def that changes nothing of what it is given -/
def spP (K : PySem.W.Frag) (n : Nat) (F : List D → FO) : Sp := fun vs H Q E => ∃ Hs ds, Ex Hs H ∧ RpAll K Hs vs ds ∧ ds.length = n ∧ AskF K Hs H Q E (F ds)
/-- what stands elsewhere stays; at x it may change -/
structure StepM (x : Addr) (Hs H Hs' H' : Hp) : Prop where
  sh : Ex Hs Hs'
  sub : Ex Hs' H'
  fr : ∀ b o, b ≠ x → H b = some o → Hs b = none → (Nt o → Hs' b = none) ∧ H' b = some o
  at_ : Hs' x = none
theorem StepM.fw {x : Addr} {Hs H Hs' H' : Hp} (st : StepM x Hs H Hs' H') (e : Ex Hs H) {b : Addr} {u : HO} (hb : b ≠ x) (h : H b = some u) (n : Nt u → Hs b = none) : (Nt u → Hs' b = none) ∧ H' b = some u := by
  cases q : Hs b with
  | none => exact st.fr b u hb h q
  | some w =>
    have e1 := e b w q
    rw [h] at e1; cases e1
    exact ⟨fun z => absurd (n z) (by rw [q]; exact Option.some_ne_none _), st.sub b u (st.sh b u q)⟩
def AskM (K : PySem.W.Frag) (x : Addr) (Hs H : Hp) (Q : VK) (E : XK) (o' : Own) : FO → Prop
  | .stuck => False
  | .val d => ∀ v Hs' H', StepM x Hs H Hs' H' → OwnAt K Hs' H' x o' → Rp K Hs' v d → Q v H'
  | .new o => ∀ a Hs' H', StepM x Hs H Hs' H' → OwnAt K Hs' H' x o' → a ≠ x → (H a = none) → Hs' a = none → OwnAt K Hs' H' a o → Q (.ref a) H'
  | .exc y => ∀ cls d Hs' H', StepM x Hs H Hs' H' → OwnAt K Hs' H' x o' → ExAt K Hs' H' cls d y → E cls d H'
/-- a def that may change its first argument, which nobody else holds -/
def spM (K : PySem.W.Frag) (n : Nat) (F : Own → List D → FO × Own) : Sp := fun vs H Q E => ∃ Hs x us o ds, vs = .ref x :: us ∧ Ex Hs H ∧ Hs x = none ∧ OwnAt K Hs H x o ∧ RpAll K Hs us ds ∧ ds.length + 1 = n ∧
  AskM K x Hs H Q E (F o ds).2 (F o ds).1
def startR (N : Nat) (ds : List D) : Rho := ds.map .val ++ List.replicate (N - ds.length) .un
def startM (N : Nat) (o : Own) (ds : List D) : Rho := .own o :: (ds.map .val ++ List.replicate (N - (ds.length + 1)) .un)
def foOf : SO → FO
  | .nx _ => .val .non
  | .ret (.val d) _ => .val d
  | .ret (.new o) _ => .new o
  | .exc x _ => .exc x
  | _ => .stuck
def runP (N : Nat) (sv : Sv) (ds : List D) : FO := foOf (sv (startR N ds))
def ownOf : Rho → Option Own
  | .own o :: _ => some o
  | _ => none
def runM (N : Nat) (sv : Sv) (o : Own) (ds : List D) : FO × Own := match sv (startM N o ds) with
  | .nx r => (match ownOf r with
    | some o' => (.val .non, o')
    | none => (.stuck, o))
  | .ret (.val d) r => (match ownOf r with
    | some o' => (.val d, o')
    | none => (.stuck, o))
  | .ret (.new d) r => (match ownOf r with
    | some o' => (.new d, o')
    | none => (.stuck, o))
  | .exc x r => (match ownOf r with
    | some o' => (.exc x, o')
    | none => (.stuck, o))
  | _ => (.stuck, o)
theorem start_get {N : List Str} {vs : List V} {i : Nat} {v : V} (h : vs[i]? = some v) : (L2.start N vs)[i]? = some (some v) := by
  unfold L2.start
  have hi : i < vs.length := (List.getElem?_eq_some_iff.mp h).1
  rw [List.getElem?_append_left (by rw [List.length_map]; exact hi), List.getElem?_map, h]; rfl
theorem env_start {K : PySem.W.Frag} {Hs H : Hp} (e : Ex Hs H) {N : List Str} {vs : List V} {ds : List D} (r : RpAll K Hs vs ds) (hn : ds.length ≤ N.length) : EnvOk K Hs H Hs H (L2.start N vs) (startR N.length ds) := by
  have hl := r.length
  have key : ∀ (i : Nat) c, (startR N.length ds)[i]? = some c → (∃ d, ds[i]? = some d ∧ c = .val d) ∨ c = .un := fun i c h => by
    unfold startR at h
    by_cases hi : i < ds.length
    · rw [List.getElem?_append_left (by rw [List.length_map]; exact hi), List.getElem?_map, List.getElem?_eq_getElem hi] at h
      exact .inl ⟨_, List.getElem?_eq_getElem hi, (Option.some.inj h).symm⟩
    · rw [List.getElem?_append_right (by rw [List.length_map]; omega), List.getElem?_replicate] at h
      split at h
      · exact .inr (Option.some.inj h).symm
      · cases h
  refine ⟨e, Ex.refl _, fun b o h n => ⟨fun _ => n, h⟩, e, ?_, fun i d h => ?_, fun i o h => ?_, fun i j a oi oj ne h => ?_⟩
  · unfold L2.start startR
    rw [List.length_append, List.length_append, List.length_map, List.length_map, List.length_replicate, List.length_replicate, hl]
  · rcases key i _ h with ⟨d', h1, h2⟩ | h2
    · cases h2
      obtain ⟨v, hv, rv⟩ := r.get h1
      exact ⟨v, start_get hv, rv⟩
    · cases h2
  · rcases key i _ h with ⟨d', h1, h2⟩ | h2 <;> cases h2
  · rcases key i _ h with ⟨d', h1, h2⟩ | h2 <;> cases h2
theorem EnvOk.stepOf {K : PySem.W.Frag} {Hs H Hs' H' : Hp} {s : L2.St} {r : Rho} (E : EnvOk K Hs H Hs' H' s r) : Step Hs H Hs' H' := ⟨E.ext1, E.sub, fun b o h n => E.ext2 b o h n⟩
section
variable {P : Program} {w : World} {K : PySem.W.Frag} {mg : Str → Option Value} {base : Heap}
/-- a def that changes nothing of what it is given, by its body -/
theorem fn_pure {x qual : Str} {st : Stmt} {f : Addr} {fd : FuncData} {N ps : List Str} {k : Nat} {sv : Sv} (F : Fun K x qual st f fd) (S : FnScope N ps (defScope st)) (hn : ps.length ≤ N.length)
    (hbody : ∀ (cdv : Value) (A : Around) (outer : List Env) (s : Shared) (H : Hp) (E : XK),
      Room k (A.deeper (envOfC qual (defScope st) s.heap.objs.size f cdv)) → A.guards = some [] →
      SndSs (cxOf (L2.CX P w) P w K mg base N qual (defScope st) f cdv A outer s H E) (fun c d _ H' => E c d H') false (defBody st) sv) :
    FnG P w K mg base (k + 1) f fd ps (spP K ps.length (runP N.length sv)) := by
  refine fng_of F S (fun vs H Q E h => ?_) fun cdv A outer s H vs Q E room gd want => ?_
  · obtain ⟨Hs, ds, _, r, hl, _⟩ := h
    rw [r.length, hl]
  · obtain ⟨Hs, ds, e, r, hl, ask⟩ := want
    refine hbody cdv A outer s H E room gd Hs H Hs H (L2.start N vs) (startR N.length ds) _ (env_start e r (by omega)) ?_
    show PostS K _ _ _ _ _ _ _ (sv (startR N.length ds))
    unfold runP at ask
    cases hm : sv (startR N.length ds) with
    | stuck => rw [hm] at ask; exact ask
    | bk r => rw [hm] at ask; exact False.elim ask
    | ct r => rw [hm] at ask; exact False.elim ask
    | nx r =>
      rw [hm] at ask
      exact fun s1 Hs' H' _ _ E' => ask .non Hs' H' E'.stepOf .non
    | exc y r =>
      rw [hm] at ask
      exact fun c d s1 Hs' H' _ _ E' hx => ask c d Hs' H' E'.stepOf hx
    | ret y r =>
      rw [hm] at ask
      cases y with
      | val d => exact fun v s1 Hs' H' _ _ E' rv => ask v Hs' H' E'.stepOf rv
      | new o =>
        intro v s1 Hs' H' _ _ E' rv
        obtain ⟨a, rfl, h1, h2, h3, _⟩ := rv
        exact ask a Hs' H' E'.stepOf h2 h1 h3
/-- the heap without what stands at x -/
def without (H : Hp) (x : Addr) : Hp := fun b => if b = x then none else H b
theorem without_same {H : Hp} {x : Addr} : without H x x = none := if_pos rfl
theorem without_ne {H : Hp} {x b : Addr} (h : b ≠ x) : without H x b = H b := if_neg h
theorem env_startM {Hs H : Hp} (e : Ex Hs H) {x : Addr} {o : Own} (hx : Hs x = none) (hO : OwnAt K Hs H x o) {N : List Str} {us : List V} {ds : List D} (r : RpAll K Hs us ds) (hn : ds.length + 1 ≤ N.length) :
    EnvOk K Hs (without H x) Hs H (L2.start N (.ref x :: us)) (startM N.length o ds) := by
  have hl := r.length
  have ex : Ex Hs (without H x) := fun b u h => by
    rw [without_ne (ne_of_none h hx)]; exact e b u h
  have key : ∀ (i : Nat) c, (startM N.length o ds)[i]? = some c → (i = 0 ∧ c = .own o) ∨ (∃ j d, i = j + 1 ∧ ds[j]? = some d ∧ c = .val d) ∨ c = .un := fun i c h => by
    unfold startM at h
    cases i with
    | zero => exact .inl ⟨rfl, (Option.some.inj h).symm⟩
    | succ j =>
      rw [List.getElem?_cons_succ] at h
      by_cases hi : j < ds.length
      · rw [List.getElem?_append_left (by rw [List.length_map]; exact hi), List.getElem?_map, List.getElem?_eq_getElem hi] at h
        exact .inr (.inl ⟨j, _, rfl, List.getElem?_eq_getElem hi, (Option.some.inj h).symm⟩)
      · rw [List.getElem?_append_right (by rw [List.length_map]; omega), List.getElem?_replicate] at h
        split at h
        · exact .inr (.inr (Option.some.inj h).symm)
        · cases h
  refine ⟨e, Ex.refl _, fun b u h n => ?_, ex, ?_, fun i d h => ?_, fun i u h => ?_, fun i j a oi oj ne h1 h2 => ?_⟩
  · have hb : b ≠ x := by rintro rfl; rw [without_same] at h; cases h
    rw [without_ne hb] at h; exact ⟨fun _ => n, h⟩
  · unfold L2.start startM
    simp only [List.length_append, List.length_map, List.length_replicate, List.length_cons, hl]
    omega
  · rcases key i _ h with ⟨_, h2⟩ | ⟨j, d', rfl, h1, h2⟩ | h2
    · cases h2
    · cases h2
      obtain ⟨v, hv, rv⟩ := r.get h1
      exact ⟨v, start_get (by rw [List.getElem?_cons_succ]; exact hv), rv⟩
    · cases h2
  · rcases key i _ h with ⟨rfl, h2⟩ | ⟨j, d', rfl, h1, h2⟩ | h2
    · cases h2; exact ⟨x, start_get rfl, hx, without_same, hO⟩
    · cases h2
    · cases h2
  · rcases key i _ h1 with ⟨rfl, _⟩ | ⟨j', d', rfl, _, g⟩ | g
    · rcases key j _ h2 with ⟨rfl, _⟩ | ⟨j', d', rfl, _, g⟩ | g
      · exact absurd rfl ne
      · cases g
      · cases g
    · cases g
    · cases g
theorem EnvOk.stepM {Hs H Hs' H' : Hp} {x : Addr} {s : L2.St} {r : Rho} {o' : Own} (E : EnvOk K Hs (without H x) Hs' H' s r) (h0 : s[0]? = some (some (.ref x))) (ho : ownOf r = some o') : StepM x Hs H Hs' H' ∧ OwnAt K Hs' H' x o' := by
  have hr : r[0]? = some (.own o') := by
    cases r with
    | nil => simp [ownOf] at ho
    | cons c r => cases c <;> simp [ownOf] at ho; subst ho; rfl
  obtain ⟨a, h1, h2, h3, h4⟩ := E.own 0 o' hr
  rw [h0] at h1; cases h1
  exact ⟨⟨E.ext1, E.sub, fun b u hb h n => E.ext2 b u (by rw [without_ne hb]; exact h) n, h2⟩, h4⟩
/-- a def that changes its first argument alone -/
theorem fn_mut {x qual : Str} {st : Stmt} {f : Addr} {fd : FuncData} {N ps : List Str} {k : Nat} {sv : Sv} (F : Fun K x qual st f fd) (S : FnScope N ps (defScope st)) (hn : ps.length ≤ N.length)
    (hbody : ∀ (cdv : Value) (A : Around) (outer : List Env) (s : Shared) (H : Hp) (E : XK),
      Room k (A.deeper (envOfC qual (defScope st) s.heap.objs.size f cdv)) → A.guards = some [] →
      SndSs (cxOf (L2.CX P w) P w K mg base N qual (defScope st) f cdv A outer s H E) (fun c d _ H' => E c d H') true (defBody st) sv) :
    FnG P w K mg base (k + 1) f fd ps (spM K ps.length (runM N.length sv)) := by
  refine fng_of F S (fun vs H Q E h => ?_) fun cdv A outer s H vs Q E room gd want => ?_
  · obtain ⟨Hs, y, us, o, ds, rfl, _, _, _, r, hl, _⟩ := h
    rw [List.length_cons, r.length, hl]
  · obtain ⟨Hs, y, us, o, ds, rfl, e, hy, hO, r, hl, ask⟩ := want
    refine hbody cdv A outer s H E room gd Hs (without H y) Hs H (L2.start N (.ref y :: us)) (startM N.length o ds) _ (env_startM e hy hO r (by omega)) ?_
    show PostS K _ _ _ _ _ _ _ (sv (startM N.length o ds))
    have s0 : (L2.start N (.ref y :: us))[0]? = some (some (.ref y)) := start_get rfl
    unfold runM at ask
    cases hm : sv (startM N.length o ds) with
    | stuck => rw [hm] at ask; exact ask
    | bk r => rw [hm] at ask; exact False.elim ask
    | ct r => rw [hm] at ask; exact False.elim ask
    | nx r =>
      rw [hm] at ask
      cases ho : ownOf r with
      | none => simp only [ho] at ask; exact False.elim ask
      | some o' =>
        simp only [ho] at ask
        intro s1 Hs' H' kz _ E'
        obtain ⟨st, ow⟩ := E'.stepM ((kz rfl).trans s0) ho
        exact ask .non Hs' H' st ow .non
    | exc z r =>
      rw [hm] at ask
      cases ho : ownOf r with
      | none => simp only [ho] at ask; exact False.elim ask
      | some o' =>
        simp only [ho] at ask
        intro c d s1 Hs' H' kz _ E' hx
        obtain ⟨st, ow⟩ := E'.stepM ((kz rfl).trans s0) ho
        exact ask c d Hs' H' st ow hx
    | ret z r =>
      rw [hm] at ask
      cases z with
      | val d =>
        cases ho : ownOf r with
        | none => simp only [ho] at ask; exact False.elim ask
        | some o' =>
          simp only [ho] at ask
          intro v s1 Hs' H' kz _ E' rv
          obtain ⟨st, ow⟩ := E'.stepM ((kz rfl).trans s0) ho
          exact ask v Hs' H' st ow rv
      | new d =>
        cases ho : ownOf r with
        | none => simp only [ho] at ask; exact False.elim ask
        | some o' =>
          simp only [ho] at ask
          intro v s1 Hs' H' kz _ E' rv
          obtain ⟨st, ow⟩ := E'.stepM ((kz rfl).trans s0) ho
          obtain ⟨a, rfl, h1, h2, h3, h4⟩ := rv
          have hr0 : r[0]? = some (.own o') := by
            cases r with
            | nil => simp [ownOf] at ho
            | cons c r => cases c <;> simp [ownOf] at ho; subst ho; rfl
          have ne : a ≠ y := by rintro rfl; exact h4 0 o' hr0 ((kz rfl).trans s0)
          rw [without_ne ne] at h2
          exact ask a Hs' H' st ow ne h2 h1 h3
end
/-! ### calls of own defs, by what they come to -/
section
variable {X : Cx} {W : WX} {n : Nat} {g C : Addr} {ks : List Str} {is : List Nat} {x m : Str} {p pos apos : Pos} {e o : Expr} {es : List Expr} {kws : List Keyword}
/-- f, called at X, comes to what F says of its arguments -/
def FunAt (X : Cx) (W : WX) (g : Value) (n : Nat) (ks : List Str) (is : List Nat) (F : List D → FO) : Prop :=
  CallAt X g n ks fun vs zs σ H Q => spP X.K (sel is (vs ++ zs)).length F (sel is (vs ++ zs)) H Q fun c d H' => W c d σ H'
theorem fun_at {fd : FuncData} {ps : List Str} {k np : Nat} {F : List D → FO} (G : FnG X.prog X.w X.K X.mg X.base k g fd ps (spP X.K np F)) (hr : Room k X.A) (hg : X.A.guards = some []) (hb : KB X.K fd ps n ks is) (tk : Takes X W) (hnp : ∀ l : List V, l.length = n + ks.length → (sel is l).length = np) : FunAt X W (.ref g) n ks is F := by
  intro pins s σ H vs zs us ws Q I r rz h1 h2 want
  refine call_fng G hr hg hb tk pins s σ H vs zs us ws Q I r rz h1 h2 ?_
  rw [hnp _ (by rw [List.length_append, h1, h2])] at want
  exact want
def ofFO : FO → Rho → EO Rv
  | .stuck, _ => .stuck
  | .val d, r => .ok (.val d) r
  | .new o, r => .ok (.new o) r
  | .exc x, r => .exc x r
/-- what a call needs where its arguments stand -/
theorem ask_of {K : PySem.W.Frag} {Bs B Hs H : Hp} {s : L2.St} {r : Rho} {Q : VK} {y : FO} (E : EnvOk K Bs B Hs H s r) (q : PostE K W Bs B Hs s (relR K B s) Q (ofFO y r)) : AskF K Hs H Q (fun c d H' => W c d s H') y := by
  cases y with
  | stuck => exact q
  | val d => exact fun v Hs' H' st rv => q v Hs' H' st.sh (E.step st) rv
  | new o => exact fun a Hs' H' st h1 h2 h3 => q (.ref a) Hs' H' st.sh (E.step st) ⟨a, rfl, h2, E.bnone h1, h3, E.apart h1⟩
  | exc z => exact fun c d Hs' H' st hx => q c d Hs' H' st.sh (E.step st) hx
def eCall (F : List D → FO) (is : List Nat) (va vk : Ev (List D)) : Ev Rv := fun r => (va r).bind fun ds r1 => (vk r1).bind fun es r2 => ofFO (F (sel is (ds ++ es))) r2
def SndK (X : Cx) (W : WX) (kws : List Keyword) (ev : Ev (List D)) : Prop := ∀ (Bs B Hs H : Hp) (s : L2.St) (r : Rho) (Q : List V → Hp → Prop), EnvOk X.K Bs B Hs H s r →
  PostE X.K W Bs B Hs s (relDA X.K) Q (ev r) → ∃ t, PK X kws t ∧ t s H Q
def aK (X : Cx) (kws : List Keyword) : TA := fun s H Q => ∃ t, PK X kws t ∧ t s H Q
theorem pk_all : PK X kws (aK X kws) := ⟨fun pos pins s σ H Q I ⟨t, h, q⟩ => h.run pos pins s σ H Q I q⟩
theorem snk_nil : SndK X W [] vNil := fun Bs B Hs H s r Q E q => ⟨_, pk_nil, q.ok E .nil⟩
theorem snk_cons {ea : Ev Rv} {as : Ev (List D)} {nm : Option Str} {kpos : Pos} (ha : SndE X W e ea) (hs : SndK X W kws as) : SndK X W (⟨nm, e, kpos⟩ :: kws) (vCons ea as) := fun Bs B Hs H s r Q E q =>
  ⟨_, pk_cons pe_all pk_all, ha _ _ _ _ _ _ _ E (PostE.bind q fun x r1 v Hs1 H1 _ x1 E1 ra q1 => by
    obtain ⟨Hs2, e2, E2, r2⟩ := RvAt.use E1 ra
    exact hs _ _ _ _ _ _ _ E2 (PostE.bind (q1.mono e2) fun xs r2' vs Hs3 H3 _ x3 E3 rb q3 => q3.ok E3 (.cons (r2.mono x3) rb)))⟩
/-- the end of every pure call -/
theorem pure_end {F : List D → FO} {Bs B Hs1 H1 Hs2 H2 : Hp} {s : L2.St} {r2 : Rho} {vs zs : List V} {ds es' : List D} {Q : VK} (E2 : EnvOk X.K Bs B Hs2 H2 s r2) (ra : RpAll X.K Hs2 vs ds) (rb : RpAll X.K Hs2 zs es') (q : PostE X.K W Bs B Hs2 s (relR X.K B s) Q (ofFO (F (sel is (ds ++ es'))) r2)) :
    spP X.K (sel is (vs ++ zs)).length F (sel is (vs ++ zs)) H2 Q fun c d H' => W c d s H' :=
  ⟨Hs2, sel is (ds ++ es'), E2.sub, RpAll.sel (ra.append rb), (RpAll.length (RpAll.sel (ra.append rb))).symm, ask_of E2 q⟩
theorem snd_call {F : List D → FO} {va : Ev (List D)} (c : FunAt X W (.ref g) n [] is F) (ha : SndV X W (e :: es) va) (hl : ∀ r ds r', va r = .ok ds r' → ds.length = n) (hg : Gl X x) (hm : X.mg x = some (.ref g)) (hk : PySem.W.keepIn X.K (.ref g) = true) (hdb : (x == ("__debug__" : Str)) = false := by decide)
    (he : starEach (e :: es) X.env = (false, eval e X.env) :: starEach es X.env := by rfl) (hpl : (backTo pos (starEach es X.env)).any (·.1) = false := by rfl) : SndE X W (.Call (.Name x p) (e :: es) [] pos) (eCall F is va vNil) := fun Bs B Hs H s r Q E q =>
  ⟨_, pe_ca c hg hm hk pa_all hdb he hpl, ha _ _ _ _ _ _ _ E (PostE.bind q fun ds r1 vs Hs1 H1 hv x1 E1 ra q1 => by
    have ra : RpAll X.K Hs1 vs ds := ra
    exact ⟨ra.length.trans (hl _ _ _ hv), rfl, pure_end (Hs1 := Hs1) (H1 := H1) E1 ra .nil q1⟩)⟩
theorem snd_callK {F : List D → FO} {va vk : Ev (List D)} (c : FunAt X W (.ref g) n ks is F) (ha : SndV X W (e :: es) va) (hkw : SndK X W kws vk) (hl : ∀ r ds r', va r = .ok ds r' → ds.length = n) (hl2 : ∀ r ds r', vk r = .ok ds r' → ds.length = ks.length) (hg : Gl X x) (hm : X.mg x = some (.ref g)) (hk : PySem.W.keepIn X.K (.ref g) = true)
    (hall : (backToKw pos (keywordEach kws X.env)).all (·.1.isSome) = true := by rfl) (hks : (backToKw pos (keywordEach kws X.env)).filterMap (·.1) = ks := by rfl)
    (hdb : (x == ("__debug__" : Str)) = false := by decide) (he : starEach (e :: es) X.env = (false, eval e X.env) :: starEach es X.env := by rfl)
    (hpl : ((backTo pos (starEach (e :: es) X.env)).any (·.1) || (backToKw pos (keywordEach kws X.env)).any (·.1.isNone)) = false := by rfl) : SndE X W (.Call (.Name x p) (e :: es) kws pos) (eCall F is va vk) := fun Bs B Hs H s r Q E q =>
  ⟨_, pe_caK c hg hm hk pa_all pk_all hall hks hdb he hpl, ha _ _ _ _ _ _ _ E (PostE.bind q fun ds r1 vs Hs1 H1 hv x1 E1 ra q1 => hkw _ _ _ _ _ _ _ E1 (PostE.bind q1 fun es' r2 zs Hs2 H2 hw x2 E2 rb q2 => by
    have ra : RpAll X.K Hs1 vs ds := ra
    have rb : RpAll X.K Hs2 zs es' := rb
    exact ⟨ra.length.trans (hl _ _ _ hv), rb.length.trans (hl2 _ _ _ hw), pure_end (Hs1 := Hs1) (H1 := H1) E2 (ra.mono x2) rb q2⟩))⟩
theorem snd_callK0 {F : List D → FO} {vk : Ev (List D)} (c : FunAt X W (.ref g) 0 ks is F) (hkw : SndK X W kws vk) (hl2 : ∀ r ds r', vk r = .ok ds r' → ds.length = ks.length) (hg : Gl X x) (hm : X.mg x = some (.ref g)) (hk : PySem.W.keepIn X.K (.ref g) = true)
    (hall : (backToKw pos (keywordEach kws X.env)).all (·.1.isSome) = true := by rfl) (hks : (backToKw pos (keywordEach kws X.env)).filterMap (·.1) = ks := by rfl)
    (hdb : (x == ("__debug__" : Str)) = false := by decide) (hpl : ((backTo pos (starEach [] X.env)).any (·.1) || (backToKw pos (keywordEach kws X.env)).any (·.1.isNone)) = false := by rfl) : SndE X W (.Call (.Name x p) [] kws pos) (eCall F is vNil vk) := fun Bs B Hs H s r Q E q =>
  ⟨_, pe_caK0 c hg hm hk pk_all hall hks hdb hpl, hkw _ _ _ _ _ _ _ E (PostE.bind (show PostE X.K W Bs B Hs s (relR X.K B s) Q ((vk r).bind fun es r2 => ofFO (F (sel is ([] ++ es))) r2) from q) fun es' r2 zs Hs2 H2 hw x2 E2 rb q2 => by
    have rb : RpAll X.K Hs2 zs es' := rb
    exact ⟨rfl, rb.length.trans (hl2 _ _ _ hw), pure_end (Hs1 := Hs2) (H1 := H2) E2 .nil rb q2⟩)⟩
/-! ### a def that changes the object of an own slot, its first argument -/
def MutAt (X : Cx) (W : WX) (g : Value) (n : Nat) (F : Own → List D → FO × Own) : Prop :=
  CallAt X g n [] fun vs zs σ H Q => spM X.K vs.length F vs H Q fun c d H' => W c d σ H'
theorem mut_at {fd : FuncData} {ps : List Str} {k : Nat} {F : Own → List D → FO × Own} (G : FnG X.prog X.w X.K X.mg X.base k g fd ps (spM X.K n F)) (hr : Room k X.A) (hg : X.A.guards = some []) (hb : KB X.K fd ps n [] is) (tk : Takes X W) (hnp : ∀ l : List V, l.length = n → sel is l = l) : MutAt X W (.ref g) n F := by
  intro pins s σ H vs zs us ws Q I r rz h1 h2 want
  refine call_fng G hr hg hb tk pins s σ H vs zs us ws Q I r rz h1 h2 ?_
  have hz : zs = [] := List.eq_nil_of_length_eq_zero h2
  subst hz
  rw [h1] at want
  show spM X.K n F (sel is (vs ++ [])) H Q fun c d H' => W c d σ H'
  rw [List.append_nil, hnp vs h1]
  exact want
theorem EnvOk.afterM {K : PySem.W.Frag} {Bs B Hs H Hs' H' : Hp} {s : L2.St} {r : Rho} (E : EnvOk K Bs B Hs H s r) {i : Nat} {a : Addr} {o o' : Own} (hi : r[i]? = some (.own o)) (hs : s[i]? = some (some (.ref a))) (st : StepM a Hs H Hs' H') (ho : OwnAt K Hs' H' a o') :
    EnvOk K Bs B Hs' H' s (r.set i (.own o')) := by
  obtain ⟨a', e1, g2, g3, g4⟩ := E.own i o hi
  rw [hs] at e1; cases e1
  have cell : ∀ (j : Nat) c, (r.set i (.own o'))[j]? = some c → (j = i ∧ c = .own o') ∨ (j ≠ i ∧ r[j]? = some c) := fun j c h => by
    rw [List.getElem?_set] at h
    by_cases e : i = j
    · subst e
      rw [if_pos rfl] at h
      split at h
      · exact .inl ⟨rfl, (Option.some.inj h).symm⟩
      · cases h
    · rw [if_neg e] at h; exact .inr ⟨fun z => e z.symm, h⟩
  refine ⟨st.sub, E.ext1.trans st.sh, fun b u h n => ?_, E.ext3, by rw [List.length_set]; exact E.len, fun j d h => ?_, fun j u h => ?_, fun i' j' b oi oj ne h1 h2 h3 h4 => ?_⟩
  · have hb : b ≠ a := ne_of_none h g3
    obtain ⟨n1, k1⟩ := E.ext2 b u h n
    exact st.fw E.sub hb k1 n1
  · rcases cell j _ h with ⟨_, h2⟩ | ⟨_, h2⟩
    · cases h2
    · obtain ⟨v, k1, k2⟩ := E.val j d h2
      exact ⟨v, k1, k2.mono st.sh⟩
  · rcases cell j _ h with ⟨rfl, h2⟩ | ⟨ne, h2⟩
    · cases h2; exact ⟨a, hs, st.at_, g3, ho⟩
    · obtain ⟨b, k1, k2, k3, k4⟩ := E.own j u h2
      have hb : b ≠ a := by rintro rfl; exact E.dis i j b o u (fun z => ne z.symm) hi h2 hs k1
      obtain ⟨w, hw⟩ := k4.here
      obtain ⟨n1, k5⟩ := st.fr b w hb hw k2
      exact ⟨b, k1, n1 (k4.nt hw), k3, k4.mono st.sh (by rw [k5, hw])⟩
  · have o1 : ∃ u, r[i']? = some (.own u) := by
      rcases cell i' _ h1 with ⟨rfl, _⟩ | ⟨_, h⟩
      · exact ⟨o, hi⟩
      · exact ⟨_, h⟩
    have o2 : ∃ u, r[j']? = some (.own u) := by
      rcases cell j' _ h2 with ⟨rfl, _⟩ | ⟨_, h⟩
      · exact ⟨o, hi⟩
      · exact ⟨_, h⟩
    obtain ⟨u1, o1⟩ := o1
    obtain ⟨u2, o2⟩ := o2
    exact E.dis i' j' b u1 u2 ne o1 o2 h3 h4
theorem StepM.apart {K : PySem.W.Frag} {Bs B Hs H Hs' H' : Hp} {s : L2.St} {r : Rho} (E : EnvOk K Bs B Hs H s r) {b : Addr} (hb : H b = none) (j : Nat) (oj : Own) (h : r[j]? = some (.own oj)) : s[j]? ≠ some (some (.ref b)) := E.apart hb j oj h
def eMut (i : Nat) (F : Own → List D → FO × Own) (va : Ev (List D)) : Ev Rv := fun r => match r[i]? with
  | some (.own _) => (va r).bind fun ds r1 => (match r1[i]? with
    | some (.own o) => ofFO (F o ds).1 (r1.set i (.own (F o ds).2))
    | _ => .stuck)
  | _ => .stuck
theorem askM_of {K : PySem.W.Frag} {Bs B Hs H : Hp} {s : L2.St} {r : Rho} {Q : VK} {y : FO} {i : Nat} {a : Addr} {o o' : Own} (E : EnvOk K Bs B Hs H s r) (hi : r[i]? = some (.own o)) (hs : s[i]? = some (some (.ref a))) (q : PostE K W Bs B Hs s (relR K B s) Q (ofFO y (r.set i (.own o')))) :
    AskM K a Hs H Q (fun c d H' => W c d s H') o' y := by
  cases y with
  | stuck => exact q
  | val d => exact fun v Hs' H' st ow rv => q v Hs' H' st.sh (E.afterM hi hs st ow) rv
  | new p =>
    intro b Hs' H' st ow ne h1 h2 h3
    refine q (.ref b) Hs' H' st.sh (E.afterM hi hs st ow) ⟨b, rfl, h2, E.bnone h1, h3, fun j oj hj => ?_⟩
    rw [List.getElem?_set] at hj
    by_cases e : i = j
    · subst e
      rw [hs]
      intro z; cases z; exact ne rfl
    · rw [if_neg e] at hj
      exact E.apart h1 j oj hj
  | exc z => exact fun c d Hs' H' st ow hx => q c d Hs' H' st.sh (E.afterM hi hs st ow) hx
theorem snd_mut {i : Nat} {F : Own → List D → FO × Own} {va : Ev (List D)} (c : MutAt X W (.ref g) (n + 1) F) (ho : PE X e (tVar i)) (ha : SndV X W es va) (hl : ∀ r ds r', va r = .ok ds r' → ds.length = n) (hg : Gl X x) (hm : X.mg x = some (.ref g)) (hk : PySem.W.keepIn X.K (.ref g) = true) (hdb : (x == ("__debug__" : Str)) = false := by decide)
    (he : starEach (e :: es) X.env = (false, eval e X.env) :: starEach es X.env := by rfl) (hpl : (backTo pos (starEach es X.env)).any (·.1) = false := by rfl) : SndE X W (.Call (.Name x p) (e :: es) [] pos) (eMut i F va) := fun Bs B Hs H s r Q E q => by
  unfold eMut at q
  split at q
  case h_2 => exact False.elim q
  rename_i o0 ho0
  obtain ⟨a, h1, h2, h3, h4⟩ := E.own i o0 ho0
  refine ⟨_, pe_ca c hg hm hk (pa_cons ho pa_all he) hdb he hpl, .ref a, h1, ha _ _ _ _ _ _ _ E (PostE.bind q fun ds r1 vs Hs1 H1 hv x1 E1 ra q1 => ?_)⟩
  have ra : RpAll X.K Hs1 vs ds := ra
  split at q1
  case h_2 => exact False.elim q1
  rename_i o1 ho1
  obtain ⟨a', g1, g2, g3, g4⟩ := E1.own i o1 ho1
  rw [h1] at g1; cases g1
  have hlen := hl _ _ _ hv
  refine ⟨by rw [List.length_cons, ra.length, hlen], rfl, Hs1, a, vs, o1, ds, rfl, E1.sub, g2, g4, ra, by rw [List.length_cons, ra.length], ?_⟩
  exact askM_of E1 ho1 h1 q1
/-! ### a new instance -/
/-- C(..): what __init__ makes of an instance without attributes -/
def MakeAt (X : Cx) (W : WX) (C : Addr) (n : Nat) (ks : List Str) (is : List Nat) (F : Own → List D → FO × Own) : Prop :=
  CallAt X (.ref C) n ks fun vs zs σ H Q => ∀ x dx, H x = none → H dx = none → dx ≠ x →
    spM X.K ((sel is (vs ++ zs)).length + 1) F (.ref x :: sel is (vs ++ zs)) (upd (upd H dx (.own x)) x (.ins C dx [])) (fun v H2 => v = .non ∧ Q (.ref x) H2) fun c d H' => W c d σ H'
theorem make_at {fd : FuncData} {ps : List Str} {k : Nat} {f : Addr} {js : List Nat} {F : Own → List D → FO × Own} {np : Nat} (M : Mk X.K C f) (G : FnG X.prog X.w X.K X.mg X.base k f fd ps (spM X.K np F)) (hr : Room (k + 1) X.A) (hg : X.A.guards = some []) (hb : KB X.K fd ps (n + 1) ks js) (tk : Takes X W)
    (hnp : ∀ (y : V) (l : List V), l.length = n + ks.length → sel js (y :: l) = y :: sel is l ∧ (sel is l).length + 1 = np) : MakeAt X W C n ks is F := by
  intro pins s σ H vs zs us ws Q I r rz h1 h2 want
  refine call_make M G hr hg hb tk pins s σ H vs zs us ws Q I r rz h1 h2 fun y dx h3 h4 h5 => ?_
  have := want y dx h3 h4 h5
  obtain ⟨e1, e2⟩ := hnp (.ref y) (vs ++ zs) (by rw [List.length_append, h1, h2])
  rw [e2] at this
  show spM _ _ _ (sel js (.ref y :: (vs ++ zs))) _ _ _
  rw [e1]
  exact this
def eMake (C : Addr) (F : Own → List D → FO × Own) (is : List Nat) (va vk : Ev (List D)) : Ev Rv := fun r => (va r).bind fun ds r1 => (vk r1).bind fun es r2 => match F (.ins C []) (sel is (ds ++ es)) with
  | (.val .non, o) => .ok (.new o) r2
  | (.exc z, _) => .exc z r2
  | _ => .stuck
theorem make_end {F : Own → List D → FO × Own} {Bs B Hs2 H2 : Hp} {s : L2.St} {r2 : Rho} {vs zs : List V} {ds es' : List D} {Q : VK} (E2 : EnvOk X.K Bs B Hs2 H2 s r2) (ra : RpAll X.K Hs2 vs ds) (rb : RpAll X.K Hs2 zs es')
    (q : PostE X.K W Bs B Hs2 s (relR X.K B s) Q (match F (.ins C []) (sel is (ds ++ es')) with
      | (.val .non, o) => .ok (.new o) r2
      | (.exc z, _) => .exc z r2
      | _ => .stuck)) : ∀ x dx, H2 x = none → H2 dx = none → dx ≠ x →
    spM X.K ((sel is (vs ++ zs)).length + 1) F (.ref x :: sel is (vs ++ zs)) (upd (upd H2 dx (.own x)) x (.ins C dx [])) (fun v H3 => v = .non ∧ Q (.ref x) H3) fun c d H' => W c d s H' := by
  intro x dx hx hdx ne
  have hsx : Hs2 x = none := fresh_back E2.sub hx
  have hsd : Hs2 dx = none := fresh_back E2.sub hdx
  have up : Ex H2 (upd (upd H2 dx (.own x)) x (.ins C dx [])) := fun b u h => by
    rw [upd_ne (ne_of_none h hx), upd_ne (ne_of_none h hdx)]; exact h
  have st0 : ∀ {Hs' H' : Hp}, StepM x Hs2 (upd (upd H2 dx (.own x)) x (.ins C dx [])) Hs' H' → Step Hs2 H2 Hs' H' := fun st => ⟨st.sh, st.sub, fun b u h n => st.fr b u (ne_of_none h hx) (up b u h) n⟩
  refine ⟨Hs2, x, _, .ins C [], sel is (ds ++ es'), rfl, E2.sub.trans up, hsx, ⟨dx, [], upd_same, rfl, .nil⟩, RpAll.sel (ra.append rb), by rw [RpAll.length (RpAll.sel (is := is) (ra.append rb))], ?_⟩
  cases hF : F (.ins C []) (sel is (ds ++ es')) with
  | mk fo o =>
    rw [hF] at q
    cases fo with
    | stuck => exact q
    | new p => exact (show False from q).elim
    | exc z => exact fun c d Hs' H' st ow hx => q c d Hs' H' st.sh (E2.step (st0 st)) hx
    | val d =>
      cases d with
      | non =>
        intro v Hs' H' st ow rv
        cases rv
        exact ⟨rfl, q (.ref x) Hs' H' st.sh (E2.step (st0 st)) ⟨x, rfl, st.at_, E2.bnone hx, ow, E2.apart hx⟩⟩
      | _ => exact (show False from q).elim
theorem snd_make {F : Own → List D → FO × Own} {va : Ev (List D)} (c : MakeAt X W C n [] is F) (ha : SndV X W (e :: es) va) (hl : ∀ r ds r', va r = .ok ds r' → ds.length = n) (hg : Gl X x) (hm : X.mg x = some (.ref C)) (hk : PySem.W.keepIn X.K (.ref C) = true) (hdb : (x == ("__debug__" : Str)) = false := by decide)
    (he : starEach (e :: es) X.env = (false, eval e X.env) :: starEach es X.env := by rfl) (hpl : (backTo pos (starEach es X.env)).any (·.1) = false := by rfl) : SndE X W (.Call (.Name x p) (e :: es) [] pos) (eMake C F is va vNil) := fun Bs B Hs H s r Q E q =>
  ⟨_, pe_ca c hg hm hk pa_all hdb he hpl, ha _ _ _ _ _ _ _ E (PostE.bind q fun ds r1 vs Hs1 H1 hv x1 E1 ra q1 => by
    have ra : RpAll X.K Hs1 vs ds := ra
    exact ⟨ra.length.trans (hl _ _ _ hv), rfl, make_end E1 ra .nil q1⟩)⟩
theorem snd_makeK0 {F : Own → List D → FO × Own} {vk : Ev (List D)} (c : MakeAt X W C 0 ks is F) (hkw : SndK X W kws vk) (hl2 : ∀ r ds r', vk r = .ok ds r' → ds.length = ks.length) (hg : Gl X x) (hm : X.mg x = some (.ref C)) (hk : PySem.W.keepIn X.K (.ref C) = true)
    (hall : (backToKw pos (keywordEach kws X.env)).all (·.1.isSome) = true := by rfl) (hks : (backToKw pos (keywordEach kws X.env)).filterMap (·.1) = ks := by rfl)
    (hdb : (x == ("__debug__" : Str)) = false := by decide) (hpl : ((backTo pos (starEach [] X.env)).any (·.1) || (backToKw pos (keywordEach kws X.env)).any (·.1.isNone)) = false := by rfl) : SndE X W (.Call (.Name x p) [] kws pos) (eMake C F is vNil vk) := fun Bs B Hs H s r Q E q =>
  ⟨_, pe_caK0 c hg hm hk pk_all hall hks hdb hpl, hkw _ _ _ _ _ _ _ E (PostE.bind (show PostE X.K W Bs B Hs s (relR X.K B s) Q ((vk r).bind fun es r2 => match F (.ins C []) (sel is ([] ++ es)) with
      | (.val .non, o) => .ok (.new o) r2
      | (.exc z, _) => .exc z r2
      | _ => .stuck) from q) fun es' r2 zs Hs2 H2 hw x2 E2 rb q2 => by
    have rb : RpAll X.K Hs2 zs es' := rb
    exact ⟨rfl, rb.length.trans (hl2 _ _ _ hw), make_end E2 .nil rb q2⟩)⟩
end
end Mp
set_option Elab.async false
set_option linter.all false
set_option maxRecDepth 100000
namespace Mp
open PySem PyProof.Rows L2 Evl
/-! ### attributes -/
theorem fld_rp {K : PySem.W.Frag} {H : Hp} {f : Str} : ∀ {fs : List (Str × V)} {l : List (Str × D)}, fs.map (·.1) = l.map (·.1) → RpAll K H (fs.map (·.2)) (l.map (·.2)) →
    (∀ d, l.lookup f = some d → ∃ v, fs.lookup f = some v ∧ Rp K H v d) ∧ (l.lookup f = none → fs.lookup f = none)
  | [], [], _, _ => ⟨fun d h => by simp at h, fun _ => rfl⟩
  | [], _ :: _, h, _ => by simp at h
  | _ :: _, [], h, _ => by simp at h
  | (a, v) :: fs, (b, d) :: l, h, r => by
    simp only [List.map_cons, List.cons.injEq] at h
    obtain ⟨rfl, h2⟩ := h
    cases r with
    | cons r1 r2 =>
      have ih := fld_rp (f := f) h2 r2
      simp only [List.lookup_cons]
      cases e : f == a with
      | true => exact ⟨fun d' h' => by simp at h'; subst h'; exact ⟨v, rfl, r1⟩, fun h' => by simp at h'⟩
      | false => exact ih
def putFD (f : Str) (d : D) : List (Str × D) → List (Str × D)
  | [] => [(f, d)]
  | (g, x) :: r => if g = f then (g, d) :: r else (g, x) :: putFD f d r
theorem putFD_rp {K : PySem.W.Frag} {H : Hp} {f : Str} {v : V} {d : D} (hv : Rp K H v d) : ∀ {fs : List (Str × V)} {l : List (Str × D)}, fs.map (·.1) = l.map (·.1) → RpAll K H (fs.map (·.2)) (l.map (·.2)) →
    (putF f v fs).map (·.1) = (putFD f d l).map (·.1) ∧ RpAll K H ((putF f v fs).map (·.2)) ((putFD f d l).map (·.2))
  | [], [], _, _ => ⟨rfl, .cons hv .nil⟩
  | [], _ :: _, h, _ => by simp at h
  | _ :: _, [], h, _ => by simp at h
  | (a, w) :: fs, (b, e) :: l, h, r => by
    simp only [List.map_cons, List.cons.injEq] at h
    obtain ⟨rfl, h2⟩ := h
    cases r with
    | cons r1 r2 =>
      obtain ⟨p1, p2⟩ := putFD_rp (f := f) hv h2 r2
      unfold putF putFD
      by_cases e : a = f
      · rw [if_pos e, if_pos e]
        exact ⟨by simp only [List.map_cons]; rw [h2], .cons hv r2⟩
      · rw [if_neg e, if_neg e]
        exact ⟨by simp only [List.map_cons]; rw [p1], .cons r1 p2⟩
theorem Opd.ins {K : PySem.W.Frag} {Hs H : Hp} (e : Ex Hs H) {v : V} {C : Addr} {l : List (Str × D)} (h : Opd K Hs H v (.ins C l)) : ∃ a dx fs, v = .ref a ∧ H a = some (.ins C dx fs) ∧ fs.map (·.1) = l.map (·.1) ∧ RpAll K Hs (fs.map (·.2)) (l.map (·.2)) := by
  generalize hd : D.ins C l = d at h
  cases h with
  | sh h =>
    subst hd
    cases h with
    | ins h k r => exact ⟨_, _, _, rfl, e _ _ h, k, r⟩
  | own h =>
    rename_i a o
    cases o <;> simp only [Own.data] at hd <;> cases hd
    obtain ⟨dx, fs, h1, h2, h3⟩ := h
    exact ⟨_, dx, fs, rfl, h1, h2, h3⟩
section
variable {X : Cx} {W : WX} {z : Bool} {n : Nat} {g C : Addr} {ks : List Str} {is : List Nat} {x m f : Str} {p pos apos : Pos} {e o : Expr} {es : List Expr} {kws : List Keyword}
def dFld (C : Addr) (f : Str) : D → Option Rv
  | .ins C' l => if C' = C then (l.lookup f).map .val else none
  | _ => none
theorem snd_fld {oa : Ev Src} (c : Cls X.K C) (na : NoAttr X.K C f) (ha : SndO X W e oa) (hb : attributeBase e f X.env (eval e X.env) = eval e X.env := by rfl) : SndE X W (.Attribute e f pos) (e1 (dFld C f) oa) := fun Bs B Hs H s r Q E q =>
  ⟨_, pe_fld pe_all hb, ha _ _ _ _ _ _ _ E (PostE.bind q fun x r1 v Hs1 H1 _ x1 E1 ra q1 => by
    split at q1
    · rename_i d hd
      have o := Src.opd E1 ra hd
      split at q1
      · rename_i y hy
        unfold dFld at hy
        split at hy
        · split at hy
          · rename_i C' l hC
            subst hC
            simp only [Option.map_eq_some_iff] at hy
            obtain ⟨w, hw, rfl⟩ := hy
            obtain ⟨a, dx, fs, rfl, h1, h2, h3⟩ := o.ins E1.sub
            obtain ⟨u, hu, ru⟩ := (fld_rp (f := f) h2 h3).1 w hw
            exact ⟨a, C', dx, fs, u, rfl, h1, c, na, hu, q1.ok E1 ru⟩
          · cases hy
        · cases hy
      · exact False.elim q1
    · exact False.elim q1)⟩
/-- x.f = e, x an own instance -/
def sFldD (i : Nat) (f : Str) (ev : Ev Rv) : Sv := fun r => (ev r).toS fun y r1 => match r1[i]? with
  | some (.own (.ins C l)) => if l.length < 1000 then .nx (r1.set i (.own (.ins C (putFD f y.data l)))) else .stuck
  | _ => .stuck
theorem sns_fld {i : Nat} {ev : Ev Rv} {p2 : Pos} (c : ∀ C l (r : Rho), r[i]? = some (.own (.ins C l)) → Cls X.K C ∧ NoAttr X.K C f) (ho : PE X o (tVar i)) (h : SndE X W e ev) (hs : swapsWith e (some (.Attribute o f p2)) pos.line X.env = pure false := by rfl) : SndS X W z (.Assign [.Attribute o f p2] e pos) (sFldD i f ev) := fun Bs B Hs H s r D E q =>
  ⟨_, ps_fld ho pe_all hs, h _ _ _ _ _ _ _ E (PostS.toS q fun y r1 v Hs1 H1 x1 E1 ra q1 => by
    obtain ⟨Hs2, e2, E2, r2⟩ := RvAt.use E1 ra
    have q1 := PostS.mono e2 q1
    split at q1
    case h_2 => exact False.elim q1
    rename_i C' l hl
    split at q1
    case isFalse => exact False.elim q1
    obtain ⟨a, h1, h2, h3, dx, fs, h4, h5, h6⟩ := E2.own i _ hl
    obtain ⟨c1, c2⟩ := c C' l r1 hl
    obtain ⟨p1, p2⟩ := putFD_rp (f := f) r2 h5 h6
    have hlen : fs.length = l.length := by have := congrArg List.length h5; simpa using this
    exact ⟨.ref a, h1, a, C', dx, fs, rfl, h4, c1, c2, by rw [hlen]; assumption, q1.nx (E2.putOwn (o' := .ins C' (putFD f y.data l)) hl h1 ⟨dx, _, upd_same, p1, p2⟩)⟩)⟩
/-! ### a method that changes nothing -/
def eMeth (C : Addr) (m : Str) (F : List D → FO) (is : List Nat) (eo : Ev Rv) (va vk : Ev (List D)) : Ev Rv := fun r => (eo r).bind fun x r1 => match x.data with
  | .ins C' l => if C' = C ∧ l.lookup m = none then (va r1).bind fun ds r2 => (vk r2).bind fun es r3 => ofFO (F (sel is ((.ins C' l :: ds) ++ es))) r3 else .stuck
  | _ => .stuck
theorem snd_meth {F : List D → FO} {eo : Ev Rv} {va : Ev (List D)} {pl : Sem Bool} (c : FunAt X W (.ref g) (n + 1) [] is F) (he : SndE X W o eo) (cl : Cls X.K C) (hm : Meth X.K C m g) (ha : SndV X W (e :: es) va) (hl : ∀ r ds r', va r = .ok ds r' → ds.length = n)
    (hst : starEach (e :: es) X.env = (false, eval e X.env) :: starEach es X.env := by rfl) (hpl : (backTo pos (starEach es X.env)).any (·.1) = false := by rfl)
    (ht : eval (.Call (.Attribute o m apos) (e :: es) [] pos) X.env = (eval o X.env >>= fun ov => standAt apos.atName >>= fun _ => holding [ov] (getMethod ov m pl) >>= fun r =>
      callWith pos r.1 r.2 (backTo pos (starEach (e :: es) X.env)) (backToKw pos (keywordEach [] X.env))) := by rfl) : SndE X W (.Call (.Attribute o m apos) (e :: es) [] pos) (eMeth C m F is eo va vNil) := fun Bs B Hs H s r Q E q =>
  ⟨_, pe_cm c pe_all cl hm pa_all hst hpl ht, he _ _ _ _ _ _ _ E (PostE.bind q fun x r1 v Hs1 H1 _ x1 E1 ra q1 => by
    obtain ⟨Hs2, e2, E2, r2⟩ := RvAt.use E1 ra
    have q2 := PostE.mono e2 q1
    clear q1
    generalize x.data = xd at r2 q2
    split at q2
    case h_2 => exact False.elim q2
    rename_i C' l
    split at q2
    case isFalse => exact False.elim q2
    rename_i hc
    obtain ⟨rfl, hno⟩ := hc
    cases r2 with
    | ins h1 h2 h3 =>
      rename_i a dx fs
      refine ⟨a, dx, fs, rfl, E2.sub _ _ h1, (fld_rp (f := m) h2 h3).2 hno, ha _ _ _ _ _ _ _ E2 (PostE.bind q2 fun ds r3 vs Hs3 H3 hv x3 E3 rb q3 => ?_)⟩
      have rb : RpAll X.K Hs3 vs ds := rb
      refine ⟨by rw [rb.length, hl _ _ _ hv], rfl, ?_⟩
      have rr : Rp X.K Hs3 (.ref a) (.ins C' l) := (Rp.ins h1 h2 h3).mono x3
      exact pure_end (Hs1 := Hs3) (H1 := H3) (ds := .ins C' l :: ds) (es' := []) E3 (.cons rr rb) .nil q3)⟩
theorem snd_methK0 {F : List D → FO} {eo : Ev Rv} {vk : Ev (List D)} {pl : Sem Bool} (c : FunAt X W (.ref g) 1 ks is F) (he : SndE X W o eo) (cl : Cls X.K C) (hm : Meth X.K C m g) (hkw : SndK X W kws vk) (hl2 : ∀ r ds r', vk r = .ok ds r' → ds.length = ks.length)
    (hall : (backToKw pos (keywordEach kws X.env)).all (·.1.isSome) = true := by rfl) (hks : (backToKw pos (keywordEach kws X.env)).filterMap (·.1) = ks := by rfl)
    (hpl : ((backTo pos (starEach [] X.env)).any (·.1) || (backToKw pos (keywordEach kws X.env)).any (·.1.isNone)) = false := by rfl)
    (ht : eval (.Call (.Attribute o m apos) [] kws pos) X.env = (eval o X.env >>= fun ov => standAt apos.atName >>= fun _ => holding [ov] (getMethod ov m pl) >>= fun r =>
      callWith pos r.1 r.2 (backTo pos (starEach [] X.env)) (backToKw pos (keywordEach kws X.env))) := by rfl) : SndE X W (.Call (.Attribute o m apos) [] kws pos) (eMeth C m F is eo vNil vk) := fun Bs B Hs H s r Q E q =>
  ⟨_, pe_cmK0 c pe_all cl hm pk_all hall hks hpl ht, he _ _ _ _ _ _ _ E (PostE.bind q fun x r1 v Hs1 H1 _ x1 E1 ra q1 => by
    obtain ⟨Hs2, e2, E2, r2⟩ := RvAt.use E1 ra
    have q2 := PostE.mono e2 q1
    clear q1
    generalize x.data = xd at r2 q2
    split at q2
    case h_2 => exact False.elim q2
    rename_i C' l
    split at q2
    case isFalse => exact False.elim q2
    rename_i hc
    obtain ⟨rfl, hno⟩ := hc
    cases r2 with
    | ins h1 h2 h3 =>
      rename_i a dx fs
      have q1 : PostE X.K W Bs B Hs2 s (relR X.K B s) Q ((vk r1).bind fun es r3 => ofFO (F (sel is ((.ins C' l :: []) ++ es))) r3) := q2
      refine ⟨a, dx, fs, rfl, E2.sub _ _ h1, (fld_rp (f := m) h2 h3).2 hno, hkw _ _ _ _ _ _ _ E2 (PostE.bind q1 fun ds r3 vs Hs3 H3 hv x3 E3 rb q3 => ?_)⟩
      have rb : RpAll X.K Hs3 vs ds := rb
      refine ⟨rfl, by rw [rb.length, hl2 _ _ _ hv], ?_⟩
      have rr : Rp X.K Hs3 (.ref a) (.ins C' l) := (Rp.ins h1 h2 h3).mono x3
      exact pure_end (Hs1 := Hs3) (H1 := H3) (ds := [.ins C' l]) (es' := ds) E3 (.cons rr .nil) rb q3)⟩
/-! ### calls that the machine makes by itself, a little deeper -/
/-- an around of the same frames, with room -/
structure Near (X : Cx) (k : Nat) (A : Around) : Prop where
  room : Room k A
  gd : A.guards = some []
  fr : A.frames = X.A.frames
theorem Near.self {k : Nat} (hr : Room k X.A) (hg : X.A.guards = some []) : Near X k X.A := ⟨hr, hg, rfl⟩
theorem Near.in1 {k : Nat} {A : Around} (h : Near X (k + 1) A) : Near X k A.in1 := ⟨h.room.in1, h.gd, h.fr⟩
/-- the def g, called at A with the values us: it comes to what F says -/
theorem near_call {fd : FuncData} {ps : List Str} {k np : Nat} {A : Around} {F : List D → FO} (N : Near X k A) (G : FnG X.prog X.w X.K X.mg X.base k g fd ps (spP X.K np F)) (hb : KB X.K fd ps np [] is) (hnp : ∀ {T : Type} (l : List T), l.length = np → sel is l = l)
    {pins : List (Addr × Obj)} {s : Shared} {σ : L2.St} {Hs H : Hp} {vs : List V} {us : List Value} {ds : List D} {Q : VK} {E : Value → Shared → Prop} (I : Inv X pins σ H s) (r : Vals vs us) (sub : Ex Hs H) (rd : RpAll X.K Hs vs ds) (hl : ds.length = np)
    (ask : AskF X.K Hs H Q (fun _ _ _ => False) (F ds)) : wpAny (model X.prog X.w) A (call (.ref g) us) (EP X pins σ Q) E s := by
  have nv : vs.length = np := rd.length.trans hl
  have nu : us.length = np := r.length.symm.trans nv
  have env : Env0 X.prog X.w X.K X.mg X.base A X.stack s H := by
    have e := I.env0
    exact ⟨N.fr.trans e.frames, e.mod, e.bs, e.bsz, e.funs, e.frf, e.hok, e.bare⟩
  have bd : BindsTo s fd ⟨us, []⟩ (ps.zip us) := by
    have h := hb.to s us [] I.kIn nu rfl
    rw [List.append_nil, hnp us nu] at h
    exact h
  refine wpAny_call (codeAny_mono (G.run A X.stack s H ⟨us, []⟩ us vs Q (fun _ _ _ => False) N.room N.gd env bd r ⟨Hs, ds, sub, rd, hl, ask⟩) ?_)
  intro res s' hq
  match res, hq with
  | .ok (.ret u), hq => exact I.after hq
  | .error e, hq =>
    obtain ⟨_, _, _, _, _, _, _, _, _, _, _, _, w⟩ := hq
    exact w.elim
/-- the facts of an own class for len, str, repr, truth and == -/
def FlatAns (F : List D → FO) (ds : List D) (d : D) : Prop := F ds = .val d ∧ ∀ o : Own, o.data ≠ d
theorem inst_at {pins : List (Addr × Obj)} {s : Shared} {σ : L2.St} {H : Hp} {a dx : Addr} {fs : List (Str × V)} (I : Inv X pins σ H s) (h : H a = some (.ins C dx fs)) : ∃ od, PySem.W.InstAt s.heap a (PySem.W.instObj C dx) C (some od) := by
  obtain ⟨mA, O, _⟩ := ins_get I.hok h
  obtain ⟨od, J, _⟩ := O.look
  exact ⟨od, J⟩
/-- len(o), str(o), repr(o) of own instances -/
def dOwn1 (C : Addr) (F : List D → FO) (ok : D → Bool) : List D → Option Rv
  | [.ins C' l] => if C' = C then (match F [.ins C' l] with
    | .val d => if ok d then some (.val d) else none
    | _ => none) else none
  | _ => none
theorem own1_core {F : List D → FO} {ok : D → Bool} {Bs B Hs H : Hp} {s : L2.St} {r : Rho} {vs : List V} {ds : List D} {y : Rv} (E : EnvOk X.K Bs B Hs H s r) (h : OpdAll X.K Hs H vs ds) (hf : dOwn1 C F ok ds = some y) :
    ∃ a dx fs l d Hu, vs = [.ref a] ∧ H a = some (.ins C dx fs) ∧ F [.ins C l] = .val d ∧ y = .val d ∧ ok d = true ∧ Ex Hu H ∧ Rp X.K Hu (.ref a) (.ins C l) ∧ Hu = H := by
  unfold dOwn1 at hf
  split at hf
  · split at hf
    · rename_i C' l hC
      subst hC
      split at hf
      · rename_i d hd
        split at hf <;> cases hf
        rename_i ho
        obtain ⟨v, rfl, hh⟩ := h.one
        obtain ⟨a, dx, fs, rfl, h1, h2, h3⟩ := hh.ins E.sub
        exact ⟨a, dx, fs, l, d, H, rfl, h1, hd, rfl, ho, Ex.refl _, .ins h1 h2 (h3.mono E.sub), rfl⟩
      · cases hf
    · cases hf
  · cases hf
def isNat63 : D → Bool
  | .int i => decide (0 ≤ i) && decide (i < 9223372036854775808)
  | _ => false
def isStrD : D → Bool
  | .str _ => true
  | _ => false
/-- Step from the full heap is a step from the shared one -/
theorem step_full {Hs H H' Hu : Hp} (e : Ex Hs H) (st : Step H H Hu H') : Step Hs H Hs H' := ⟨Ex.refl _, (e.trans st.sh).trans st.sub, fun b o h n => ⟨fun _ => n, st.sub b o (st.sh b o h)⟩⟩
/-- flat data as a value -/
def flatVal : D → V
  | .bl b => .bl b
  | .int i => .int i
  | .str x => .str x
  | _ => .non
theorem rp_flat {K : PySem.W.Frag} {H : Hp} {v : V} {d : D} (h : Rp K H v d) (ok : (isNat63 d || isStrD d) = true) : v = flatVal d := by
  cases h <;> first | rfl | simp [isNat63, isStrD] at ok
/-- one call of an own special method, as an operation on the instance -/
theorem own1_ok {fd : FuncData} {ps : List Str} {k : Nat} {F : List D → FO} {ok : D → Bool} {gv : Value} (hflat : ∀ d, ok d = true → (isNat63 d || isStrD d) = true)
    (rule : ∀ (pins : List (Addr × Obj)) (s : Shared) (σ : L2.St) (H : Hp) (a dx : Addr) (fs : List (Str × V)) (d : D) (Q : VK), Inv X pins σ H s → H a = some (.ins C dx fs) → ok d = true →
      (∀ (A : Around) (E : Value → Shared → Prop), Near X k A → wpAny (model X.prog X.w) A (call (.ref g) [.ref a]) (EP X pins σ fun v H' => v = flatVal d ∧ Q v H') E s) →
      wpAny (model X.prog X.w) X.A (call gv [.ref a]) (EP X pins σ Q) X.xe s)
    (G : FnG X.prog X.w X.K X.mg X.base k g fd ps (spP X.K 1 F)) (hb : KB X.K fd ps 1 [] is) (hnp : ∀ {T : Type} (l : List T), l.length = 1 → sel is l = l) : CallOk X gv (dOwn1 C F ok) := by
  intro Bs B Hs H s r vs ds y Q E h hd q
  obtain ⟨a, dx, fs, l, d, Hu, rfl, h1, hF, rfl, hok, _, rp, rfl⟩ := own1_core E h hd
  refine ⟨fun vs' H0 Q0 => vs' = [.ref a] ∧ H0 = Hu ∧ ∀ H', Step Hs Hu Hs H' → Q0 (flatVal d) H', ?_, rfl, rfl, fun H' st => q _ Hs H' st ?_⟩
  · intro pins sh σ H0 xs us Q0 I rv hq
    obtain ⟨rfl, rfl, hq⟩ := hq
    cases rv with
    | cons ra rn =>
      cases rn
      cases ra
      refine rule pins sh σ H0 a dx fs d Q0 I h1 hok fun A E' N => ?_
      refine near_call N G hb hnp I (.cons (show RelV (.ref a) (Value.ref a) from rfl) .nil) (Ex.refl H0) (.cons rp .nil) rfl ?_
      rw [hF]
      intro v Hs' H' st rv
      have hv := rp_flat rv (hflat d hok)
      exact ⟨hv, hv ▸ hq H' (step_full E.sub st)⟩
  · have := hflat d hok
    show Rp X.K Hs (flatVal d) d
    cases d <;> first | exact .int _ | exact .str _ | simp [isNat63, isStrD] at this
theorem ok_lenO {fd : FuncData} {ps : List Str} {k : Nat} {F : List D → FO} (N : Near X k X.A.in1) (G : FnG X.prog X.w X.K X.mg X.base k g fd ps (spP X.K 1 F)) (hb : KB X.K fd ps 1 [] is) (hnp : ∀ {T : Type} (l : List T), l.length = 1 → sel is l = l)
    (hs : PySem.W.findIn X.K (.ref C) "__len__" = some (some (.ref g))) (hf : PySem.W.isFn X.K (.ref g) = true) : CallOk X (.builtin "len") (dOwn1 C F isNat63) := by
  refine own1_ok (fun d h => by rw [h]; rfl) ?_ G hb hnp
  intro pins s σ H a dx fs d Q I h1 hok h
  obtain ⟨od, J⟩ := inst_at I h1
  obtain ⟨m, fr⟩ := I.fr
  refine PySem.W.len_K fr I.ok.mod.kin J hs hf (wpAny_mono (h _ _ N) ?_ fun _ _ x => x)
  rintro v s' ⟨v', H', I', rv', hv, qq⟩
  subst hv
  cases d <;> simp only [isNat63, reduceCtorEq] at hok
  rename_i i
  obtain ⟨t, rfl⟩ := rv'
  simp only [Bool.and_eq_true, decide_eq_true_eq] at hok
  exact ⟨hok, .int i, H', I'.tok _, ⟨_, rfl⟩, qq⟩
theorem ok_strO {fd : FuncData} {ps : List Str} {k : Nat} {F : List D → FO} (R : Rm X) (N : Near X k X.A.in1.in1) (G : FnG X.prog X.w X.K X.mg X.base k g fd ps (spP X.K 1 F)) (hb : KB X.K fd ps 1 [] is) (hnp : ∀ {T : Type} (l : List T), l.length = 1 → sel is l = l)
    (hs : PySem.W.findIn X.K (.ref C) "__str__" = some (some (.ref g))) (hf : PySem.W.isFn X.K (.ref g) = true) : CallOk X (.type "str") (dOwn1 C F isStrD) := by
  refine own1_ok (fun d h => by rw [h]; simp) ?_ G hb hnp
  intro pins s σ H a dx fs d Q I h1 hok h
  obtain ⟨od, J⟩ := inst_at I h1
  have hu := R.un
  refine PySem.W.kso_call (by show X.A.units + 1 + 1 < cLine; omega) I.kIn J hs hf (wpAny_mono (h _ _ N) ?_ fun _ _ x => x)
  rintro v s' ⟨v', H', I', rv', hv, qq⟩
  subst hv
  cases d <;> simp only [isStrD, reduceCtorEq] at hok
  rename_i y
  obtain ⟨t, rfl⟩ := rv'
  exact ⟨.str y, H', I', ⟨_, rfl⟩, qq⟩
theorem ok_reprO {fd : FuncData} {ps : List Str} {k : Nat} {F : List D → FO} (R : Rm X) (N : Near X k X.A.in1) (G : FnG X.prog X.w X.K X.mg X.base k g fd ps (spP X.K 1 F)) (hb : KB X.K fd ps 1 [] is) (hnp : ∀ {T : Type} (l : List T), l.length = 1 → sel is l = l)
    (hs : PySem.W.findIn X.K (.ref C) "__repr__" = some (some (.ref g))) (hf : PySem.W.isFn X.K (.ref g) = true) : CallOk X (.builtin "repr") (dOwn1 C F isStrD) := by
  refine own1_ok (fun d h => by rw [h]; simp) ?_ G hb hnp
  intro pins s σ H a dx fs d Q I h1 hok h
  obtain ⟨od, J⟩ := inst_at I h1
  obtain ⟨m, fr⟩ := I.fr
  have hu := R.un
  refine PySem.W.repr_K (by show X.A.units + 1 < cLine; omega) fr I.ok.mod.kin J hs hf (wpAny_mono (h _ _ N) ?_ fun _ _ x => x)
  rintro v s' ⟨v', H', I', rv', hv, qq⟩
  subst hv
  cases d <;> simp only [isStrD, reduceCtorEq] at hok
  rename_i y
  obtain ⟨t, rfl⟩ := rv'
  exact ⟨.str y, H', I', ⟨_, rfl⟩, qq⟩
/-! repr of data -/
def dRepr : List D → Option Rv
  | [d] => (match toPy d with
    | some p => if p.showable && !p.hasDict && decide (p.shown.length ≤ 100000) && decide (p.depth ≤ 64) then some (.val (.str p.shown)) else none
    | none => none)
  | _ => none
theorem ok_reprU (hu0 : X.A.units + 200 < cLine) (hg : X.A.guards = some []) : CallOk X (.builtin "repr") dRepr := by
  intro Bs B Hs H s r vs ds y Q E h hd q
  unfold dRepr at hd
  split at hd
  case h_2 => cases hd
  rename_i d
  split at hd
  case h_2 => cases hd
  rename_i pd hp
  split at hd
  case isFalse => cases hd
  cases hd
  rename_i hz
  simp only [Bool.and_eq_true, decide_eq_true_eq, Bool.not_eq_true'] at hz
  obtain ⟨⟨⟨hz1, hz2⟩, hz3⟩, hz4⟩ := hz
  obtain ⟨v, rfl, hh⟩ := h.one
  have dp := (hh.rp E.sub).dp hp
  refine ⟨fun vs' H0 Q0 => vs' = [v] ∧ H0 = H ∧ Q0 (.str pd.shown) H0, ?_, rfl, rfl, q.val E (.str _)⟩
  intro pins sh σ H0 xs us Q0 I rv hq
  obtain ⟨rfl, rfl, hq⟩ := hq
  have hu := hu0
  have hsl : pd.shown.length ≤ sizeLine := Nat.le_trans hz3 (by rw [sizeLine_eq]; decide)
  cases rv with
  | cons ra rn =>
    cases rn
    rename_i u
    obtain ⟨as, rds⟩ := Dp.reads I pd v u dp ra
    cases v with
    | ref a =>
      cases ra
      exact repr_of_reads' rds hz1 (fun e => by rw [hz2] at e; cases e) hg (by omega) (fun b o e => e) (fun h' t tk hk => ⟨.str pd.shown, H0, I.kept hk, ⟨_, rfl⟩, hq⟩) hsl
    | non =>
      cases ra
      cases dp
      exact PySem.P.repr_of_none ⟨.str _, H0, I.tok _, ⟨_, rfl⟩, hq⟩
    | bl b =>
      cases ra
      cases dp
      exact PySem.P.repr_of_bool ⟨.str _, H0, I.tok _, ⟨_, rfl⟩, hq⟩
    | int i =>
      obtain ⟨t, rfl⟩ := ra
      cases dp
      simp only [PyData.showable, decide_eq_true_eq] at hz1
      exact PySem.P.repr_of_int hz1 ⟨.str _, H0, I.tok _, ⟨_, rfl⟩, hq⟩
    | str x =>
      obtain ⟨t, rfl⟩ := ra
      cases dp
      exact PySem.P.repr_of_str ⟨.str _, H0, I.tok _, ⟨_, rfl⟩, hq⟩ hsl
    | _ => cases dp
theorem ok_repr (R : Rm X) (hg : X.A.guards = some []) : CallOk X (.builtin "repr") dRepr := ok_reprU R.un hg
end
end Mp
set_option Elab.async false
set_option linter.all false
set_option maxRecDepth 100000
namespace Mp
open PySem PyProof.Rows L2 Evl
/-! ### enumerate of a tuple -/
set_option maxHeartbeats 1000000 in
theorem enum_new1 {v : Value} {o : Obj} {H : Heap → Prop} (B : Begins v o H) : Meets (Builtin.«enumerate.__new__» ⟨[.type "enumerate", v], []⟩) (fun _ R s => H s.heap ∧
    R (.ok (.ret (.ref (s.heap.push o).objs.size))) { s with heap := (s.heap.push o).push { cls := .type "enumerate", data := .fields #[.none, .bool false, .ref s.heap.objs.size, rawInt 0, .none, .none] } }) :=
  .of_wp fun prog w A R s h => by
    obtain ⟨hp, g, d, tk, os⟩ := s
    obtain ⟨hH, hR⟩ := h
    have sub_e := sub_enumerate
    have starts : ∀ {A' : Around} {E : Value → Shared → Prop} {Q : Value → Shared → Prop}, Q (.ref hp.objs.size) ⟨hp.push o, g, d, tk, os⟩ → wpAny (model prog w) A' (pyIter v) Q E ⟨hp, g, d, tk, os⟩ := fun q => B.iter prog w _ _ ⟨hp, g, d, tk, os⟩ _ hH q
    wp_walk using starts
    refine wpAny_stack_any fun st => wpAny_pure ?_
    split
    · rename_i c _ _ _ _ _
      cases (c == Value.type "enumerate") <;> (wp_walk using starts; exact ⟨_, rfl, hR⟩)
    · wp_walk using starts
      exact ⟨_, rfl, hR⟩
theorem enum_call1 {prog : Program} {w : World} {A : Around} {E : Value → Shared → Prop} {s : Shared} {v : Value} {o : Obj} {H : Heap → Prop} {Q : Value → Shared → Prop} (B : Begins v o H) (hH : H s.heap)
    (h : ∀ h', IsEnum h' (s.heap.objs.size + 1) s.heap.objs.size 0 .none → h'.get? s.heap.objs.size = some o → (∀ b u, s.heap.get? b = some u → h'.get? b = some u) → Q (.ref (s.heap.objs.size + 1)) { s with heap := h' }) :
    wpAny (model prog w) A (call (.type "enumerate") [v]) Q E s := by
  refine callType_new F.called_enumerate (by decide) (F.typeCall_enumerate_1 _) (F.newCall_enumerate_1 _) (fun x => F.args_object_init_2 x _) F.entry_enumerate_new (enum_new1 B) ⟨hH, ?_⟩
  have sz1 : (s.heap.push o).objs.size = s.heap.objs.size + 1 := Heap.size_push ..
  generalize hE : ({ cls := .type "enumerate", data := .fields #[.none, .bool false, .ref s.heap.objs.size, rawInt 0, .none, .none] } : Obj) = eo
  have he : ((s.heap.push o).push eo).get? (s.heap.objs.size + 1) = some eo := by
    have z := Heap.get?_push_size (s.heap.push o) (o := eo) (by subst hE; rfl)
    rwa [sz1] at z
  show _ ∧ _
  rw [sz1]
  subst hE
  exact ⟨⟨_, he, rfl⟩, h _ he (Heap.get?_push_of_some _ (Heap.get?_push_size _ B.free)) fun b u x => Heap.get?_push_of_some _ (Heap.get?_push_of_some _ x)⟩
/-- the tuple at a, each item in a new pair -/
def ItE (K : PySem.W.Frag) (a : Addr) : It :=
  ⟨fun i H => ∃ (xs : List V) (x : V), SqT K H a xs ∧ xs[i]? = some x, fun i H v H' => ∃ T x, v = .ref T ∧ H T = none ∧ H' = upd H T (.tup [.int (i : Nat), x]) ∧ ∀ xs, SqT K H a xs → xs[i]? = some x, fun i H => ∃ xs : List V, SqT K H a xs ∧ xs.length ≤ i⟩
theorem turn_enumT {P : Program} {w : World} {K : PySem.W.Frag} {elts : List Expr} {kk : Nat} {tpos : Pos} (a e it : Addr) :
    Turn P w K (.Tuple elts kk tpos) (ItE K a) [e, it] e (fun i h => (∃ old, IsEnum h e it ((i : Nat) : Int) old) ∧ h.IsTupleIter it a i ∧ (e ≠ it ∧ a ≠ it ∧ a ≠ e)) where
  mem := by simp
  obj := fun i h st b hb => by
    obtain ⟨⟨old, he⟩, ⟨o, ho, hc, hd⟩, _⟩ := st
    rcases (show b = e ∨ b = it by simpa using hb) with z | z
    · rw [z]; exact ⟨_, he, fun v q => nomatch q⟩
    · rw [z]; exact ⟨o, ho, fun v q => by rw [hd] at q; cases q⟩
  keep := fun i h h' st k => by
    obtain ⟨⟨old, he⟩, hi, ne⟩ := st
    exact ⟨⟨old, k e (by simp) _ he⟩, hi.at fun o q => k it (by simp) o q, ne⟩
  item := by
    intro X hP hw hK hc i pins s σ H E I hf st hg
    subst hP hw hK
    obtain ⟨⟨old, he⟩, hit, ne, na, nae⟩ := st
    obtain ⟨xs, x, hq, hx⟩ := hg
    obtain ⟨its, rv, p, hz⟩ := I.tuple hq
    obtain ⟨u, hu, ru⟩ := rv.get hx
    have hel : e < s.heap.objs.size := Heap.lt_size he
    have hil : it < s.heap.objs.size := by obtain ⟨_, q, _⟩ := hit; exact Heap.lt_size q
    have D := Draws.tuple (prog := X.prog) (w := X.w) (A := X.A.in1) (I.ok.hd hc) it a na its.toArray
    have lt : i < its.toArray.size := by
      rw [List.size_toArray]
      exact (List.getElem?_eq_some_iff.mp hu).1
    refine wpAny_pyNext_enum_itemD D he ⟨hit, p⟩ lt ne (by simp [ne, Ne.symm nae]) fun y h' tk hy ho hst hT hsz hk => ?_
    have ey : y = u := by
      have : its.toArray[i]? = some u := by simpa using hu
      rw [this] at hy; exact (Option.some.inj hy).symm
    subst ey
    refine ⟨_, rfl, wpAny_letOwnedTupleGo_enum (s := { s with heap := h', toks := tk + 1 }) ho fun h'' he' sb => ?_⟩
    have hT2 := (sb.2 _ (Nat.ne_of_gt hel)).trans hT
    have new : ObjOk X.prog X.w (upd H s.heap.objs.size (.tup [.int (i : Nat), x])) h'' s.heap.objs.size (.tup [.int (i : Nat), x]) := ⟨by show 2 ≤ sizeLine; decide, [.int i tk, y], .cons ⟨_, rfl⟩ (.cons ru .nil), ⟨_, hT2, rfl, _, rfl⟩⟩
    have I1 : Inv X pins σ (upd H s.heap.objs.size (.tup [.int (i : Nat), x])) { s with heap := h'', toks := tk + 1 } :=
      I.turnedNew (ch := [e, it]) (fun b ob hb q => (sb.2 b fun z => hb (by simp [z])).trans (hk b ob (fun z => hb (by simp [z])) (fun z => hb (by simp [z])) q)) hf (Nat.le_refl _) new
    refine ⟨.ref s.heap.objs.size, _, I1, rfl, ⟨_, x, rfl, I.hok.fresh (Nat.le_refl _), rfl, fun ys hy => by rw [I.tuple_inj hy hq]; exact hx⟩, ⟨⟨y, ?_⟩, hst.1.at fun o q => (sb.2 it (Ne.symm ne)).trans q, ne, na, nae⟩, fun b hb => ?_⟩
    · rw [show ((i + 1 : Nat) : Int) = (i : Int) + 1 by omega]; exact he'
    · have lt : b < s.heap.objs.size := by
        rcases (show b = e ∨ b = it by simpa using hb) with z | z <;> (rw [z]; assumption)
      rw [upd_ne (Nat.ne_of_lt lt)]
      exact (hf b hb).1
  done := by
    intro X hP hw hK hc i pins s σ H E I hf st hg
    subst hP hw hK
    obtain ⟨⟨old, he⟩, hit, ne, na, nae⟩ := st
    obtain ⟨xs, hq, hx⟩ := hg
    obtain ⟨its, rv, p, hz⟩ := I.tuple hq
    obtain ⟨f0, f1, f2, f3, f4, f5⟩ := hf it (by simp)
    have hl := rv.length
    have D := Draws.tuple (prog := X.prog) (w := X.w) (A := X.A.in1) (I.ok.hd hc) it a na its.toArray
    have hh : X.A.handled = none := I.ok.hd hc
    have hT : s.TypeIs (.ref e) "enumerate" := ⟨_, he, rfl⟩
    unfold pyNext
    refine wpAny_bind (wpAny_attempt (wpAny_callSpecial?_slot (name := Str.ofString "__next__") hT F.slot_enumerate_next (wpAny_call_entry F.slot_enumerate_next hT F.entry_enumerate_next ?_ (F.args_enumerate_next_1 _))))
    show wpAny _ _ (field (.ref e) 2 >>= _) _ _ _
    refine wpAny_bind (wpAny_field he rfl (x := .ref it) rfl ?_)
    refine wpAny_bind (wpAny_nextOf_tuple_end hh hit p (by simp; omega) fun h' y eb hy => ?_)
    obtain ⟨o, ho, hcl⟩ := hy
    refine wpAny_bind (wpAny_isInstance (T := "StopIteration") (b := true) ⟨o, ho, hcl⟩ isSubtype_stop ?_)
    exact wpAny_pure ⟨rfl, I.turned (t' := s.toks) (fun b o hb q => eb b o hb q) f0 f1 f3 f4 f5⟩
  self := fun A i s Q E st h => let ⟨⟨_, he⟩, _⟩ := st; wpAny_pyIter_enum he h
def iEnT (K : PySem.W.Frag) (ta : TA) : TI := fun σ H R => ta σ H fun vs H1 => ∃ a xs, vs = [.ref a] ∧ SqT K H1 a xs ∧ R (ItE K a) H1
theorem pi_enumT {X : Cx} {e : Expr} {ta : TA} {p pos tpos : Pos} {elts : List Expr} {kk : Nat} (hg : Gl X "enumerate") (hm : X.mg "enumerate" = none) (ha : PA X [e] ta) (hs : starEach [e] X.env = [(false, eval e X.env)] := by rfl) :
    PI X (.Tuple elts kk tpos) (.Call (.Name "enumerate" p) [e] [] pos) (iEnT X.K ta) := by
  constructor
  intro pins s σ H R I h
  refine Call_ (ld_blt I hg hm boot_enumerate (PyProof.Rows.callWith_type1 (thn (ha.run pos pins s σ H _ I h) fun us s1 ⟨vs, H1, I1, r1, a, xs, ex, hq, q⟩ => ?_) hs rfl))
  subst ex
  cases r1 with
  | cons r rr =>
    cases rr
    cases r
    obtain ⟨its, rv, p', hz⟩ := I1.tuple hq
    refine enum_call1 (begins_tuple a its.toArray) p' fun h' he ho hk => wpAny_pyIter_enum he ?_
    have I2 : Inv X pins σ H1 { s1 with heap := h' } := I1.kept (t' := s1.toks) hk
    have al : a < s1.heap.objs.size := by obtain ⟨_, q, _⟩ := p'; exact Heap.lt_size q
    refine ⟨s1.heap.objs.size + 1, [s1.heap.objs.size + 1, s1.heap.objs.size], _, _, H1, rfl, I2, turn_enumT a (s1.heap.objs.size + 1) s1.heap.objs.size, ⟨⟨.none, he⟩, ⟨_, ho, rfl, rfl⟩, Nat.succ_ne_self _, Nat.ne_of_lt al, Nat.ne_of_lt (Nat.lt_succ_of_lt al)⟩, fun b hb => ?_, q⟩
    have hle : s1.heap.objs.size ≤ b := by
      rcases (show b = s1.heap.objs.size + 1 ∨ b = s1.heap.objs.size by simpa using hb) with z | z
      · rw [z]; exact Nat.le_add_right _ _
      · rw [z]; exact Nat.le_refl _
    exact I1.fpOk hle (I1.hok.fresh hle)
section
variable {X : Cx} {W : WX} {tg e a b c : Expr} {pos : Pos}
theorem wk_enumT {K : PySem.W.Frag} {Hb : Hp} {a : Addr} {vs : List V} {ds : List D} (h : Hb a = some (.tup vs)) (r : RpAll K Hb vs ds) : Wk K Hb (ItE K a) (enumD ds) := fun Hs H e1 e2 => by
  have hl : H a = some (.tup vs) := e2 _ _ (e1 _ _ h)
  refine ⟨fun i d hd => ?_, ⟨vs, st_of hl, by unfold enumD; rw [List.length_map, List.length_zipIdx, r.length]; exact Nat.le_refl _⟩⟩
  unfold enumD at hd
  rw [List.getElem?_map, List.getElem?_zipIdx] at hd
  cases hc : ds[i]? with
  | none => rw [hc] at hd; cases hd
  | some y =>
    rw [hc] at hd; simp at hd; subst hd
    obtain ⟨v, hv, rv⟩ := r.get hc
    refine ⟨⟨vs, v, st_of hl, hv⟩, fun x H' ⟨T, z, e, hT, e3, hx⟩ => ?_⟩
    subst e; subst e3
    have := hx vs (st_of hl)
    rw [hv] at this; cases this
    have hTs : Hs T = none := fresh_back e2 hT
    refine ⟨upd Hs T _, Step.new e2 hT, .tup upd_same (.cons (.int _) (.cons (rv.mono (e1.trans (Ex.new hTs))) .nil))⟩
/-- enumerate of a list or a tuple -/
def iEn (ev : Ev Rv) : Ev (List D) := fun r => (ev r).bind fun x r => match x.data with
  | .lst ds => .ok (enumD ds) r
  | .tup ds => .ok (enumD ds) r
  | _ => .stuck
theorem sni_en {ev : Ev Rv} {p tpos : Pos} {elts : List Expr} {kk : Nat} (h : SndE X W e ev) (hg : Gl X "enumerate") (hm : X.mg "enumerate" = none) (hs : starEach [e] X.env = [(false, eval e X.env)] := by rfl) (hst : starEach [e] X.env = (false, eval e X.env) :: starEach [] X.env := by rfl) :
    SndI X W (.Tuple elts kk tpos) (.Call (.Name "enumerate" p) [e] [] pos) (iEn ev) := fun Bs B Hs H s r R E q => by
  unfold iEn at q
  cases hv : ev r with
  | stuck => rw [hv] at q; exact False.elim q
  | exc y r1 =>
    refine ⟨_, pi_enum hg hm (pa_cons pe_all pa_nil hst) hs, h _ _ _ _ _ _ _ E ?_⟩
    rw [hv] at q ⊢; exact q
  | ok x r1 =>
    rw [hv] at q
    have q : PostE X.K W Bs B Hs s (relI X.K) R (match x.data with
      | .lst ds => .ok (enumD ds) r1
      | .tup ds => .ok (enumD ds) r1
      | _ => .stuck) := q
    split at q
    · rename_i ds hx
      refine ⟨_, pi_enum hg hm (pa_cons pe_all pa_nil hst) hs, h _ _ _ _ _ _ _ E ?_⟩
      rw [hv]
      intro v Hs' H' e1 E1 ra
      obtain ⟨Hs2, e2, E2, r2⟩ := RvAt.use E1 ra
      rw [hx] at r2
      cases r2 with
      | lst h1 h2 => exact ⟨_, _, rfl, sq_of (E2.sub _ _ h1), q _ Hs2 H' (e1.trans e2) E2 (wk_enum h1 h2)⟩
    · rename_i ds hx
      refine ⟨_, pi_enumT hg hm (pa_cons pe_all pa_nil hst) hs, h _ _ _ _ _ _ _ E ?_⟩
      rw [hv]
      intro v Hs' H' e1 E1 ra
      obtain ⟨Hs2, e2, E2, r2⟩ := RvAt.use E1 ra
      rw [hx] at r2
      cases r2 with
      | tup h1 h2 => exact ⟨_, _, rfl, st_of (E2.sub _ _ h1), q _ Hs2 H' (e1.trans e2) E2 (wk_enumT h1 h2)⟩
    · exact False.elim q
/-! ### starred items of displays -/
def vStar (ea : Ev Rv) (as : Ev (List D)) : Ev (List D) := fun r => (ea r).bind fun x r1 => match x.data with
  | .lst l => (as r1).bind fun xs r2 => .ok (l ++ xs) r2
  | .tup l => (as r1).bind fun xs r2 => .ok (l ++ xs) r2
  | _ => .stuck
theorem snv_star {es : List Expr} {ea : Ev Rv} {as : Ev (List D)} {p : Pos} (ha : SndE X W e ea) (hs : SndV X W es as) (hst : starEach (.Starred e p :: es) X.env = (true, eval e X.env) :: starEach es X.env := by rfl) : SndV X W (.Starred e p :: es) (vStar ea as) := fun Bs B Hs H s r Q E q =>
  ⟨_, StX.pa_star pe_all pa_all hst, ha _ _ _ _ _ _ _ E (PostE.bind q fun x r1 v Hs1 H1 _ x1 E1 ra q1 => by
    obtain ⟨Hs2, e2, E2, r2⟩ := RvAt.use E1 ra
    have q1 := PostE.mono e2 q1
    generalize x.data = xd at q1 r2
    split at q1
    · cases r2 with
      | lst h1 h2 => exact ⟨_, _, rfl, .inr (sq_of (E2.sub _ _ h1)), hs _ _ _ _ _ _ _ E2 (PostE.bind q1 fun xs r3 vs Hs3 H3 _ x3 E3 rb q3 => q3.ok E3 ((h2.mono x3).append rb))⟩
    · cases r2 with
      | tup h1 h2 => exact ⟨_, _, rfl, .inl (st_of (E2.sub _ _ h1)), hs _ _ _ _ _ _ _ E2 (PostE.bind q1 fun xs r3 vs Hs3 H3 _ x3 E3 rb q3 => q3.ok E3 ((h2.mono x3).append rb))⟩
    · exact False.elim q1)⟩
end
end Mp
set_option Elab.async false
set_option linter.all false
set_option maxRecDepth 100000
namespace Mp
open PySem PyProof.Rows L2 Evl
/-! ### two rules for one operation -/
section
variable {X : Cx} {W : WX} {tg e o a b c : Expr} {es : List Expr} {pos p : Pos} {x : Str}
theorem ok_or {g : Value → Value → Sem Value} {f1 f2 : D → D → Option Rv} (h1 : OpOk X g f1) (h2 : OpOk X g f2) : OpOk X g fun d e => (f1 d e).orElse fun _ => f2 d e := by
  intro Bs B Hs H s r v u d e x Q E hv hu hf q
  have hf : (f1 d e).orElse (fun _ => f2 d e) = some x := hf
  cases h : f1 d e with
  | none => rw [h] at hf; exact h2 _ _ _ _ _ _ _ _ _ _ _ _ E hv hu hf q
  | some y =>
    rw [h] at hf
    have hf : some y = some x := hf
    cases hf
    exact h1 _ _ _ _ _ _ _ _ _ _ _ _ E hv hu h q
theorem cok_or {g : Value} {f1 f2 : List D → Option Rv} (h1 : CallOk X g f1) (h2 : CallOk X g f2) : CallOk X g fun d => (f1 d).orElse fun _ => f2 d := by
  intro Bs B Hs H s r vs ds x Q E h hf q
  have hf : (f1 ds).orElse (fun _ => f2 ds) = some x := hf
  cases hh : f1 ds with
  | none => rw [hh] at hf; exact h2 _ _ _ _ _ _ _ _ _ _ E h hf q
  | some y =>
    rw [hh] at hf
    have hf : some y = some x := hf
    cases hf
    exact h1 _ _ _ _ _ _ _ _ _ _ E h hh q
/-! ### names of the module -/
theorem snd_gi {i : Int} {t : Tok} (hg : Gl X x) (hm : X.mg x = some (.int i t)) (hd : (x == ("__debug__" : Str)) = false := by decide) : SndE X W (.Name x pos) (eC (.int i)) := snd_c (v := .int i) (pe_glob hg hm ⟨t, rfl⟩ hd) fun _ => .int _
theorem sno_gi {i : Int} {t : Tok} (hg : Gl X x) (hm : X.mg x = some (.int i t)) (hd : (x == ("__debug__" : Str)) = false := by decide) : SndO X W (.Name x pos) (oC (.int i)) := sno_c (v := .int i) (pe_glob hg hm ⟨t, rfl⟩ hd) fun _ => .int _
theorem snd_gs {i : Str} {t : Tok} (hg : Gl X x) (hm : X.mg x = some (.str i t)) (hd : (x == ("__debug__" : Str)) = false := by decide) : SndE X W (.Name x pos) (eC (.str i)) := snd_c (v := .str i) (pe_glob hg hm ⟨t, rfl⟩ hd) fun _ => .str _
theorem sno_gs {i : Str} {t : Tok} (hg : Gl X x) (hm : X.mg x = some (.str i t)) (hd : (x == ("__debug__" : Str)) = false := by decide) : SndO X W (.Name x pos) (oC (.str i)) := sno_c (v := .str i) (pe_glob hg hm ⟨t, rfl⟩ hd) fun _ => .str _
/-! ### order of tuples -/
def lexLe (ns ms : List Int) : Bool := Ob.lexAt (fun j => decide (ns.getD j 0 = ms.getD j 0)) (fun j => decide (ns.getD j 0 ≤ ms.getD j 0)) (decide (ns.length ≤ ms.length)) 0 (min ns.length ms.length)
def dLeT : D → D → Option Rv
  | .tup a, .tup b => match toInts a, toInts b with
    | some ns, some ms => vB (lexLe ns ms)
    | _, _ => none
  | _, _ => none
theorem ok_leT (R : Rm X) : OpOk X (compareOp .LtE) dLeT := by
  intro Bs B Hs H s r v u d e x Q E hv hu hf q
  have hr := R.un
  unfold dLeT at hf
  split at hf
  · split at hf <;> cases hf
    rename_i n1 n2
    obtain ⟨a, vs, rfl, h1, r1, w1⟩ := hv.tup E.sub
    obtain ⟨b, us, rfl, h2, r2, w2⟩ := hu.tup E.sub
    have e1 := toInts_rp n1 r1
    have e2 := toInts_rp n2 r2
    subst e1 e2
    exact ⟨_, op_leT (by omega), _, _, _, _, rfl, rfl, st_of h1, st_of h2, q.val E (.bl _)⟩
  · cases hf
/-! ### isinstance -/
/-- what an own class must have for isinstance, == and != -/
structure InsK (K : PySem.W.Frag) (C : Addr) : Prop where
  cl : Cls K C
  ha : PySem.W.findIn K (.ref C) "__class__" = some (some (.builtin "object.__class__"))
  hn : PySem.W.specialIn K (.builtin "object.__class__") "__get__" = some (some (.builtin "getset_descriptor.__get__"))
  htk : PySem.W.takesIn K (.builtin "object.__class__") = some true
  hm : PySem.W.mroIn K C (.type "object") = some true
def tyNm : D → String
  | .non => "NoneType"
  | .bl _ => "bool"
  | .int _ => "int"
  | .str _ => "str"
  | .tup _ => "tuple"
  | .lst _ => "list"
  | .dT _ => "dict"
  | .dK _ => "dict"
  | .scr _ => "list"
  | .ins _ _ => ""
def tyVl : D → Value
  | .ins C _ => .ref C
  | d => .type (tyNm d)
theorem tyx_of {K : PySem.W.Frag} {H : Hp} {v : V} {d : D} (h : Rp K H v d) (hs : ∀ l, d ≠ .scr l) (hi : ∀ C l, d = .ins C l → InsK K C) : TyX K H v (tyVl d) := by
  cases h with
  | non => exact .base .non
  | bl b => exact .base (.bl b)
  | int b => exact .base (.int b)
  | str b => exact .base (.str b)
  | lst h r => exact .base (.lst h)
  | tup h r => exact .base (.tup h)
  | scr h => exact absurd rfl (hs _)
  | dT h k r => exact .base (.dT h)
  | dK h k r => exact .base (.dK h)
  | ins h k r =>
    have c := hi _ _ rfl
    exact .base (.ins h c.cl c.ha c.hn c.htk c.hm)
/-- f tells isinstance(d, cu) -/
structure IsOk (K : PySem.W.Frag) (cu : Value) (f : D → Option Bool) : Prop where
  one : ∀ d b, f d = some b → PySem.W.kitOne K (tyVl d) cu = some b
  scr : ∀ l, f (.scr l) = none
  ins : ∀ C l b, f (.ins C l) = some b → InsK K C
def dIsi (f : D → Option Bool) (d : D) : Option Rv := (f d).map fun b => .val (.bl b)
theorem snd_isi {oa : Ev Src} {cu : Value} {cv : V} {f : D → Option Bool} (hf : IsOk X.K cu f) (hc : PE X c (tC cv)) (kc : ClsV cv cu) (ha : SndO X W a oa) (hg : Gl X "isinstance") (hm : X.mg "isinstance" = none) (hv : bootBuiltins "isinstance" = some (.builtin "isinstance"))
    (he : starEach [a, c] X.env = (false, eval a X.env) :: starEach [c] X.env := by rfl) (hst2 : starEach [c] X.env = (false, eval c X.env) :: starEach [] X.env := by rfl) (hpl : (backTo pos (starEach [c] X.env)).any (·.1) = false := by rfl) :
    SndE X W (.Call (.Name "isinstance" p) [a, c] [] pos) (e1 (dIsi f) oa) := fun Bs B Hs H s r Q E q =>
  ⟨_, pe_callB call_isi hg hm hv (pa_cons pe_all (pa_cons hc pa_nil hst2) he) (by decide) (by decide) he hpl, ha _ _ _ _ _ _ _ E (PostE.bind q fun x r1 v Hs1 H1 _ x1 E1 ra q1 => by
    split at q1
    · rename_i d hd
      have o := (Src.opd E1 ra hd).rp E1.sub
      split at q1
      · rename_i z hz
        simp only [dIsi, Option.map_eq_some_iff] at hz
        obtain ⟨b, hb, rfl⟩ := hz
        exact ⟨v, cv, tyVl d, cu, b, rfl, kc, tyx_of o (fun l e => by subst e; rw [hf.scr] at hb; cases hb) (fun C l e => by subst e; exact hf.ins _ _ _ hb), hf.one _ _ hb, q1.ok E1 (.bl _)⟩
      · exact False.elim q1
    · exact False.elim q1)⟩
/-- of a built-in type; own instances: k -/
def isT (T : String) (k : Bool) : D → Option Bool
  | .scr _ => none
  | .ins _ _ => if k then some false else none
  | d => some (tyNm d == T || (tyNm d == "bool" && T == "int"))
theorem kitB_all : ∀ T ∈ ["int", "str", "tuple", "bool", "list"], ∀ n ∈ ["NoneType", "bool", "int", "str", "tuple", "list", "dict"], kitB n T = some (n == T || (n == "bool" && T == "int")) := by decide +kernel
theorem isT_ok {K : PySem.W.Frag} {T : String} (hT : T ∈ ["int", "str", "tuple", "bool", "list"] := by decide) : IsOk K (.type T) (isT T false) where
  one := fun d b h => by
    have key := kitB_all T hT
    cases d <;> simp only [isT, Option.some.injEq, reduceCtorEq, Bool.false_eq_true, if_false] at h <;> subst h <;> exact kit_ty (key _ (by simp [tyNm]))
  scr := fun l => rfl
  ins := fun C l b h => by simp [isT] at h
/-- the same, instances of the one class at C among what is asked -/
def isTC (T : String) (C : Addr) : D → Option Bool
  | .ins C' _ => if C' = C then some false else none
  | d => isT T false d
theorem isTC_ok {K : PySem.W.Frag} {T : String} {C : Addr} (c : InsK K C) (h0 : PySem.W.kitOne K (.ref C) (.type T) = some false) (hT : T ∈ ["int", "str", "tuple", "bool", "list"] := by decide) : IsOk K (.type T) (isTC T C) where
  one := fun d b h => by
    cases d with
    | ins C' l =>
      simp only [isTC] at h
      split at h
      · rename_i e; subst e; cases h; exact h0
      · cases h
    | _ => exact (isT_ok hT).one _ b h
  scr := fun l => rfl
  ins := fun C' l b h => by
    simp only [isTC] at h
    split at h
    · rename_i e; subst e; exact c
    · cases h
/-- of the own class at C -/
def isC (C : Addr) : D → Option Bool
  | .ins C' _ => if C' = C then some true else none
  | .scr _ => none
  | d => some false
theorem isC_ok {K : PySem.W.Frag} {C : Addr} (c : InsK K C) (h0 : ∀ n ∈ ["NoneType", "bool", "int", "str", "tuple", "list", "dict"], PySem.W.kitOne K (.type n) (.ref C) = some false) : IsOk K (.ref C) (isC C) where
  one := fun d b h => by
    cases d with
    | ins C' l =>
      simp only [isC] at h
      split at h
      · rename_i e; subst e; cases h; exact if_pos (beq_self_eq_true _)
      · cases h
    | scr l => simp [isC] at h
    | _ => simp only [isC, Option.some.injEq] at h; subst h; exact h0 _ (by simp [tyNm])
  scr := fun l => rfl
  ins := fun C' l b h => by
    simp only [isC] at h
    split at h
    · rename_i e; subst e; exact c
    · cases h
/-! ### signs of a text, as a list -/
def dListStr : List D → Option Rv
  | [.str z] => if z.length ≤ sizeLine then some (.new (.lst (signs z))) else none
  | _ => none
theorem signs_rp {K : PySem.W.Frag} {H : Hp} : ∀ l : List Nat, RpAll K H (l.map fun c => V.str ⟨#[c]⟩) (l.map fun c => D.str ⟨#[c]⟩)
  | [] => .nil
  | c :: l => .cons (.str _) (signs_rp l)
def rListS : List V → Hp → VK → Prop := fun xs H Q => ∃ z : Str, xs = [.str z] ∧ z.length ≤ sizeLine ∧ ∀ q, H q = none → Q (.ref q) (upd H q (.lst (z.cps.toList.map fun c => V.str ⟨#[c]⟩)))
theorem call_listS (hc : X.calm = true) : CallR X (.type "list") rListS := by
  intro pins s σ H xs us Q I r h
  obtain ⟨z, rfl, hz, q⟩ := h
  cases r with
  | cons rx rr =>
    cases rr
    obtain ⟨t, rfl⟩ := rx
    refine call_list_str (I.ok.hd hc) z t (fun h' tk acc' c' hk hS hacc => ?_) hz
    refine ⟨.ref s.heap.objs.size, upd H s.heap.objs.size (.lst (z.cps.toList.map fun c => V.str ⟨#[c]⟩)), I.laid hk (Nat.le_refl _) (show ObjOk X.prog X.w _ _ _ (.lst (z.cps.toList.map fun c => V.str ⟨#[c]⟩)) from ⟨?_, acc'.toList, c', ?_, ?_⟩), rfl, q _ (I.hok.fresh (Nat.le_refl _))⟩
    · rw [List.length_map, Array.length_toList]; exact hz
    · refine vals_of_at (by rw [List.length_map, Array.length_toList, Array.length_toList]; exact hacc.1.symm) fun j x w h1 h2 => ?_
      obtain ⟨c, u, e1, e2⟩ := hacc.2 j w (by rw [← Array.getElem?_toList]; exact h2)
      rw [List.getElem?_map, Array.getElem?_toList, e1] at h1
      cases h1
      subst e2
      exact ⟨u, rfl⟩
    · rw [Array.toArray_toList]; exact hS
theorem ok_listS (R : Rm X) : CallOk X (.type "list") dListStr := by
  intro Bs B Hs H s r vs ds x Q E h hf q
  unfold dListStr at hf
  split at hf
  · split at hf <;> cases hf
    rename_i z hz
    obtain ⟨v, rfl, hh⟩ := h.one
    rw [hh.str]
    exact ⟨_, call_listS R.calm, z, rfl, hz, fun p hp => q.lst E (signs_rp _) hp⟩
  · cases hf
end
end Mp
set_option Elab.async false
set_option linter.all false
set_option maxRecDepth 100000
namespace Mp
open PySem PySem.Spec PyProof.Rows L2 Evl
section
variable {X : Cx} {W : WX} {z : Bool} {n : Nat} {g C : Addr} {ks : List Str} {is : List Nat} {x m f : Str} {p pos apos : Pos} {e o : Expr} {es : List Expr} {kws : List Keyword}
/-- what a call comes to that may not raise -/
def ofFO0 : FO → Rho → EO Rv
  | .val d, r => .ok (.val d) r
  | .new o, r => .ok (.new o) r
  | _, _ => .stuck
theorem ask_of0 {K : PySem.W.Frag} {Bs B Hs H : Hp} {s : L2.St} {r : Rho} {Q : VK} {y : FO} (E : EnvOk K Bs B Hs H s r) (q : PostE K W Bs B Hs s (relR K B s) Q (ofFO0 y r)) : AskF K Hs H Q (fun _ _ _ => False) y := by
  cases y with
  | stuck => exact False.elim q
  | val d => exact fun v Hs' H' st rv => q v Hs' H' st.sh (E.step st) rv
  | new o => exact fun a Hs' H' st h1 h2 h3 => q (.ref a) Hs' H' st.sh (E.step st) ⟨a, rfl, h2, E.bnone h1, h3, E.apart h1⟩
  | exc z => exact False.elim q
/-- near_call, as code -/
theorem near_code {fd : FuncData} {ps : List Str} {k np : Nat} {A : Around} {F : List D → FO} (N : Near X k A) (G : FnG X.prog X.w X.K X.mg X.base k g fd ps (spP X.K np F)) (hb : KB X.K fd ps np [] is) (hnp : ∀ {T : Type} (l : List T), l.length = np → sel is l = l)
    {pins : List (Addr × Obj)} {s : Shared} {σ : L2.St} {Hs H : Hp} {vs : List V} {us : List Value} {ds : List D} {Q : VK} (I : Inv X pins σ H s) (r : Vals vs us) (sub : Ex Hs H) (rd : RpAll X.K Hs vs ds) (hl : ds.length = np)
    (ask : AskF X.K Hs H Q (fun _ _ _ => False) (F ds)) : codeAny (model X.prog X.w) A (.call (.ref g) ⟨us, []⟩) (fun res s' => ∃ u, res = .ok (.ret u) ∧ EP X pins σ Q u s') s := by
  have nv : vs.length = np := rd.length.trans hl
  have nu : us.length = np := r.length.symm.trans nv
  have env : Env0 X.prog X.w X.K X.mg X.base A X.stack s H := by
    have e := I.env0
    exact ⟨N.fr.trans e.frames, e.mod, e.bs, e.bsz, e.funs, e.frf, e.hok, e.bare⟩
  have bd : BindsTo s fd ⟨us, []⟩ (ps.zip us) := by
    have h := hb.to s us [] I.kIn nu rfl
    rw [List.append_nil, hnp us nu] at h
    exact h
  refine codeAny_mono (G.run A X.stack s H ⟨us, []⟩ us vs Q (fun _ _ _ => False) N.room N.gd env bd r ⟨Hs, ds, sub, rd, hl, ask⟩) ?_
  intro res s' hq
  match res, hq with
  | .ok (.ret u), hq => exact ⟨u, rfl, I.after hq⟩
  | .error e, hq =>
    obtain ⟨_, _, _, _, _, _, _, _, _, _, _, _, w⟩ := hq
    exact w.elim
/-! ### properties -/
theorem getprop_near {fd : FuncData} {ps : List Str} {k : Nat} {F : List D → FO} {pr a dx : Addr} {fs : List (Str × V)} {l : List (Str × D)} {pins : List (Addr × Obj)} {σ : L2.St} {Hs H : Hp} {s : Shared} {Q : VK} {b : Bool} {E' : Value → Shared → Prop}
    (N : Near X k X.A.in1) (G : FnG X.prog X.w X.K X.mg X.base k g fd ps (spP X.K 1 F)) (hb : KB X.K fd ps 1 [] is) (hnp : ∀ {T : Type} (l : List T), l.length = 1 → sel is l = l) (c : Cls X.K C) (hp : PropOf X.K C f pr g)
    (I : Inv X pins σ H s) (ea : H a = some (.ins C dx fs)) (sub : Ex Hs H) (rd : Rp X.K Hs (.ref a) (.ins C l)) (ask : AskF X.K Hs H Q (fun _ _ _ => False) (F [.ins C l])) : wpAny (model X.prog X.w) X.A (getAttr (.ref a) f b) (EP X pins σ Q) E' s := by
  obtain ⟨od, J⟩ := inst_at I ea
  obtain ⟨rest, hrec⟩ := hp.rec_
  have I1 := I.tok (s.toks + 1)
  have hc : (PySem.W.clsIn X.K C).isSome = true := by
    obtain ⟨cd, hc, _⟩ := PySem.W.any_some c.hd
    rw [hc]; rfl
  have pg := PySem.W.plainGet_of (c.get f)
  refine PySem.W.get_bind I.kIn J pg.1 (PySem.W.findObj_data hc hp.at_ hp.get hp.tak) pg.2 (wpAny_call (PySem.W.prop_get (s := { s with toks := s.toks + 1 }) I.kIn hrec ?_))
  refine codeAny_mono (near_code N G hb hnp I1 (.cons (show L2.RelV (.ref a) (Value.ref a) from rfl) .nil) sub (.cons rd .nil) rfl ask) ?_
  rintro res s' ⟨u, rfl, v, H', I3, rv, q3⟩
  show wpAny _ _ (handedOut u) _ _ _
  rw [PySem.W.handedOut_of (handed_of rv)]
  exact wpAny_pure ⟨v, H', I3, rv, q3⟩
def eProp (C : Addr) (F : List D → FO) (ev : Ev Rv) : Ev Rv := fun r => (ev r).bind fun x r1 => match x.data with
  | .ins C' l => if C' = C then ofFO0 (F [.ins C' l]) r1 else .stuck
  | _ => .stuck
theorem snd_prop {fd : FuncData} {ps : List Str} {k : Nat} {F : List D → FO} {pr : Addr} {ev : Ev Rv} (N : Near X k X.A.in1) (G : FnG X.prog X.w X.K X.mg X.base k g fd ps (spP X.K 1 F)) (hb : KB X.K fd ps 1 [] is) (hnp : ∀ {T : Type} (l : List T), l.length = 1 → sel is l = l)
    (c : Cls X.K C) (hp : PropOf X.K C f pr g) (h : SndE X W e ev) (hab : attributeBase e f X.env (eval e X.env) = eval e X.env := by rfl) : SndE X W (.Attribute e f pos) (eProp C F ev) := fun Bs B Hs H s r Q E q => by
  let t : TE := fun σ H Q => aE X e σ H fun x H1 => ∃ a dx fs l Hs, x = .ref a ∧ H1 a = some (.ins C dx fs) ∧ Ex Hs H1 ∧ Rp X.K Hs (.ref a) (.ins C l) ∧ AskF X.K Hs H1 Q (fun _ _ _ => False) (F [.ins C l])
  have pe : PE X (.Attribute e f pos) t := by
    constructor
    intro pins s σ H Q I h
    refine attr_of hab (thn (pe_all.run pins s σ H _ I h) fun u s1 ⟨x, H1, I1, rx, a, dx, fs, l, Hs, ex, ea, sub, rd, ask⟩ => ?_)
    subst ex
    obtain rfl : u = Value.ref a := rx
    exact getprop_near N G hb hnp c hp I1 ea sub rd ask
  refine ⟨t, pe, h _ _ _ _ _ _ _ E (PostE.bind q fun x r1 v Hs1 H1 _ x1 E1 ra q1 => ?_)⟩
  obtain ⟨Hs2, e2, E2, r2⟩ := RvAt.use E1 ra
  have q2 := PostE.mono e2 q1
  clear q1
  generalize x.data = xd at q2 r2
  have q1 := q2
  clear q2
  split at q1
  · rename_i C' l
    split at q1
    · rename_i hC
      subst hC
      cases r2 with
      | ins h1 h2 h3 =>
        rename_i a dx fs
        exact ⟨a, dx, fs, l, Hs2, rfl, E2.sub _ _ h1, E2.sub, .ins h1 h2 h3, ask_of0 E2 q1⟩
    · exact False.elim q1
  · exact False.elim q1
/-! ### own ==, != -/
/-- what may stand on the right -/
def eqArg (C : Addr) : D → Bool
  | .ins C' _ => decide (C' = C)
  | .scr _ => false
  | _ => true
def dOwn2 (C : Addr) (F : List D → FO) (neg : Bool) (d e : D) : Option Rv := match d with
  | .ins C' l => if C' = C ∧ eqArg C e = true then (match F [.ins C' l, e] with
    | .val (.bl k) => vB (k != neg)
    | _ => none) else none
  | _ => none
theorem ty_looks {pins : List (Addr × Obj)} {s : Shared} {σ : L2.St} {H : Hp} {v : V} {u : Value} {e : D} (c : InsK X.K C) (I : Inv X pins σ H s) (rv : L2.RelV v u) (re : Rp X.K H v e) (ha : eqArg C e = true) :
    PySem.W.Looks (model X.prog X.w) s.heap (typeOf u) (tyVl e) := by
  have ty : TyX X.K H v (tyVl e) := tyx_of re (fun l h => by subst h; cases ha) (fun C' l h => by
    subst h
    have : C' = C := by simpa [eqArg] using ha
    subst this; exact c)
  obtain ⟨P, Z, hP, _⟩ := kit_of I rv ty
  exact Z.ty _ _ I.kIn hP
theorem not_first {e : D} (nf : ∀ T ∈ ["NoneType", "bool", "int", "str", "tuple", "list", "dict"], PySem.W.notFirst X.K C (.type T) = true) (ha : eqArg C e = true) : PySem.W.notFirst X.K C (tyVl e) = true := by
  cases e with
  | ins C' l =>
    have : C' = C := by simpa [eqArg] using ha
    subst this
    simp [PySem.W.notFirst, tyVl]
  | scr l => cases ha
  | _ => exact nf _ (by simp [tyNm])
theorem own2_core {F : List D → FO} {neg : Bool} {Bs B Hs H : Hp} {s : L2.St} {r : Rho} {v u : V} {d e : D} {y : Rv} (E : EnvOk X.K Bs B Hs H s r) (hv : Opd X.K Hs H v d) (hu : Opd X.K Hs H u e) (hf : dOwn2 C F neg d e = some y) :
    ∃ a dx fs l k, v = .ref a ∧ H a = some (.ins C dx fs) ∧ F [.ins C l, e] = .val (.bl k) ∧ y = .val (.bl (k != neg)) ∧ eqArg C e = true ∧ RpAll X.K H [.ref a, u] [.ins C l, e] := by
  unfold dOwn2 at hf
  split at hf
  · split at hf
    · rename_i C' l hC
      obtain ⟨rfl, ha⟩ := hC
      split at hf
      · rename_i k hk
        cases hf
        obtain ⟨a, dx, fs, rfl, h1, h2, h3⟩ := hv.ins E.sub
        exact ⟨a, dx, fs, l, k, rfl, h1, hk, rfl, ha, .cons (.ins h1 h2 (h3.mono E.sub)) (.cons (hu.rp E.sub) .nil)⟩
      · cases hf
    · cases hf
  · cases hf
theorem ok_eqO {fd : FuncData} {ps : List Str} {k : Nat} {F : List D → FO} (R : Rm X) (c : InsK X.K C) (nf : ∀ T ∈ ["NoneType", "bool", "int", "str", "tuple", "list", "dict"], PySem.W.notFirst X.K C (.type T) = true)
    (N : Near X k X.A) (G : FnG X.prog X.w X.K X.mg X.base k g fd ps (spP X.K 2 F)) (hb : KB X.K fd ps 2 [] is) (hnp : ∀ {T : Type} (l : List T), l.length = 2 → sel is l = l)
    (hs : PySem.W.findIn X.K (.ref C) "__eq__" = some (some (.ref g))) (hf : PySem.W.isFn X.K (.ref g) = true) : OpOk X (compareOp .Eq) (dOwn2 C F false) := by
  intro Bs B Hs H s r v u d e y Q E hv hu hd q
  obtain ⟨a, dx, fs, l, b, rfl, h1, hF, rfl, ha, rp⟩ := own2_core E hv hu hd
  refine ⟨fun v' u' H0 Q0 => v' = .ref a ∧ u' = u ∧ H0 = H ∧ ∀ H', Step Hs H Hs H' → Q0 (.bl b) H', ?_, rfl, rfl, rfl, fun H' st => by
    have := q (.bl b) Hs H' st
    simp only [Bool.bne_false] at this
    exact this (.bl b)⟩
  intro pins sh σ H0 v' u' w1 w2 Q0 I rv ru hq
  obtain ⟨rfl, rfl, rfl, hq⟩ := hq
  cases rv
  obtain ⟨od, J⟩ := inst_at I h1
  obtain ⟨m, fr⟩ := I.fr
  have hun := R.un
  have re : Rp X.K H0 u' e := by cases rp with | cons _ b => cases b with | cons b _ => exact b
  show wpAny (model X.prog X.w) X.A (richCompare .Eq (.ref a) w2) (EP X pins σ Q0) X.xe sh
  refine PySem.W.cmp_K (op := .Eq) (by omega) fr I.ok.mod.kin J (ty_looks c I ru re ha) (not_first nf ha) hs hf (wpAny_mono (near_call (Q := fun v H' => v = .bl b ∧ Q0 (.bl b) H') N G hb hnp I (.cons (show L2.RelV (.ref a) (Value.ref a) from rfl) (.cons ru .nil)) (Ex.refl H0) rp rfl ?_) ?_ fun _ _ x => x)
  · rw [hF]
    intro v Hs' H' st rv
    cases rv
    exact ⟨rfl, hq H' (step_full E.sub st)⟩
  · rintro w s' ⟨v', H', I', rv', rfl, qq⟩
    cases rv'
    exact ⟨.bl b, H', I', rfl, qq⟩
/-- the machine's own != by the text's == -/
theorem ne_own {pins : List (Addr × Obj)} {s : Shared} {σ : L2.St} {H : Hp} {a dx : Addr} {fs : List (Str × V)} {w2 tb : Value} {Q : VK} {b : Bool} (R : Rm X) (c : InsK X.K C) (I : Inv X pins σ H s) (h1 : H a = some (.ins C dx fs)) (hb : PySem.W.Looks (model X.prog X.w) s.heap (typeOf w2) tb) (hn : PySem.W.notFirst X.K C tb = true)
    (hne : PySem.W.findIn X.K (.ref C) "__ne__" = some (some (.builtin "object.__ne__"))) (hs : PySem.W.findIn X.K (.ref C) "__eq__" = some (some (.ref g))) (hf : PySem.W.isFn X.K (.ref g) = true)
    (h : wpAny (model X.prog X.w) X.A.in1 (call (.ref g) [.ref a, w2]) (EP X pins σ fun v H' => v = .bl b ∧ Q (.bl (!b)) H') X.xe s) : wpAny (model X.prog X.w) X.A (richCompare .NotEq (.ref a) w2) (EP X pins σ Q) X.xe s := by
  obtain ⟨od, J⟩ := inst_at I h1
  have hun := R.un
  have inner : wpAny (model X.prog X.w) X.A (call (.builtin "object.__ne__") [.ref a, w2]) (EP X pins σ Q) X.xe s := by
    refine wpAny_call (codeAny_call_builtin PySem.F.cmp_object.ne.plain PySem.F.cmpEntry_ne (PySem.W.check_slot (i := "object.__ne__") (owner := "object") (n := "__ne__") PySem.F.cmpKind_ne PySem.F.cmpSplit_ne (J.type.andThen (PySem.W.looks_mroIn I.kIn c.hm)) (PySem.F.cmpArgs_ne _ _) ?_))
    unfold Builtin.«object.__ne__»
    refine wpAny_bind (m := slotArgs "__ne__" 1 _) (wpAny_pure ?_)
    refine wpAny_bind (m := cRoomFor _ _) (wpAny_cRoomFor (by show X.A.units + 1 < cLine; omega) ?_)
    refine wpAny_bind (m := callSpecialIfBound? (.ref a) (Str.ofString "__eq__") _) (PySem.W.ifBound_K I.kIn J hs hf (wpAny_mono h (fun r s' hq => ?_) fun _ _ y => y))
    obtain ⟨v', H', I', rv', rfl, qq⟩ := hq
    cases rv'
    refine wpAny_bind (wpAny_pure ?_)
    exact wpAny_pure ⟨.bl (!b), H', I', rfl, qq⟩
  have bound : wpAny (model X.prog X.w) X.A (callSpecialIfBound? (.ref a) "__ne__" [w2]) (fun r s' => ∃ v, r = some v ∧ EP X pins σ Q v s') X.xe s := by
    simp only [callSpecialIfBound?, bindSpecialIfBound?]
    refine wpAny_holding (wpAny_bind (wpAny_bind (wpAny_bind (J.type.here ((PySem.W.looks_findIn I.kIn hne).here ?_)))))
    have last : wpAny (model X.prog X.w) X.A (call (.builtin "object.__ne__") ([.ref a] ++ [w2]) >>= fun v => pure (some v)) (fun r s' => ∃ v, r = some v ∧ EP X pins σ Q v s') X.xe s := wpAny_bind (wpAny_mono inner (fun v s' h' => wpAny_pure ⟨v, rfl, h'⟩) fun _ _ h' => h')
    refine wpAny_bind (wpAny_askSetting (wpAny_ite ?_))
    split
    · exact wpAny_bind ((PySem.W.Looks.of_pure (PySem.F.cmp_object.ne.bind _)).here (wpAny_pure (by exact last)))
    · exact wpAny_tryCatch (wpAny_bind ((PySem.W.Looks.of_pure (PySem.F.cmp_object.ne.bind _)).here (wpAny_pure (by exact last))))
  have one : wpAny (model X.prog X.w) X.A (tryCompare (.ref a) "__ne__" w2) (fun r s' => ∃ v, r = some v ∧ EP X pins σ Q v s') X.xe s := by
    unfold tryCompare
    refine wpAny_bind (wpAny_mono bound (fun r s' hq => ?_) fun _ _ y => y)
    obtain ⟨v, rfl, v', H', I', rv', qq⟩ := hq
    have nn : v ≠ .notImplemented := by
      rintro rfl
      cases v' <;> simp [L2.RelV] at rv'
    cases v <;> first | exact absurd rfl nn | exact wpAny_pure ⟨_, rfl, v', H', I', rv', qq⟩
  unfold richCompare
  simp only [oneThing_ref]
  refine wpAny_holding (wpAny_bind (wpAny_cRoomFor (by omega) ?_))
  refine wpAny_bind (J.type.here (wpAny_bind (hb.here ?_)))
  have fin : ∀ r s', (∃ v, r = some v ∧ EP X pins σ Q v s') → ∃ v, r = some v ∧ EP X pins σ Q v s' := fun _ _ h => h
  split
  · rename_i qn
    have nf : PySem.W.subIn X.K tb (.ref C) = some false := by
      rcases Bool.or_eq_true_iff.mp hn with e | e
      · rw [beq_iff_eq.mp e] at qn; simp at qn
      · exact beq_iff_eq.mp e
    refine wpAny_bind ((PySem.W.looks_subIn I.kIn nf).here ?_)
    simp only [Bool.false_eq_true, if_false]
    refine wpAny_bind (wpAny_mono one (fun r s' z => ?_) fun _ _ e => e)
    obtain ⟨v, rfl, hq⟩ := z
    exact wpAny_pure hq
  · refine wpAny_bind (wpAny_pure ?_)
    simp only [Bool.false_eq_true, if_false]
    refine wpAny_bind (wpAny_mono one (fun r s' z => ?_) fun _ _ e => e)
    obtain ⟨v, rfl, hq⟩ := z
    exact wpAny_pure hq
theorem ok_neO {fd : FuncData} {ps : List Str} {k : Nat} {F : List D → FO} (R : Rm X) (c : InsK X.K C) (nf : ∀ T ∈ ["NoneType", "bool", "int", "str", "tuple", "list", "dict"], PySem.W.notFirst X.K C (.type T) = true)
    (N : Near X k X.A.in1) (G : FnG X.prog X.w X.K X.mg X.base k g fd ps (spP X.K 2 F)) (hb : KB X.K fd ps 2 [] is) (hnp : ∀ {T : Type} (l : List T), l.length = 2 → sel is l = l)
    (hne : PySem.W.findIn X.K (.ref C) "__ne__" = some (some (.builtin "object.__ne__"))) (hs : PySem.W.findIn X.K (.ref C) "__eq__" = some (some (.ref g))) (hf : PySem.W.isFn X.K (.ref g) = true) : OpOk X (compareOp .NotEq) (dOwn2 C F true) := by
  intro Bs B Hs H s r v u d e y Q E hv hu hd q
  obtain ⟨a, dx, fs, l, b, rfl, h1, hF, rfl, ha, rp⟩ := own2_core E hv hu hd
  refine ⟨fun v' u' H0 Q0 => v' = .ref a ∧ u' = u ∧ H0 = H ∧ ∀ H', Step Hs H Hs H' → Q0 (.bl (!b)) H', ?_, rfl, rfl, rfl, fun H' st => by
    have := q (.bl (!b)) Hs H' st
    simp only [Bool.bne_true] at this
    exact this (.bl (!b))⟩
  intro pins sh σ H0 v' u' w1 w2 Q0 I rv ru hq
  obtain ⟨rfl, rfl, rfl, hq⟩ := hq
  cases rv
  have re : Rp X.K H0 u' e := by cases rp with | cons _ b => cases b with | cons b _ => exact b
  show wpAny (model X.prog X.w) X.A (richCompare .NotEq (.ref a) w2) (EP X pins σ Q0) X.xe sh
  refine ne_own (b := b) R c I h1 (ty_looks c I ru re ha) (not_first nf ha) hne hs hf (near_call (Q := fun v H' => v = .bl b ∧ Q0 (.bl (!b)) H') N G hb hnp I (.cons (show L2.RelV (.ref a) (Value.ref a) from rfl) (.cons ru .nil)) (Ex.refl H0) rp rfl ?_)
  rw [hF]
  intro v Hs' H' st rv
  cases rv
  exact ⟨rfl, hq H' (step_full E.sub st)⟩
/-! ### own __bool__ -/
def dBool (C : Addr) (F : List D → FO) (d : D) : Option Bool := match d with
  | .ins C' l => if C' = C then (match F [.ins C' l] with
    | .val (.bl k) => some k
    | _ => none) else none
  | _ => none
def tTrO (C : Addr) (F : List D → FO) (oa : Ev Src) : Ev Bool := fun r => (oa r).bind fun x r1 => match x.rd r1 with
  | some d => (match dBool C F d with
    | some k => .ok k r1
    | none => .stuck)
  | none => .stuck
theorem snt_truO {fd : FuncData} {ps : List Str} {k : Nat} {F : List D → FO} {oa : Ev Src} (N : Near X k X.A) (G : FnG X.prog X.w X.K X.mg X.base k g fd ps (spP X.K 1 F)) (hb : KB X.K fd ps 1 [] is) (hnp : ∀ {T : Type} (l : List T), l.length = 1 → sel is l = l)
    (hs : PySem.W.findIn X.K (.ref C) "__bool__" = some (some (.ref g))) (hf : PySem.W.isFn X.K (.ref g) = true) (ha : SndO X W e oa) (he : ∀ whole, isTrue e X.env whole = (do let v ← whole; standAt e.pos; holding [v] (truthy v))) : SndT X W e (tTrO C F oa) := fun Bs B Hs H s r Q E q => by
  let rr : V → Hp → (Bool → Hp → Prop) → Prop := fun v H Q => ∃ a dx fs l b, v = .ref a ∧ H a = some (.ins C dx fs) ∧ Rp X.K H (.ref a) (.ins C l) ∧ F [.ins C l] = .val (.bl b) ∧ ∀ Hs H', Ex Hs H → Step Hs H Hs H' → Q b H'
  have tr : TruR X rr := by
    intro pins sh σ H0 v u Q0 I rv hq
    obtain ⟨a, dx, fs, l, b, rfl, h1, rp, hF, hq⟩ := hq
    cases rv
    obtain ⟨od, J⟩ := inst_at I h1
    obtain ⟨m, fr⟩ := I.fr
    refine PySem.W.truthy_K fr I.ok.mod.kin J hs hf (wpAny_mono (near_call (Q := fun v H' => v = .bl b ∧ Q0 b H') N G hb hnp I (.cons (show L2.RelV (.ref a) (Value.ref a) from rfl) .nil) (Ex.refl H0) (.cons rp .nil) rfl ?_) ?_ fun _ _ x => x)
    · rw [hF]
      intro v Hs' H' st rv
      cases rv
      exact ⟨rfl, hq H0 H' (Ex.refl _) (step_full (Ex.refl _) st)⟩
    · rintro w s' ⟨v', H', I', rv', rfl, qq⟩
      cases rv'
      exact ⟨H', I', qq⟩
  refine ⟨_, pt_truthR pe_all tr he, ha _ _ _ _ _ _ _ E (PostE.bind q fun x r1 v Hs1 H1 _ x1 E1 ra q1 => ?_)⟩
  split at q1
  · rename_i d hd
    have o := Src.opd E1 ra hd
    split at q1
    · rename_i b hb'
      unfold dBool at hb'
      split at hb'
      · split at hb'
        · rename_i C' l hC
          subst hC
          split at hb'
          · rename_i k hk
            cases hb'
            obtain ⟨a, dx, fs, rfl, h1, h2, h3⟩ := o.ins E1.sub
            refine ⟨a, dx, fs, l, b, rfl, h1, .ins h1 h2 (h3.mono E1.sub), hk, fun Hs0 H' e0 st => ?_⟩
            have ex : Ex H1 H' := Step.ex e0 st
            exact q1 b Hs1 H' (Ex.refl _) (E1.step ⟨Ex.refl _, E1.sub.trans ex, fun b o h n => ⟨fun _ => n, ex b o h⟩⟩) rfl
          · cases hb'
        · cases hb'
      · cases hb'
    · exact False.elim q1
  · exact False.elim q1
end
end Mp
set_option Elab.async false
set_option linter.all false
set_option maxRecDepth 100000
namespace Mp
open PySem PySem.Spec PyProof.Rows L2 Evl
/-! ### the law's end -/
section
variable {P : Program} {w : World} {K : PySem.W.Frag} {mg mb : Str → Option Value} {k : Nat} {fa a : Addr} {fd : FuncData} {x : Str} {sp : Sp} {s1 : Shared} {vs : List Value} {ns : List Int}
def LawEnd (s1 : Shared) (r : Result) (s' : Shared) : Prop := r = .ok (.ret (.bool true)) ∧ OldK s1.heap s'.heap ∧ s'.os = s1.os ∧ AllBare s'.gens
/-- at an abstract heap in which the script alone may stand -/
theorem law_at {H : Hp} (inK : K.In s1.heap) (gl : s1.heap.Ns mainGlobals mg) (bl : s1.heap.Ns builtinsNs mb) (bb : ∀ x : Str, x ≠ "__name__" → mb x = bootBuiltins x) (nl : s1.heap.NoLimit) (gn : s1.gens = #[])
    (obj : s1.heap.get? a = some { cls := .type "list", data := .seq vs.toArray }) (room : Room k callerA)
    (F : ∀ base : Heap, K.In base → base.Ns mainGlobals mg → FnG P w K mg base k fa fd [x] sp) (bind : ∀ (s : Shared) (u : Value), BindsTo s fd ⟨[u], []⟩ [(x, u)])
    (want : sp [.ref a] H (fun v _ => v = .bl true) fun _ _ _ => False) (only : ∀ b u, H b = some u → b = a ∧ K.lookup b = none ∧ ∃ o xs, u = .frz o (.lst xs)) (hok : HOk P w H s1.heap) :
    codeAny (model P w) callerA (.call (.ref fa) ⟨[.ref a], []⟩) (LawEnd s1) s1 := by
  have free : ∀ {b : Addr}, (b = a → K.lookup b ≠ none) → H b = none := fun {b} hb => by
    cases e : H b with
    | none => rfl
    | some u => obtain ⟨e1, e2, _⟩ := only b u e; exact absurd e2 (hb e1)
  have inB : K.In (hidT s1.heap H) := fun b o e => hidT_get (inK b o e) (free fun _ z => by rw [z] at e; cases e)
  have nsB : ∀ {b : Addr} {m : Str → Option Value}, s1.heap.Ns b m → (hidT s1.heap H).Ns b m := by
    rintro b m ⟨o, es, ep, e, d, rest⟩
    refine ⟨o, es, ep, hidT_get e (free fun z _ => ?_), d, rest⟩
    rw [z, obj] at e
    obtain rfl := Option.some.inj e
    cases (show Data.seq vs.toArray 0 = Data.dict es ep from d)
  obtain ⟨mc, c1, c2⟩ := nl
  have env : Env0 P w K mg (hidT s1.heap H) callerA [] s1 H :=
    { frames := rfl, mod := { kin := inB, glob := nsB gl, blt := ⟨mb, nsB bl, bb⟩, nolimit := ⟨mc, nsB c1, c2⟩ }, bs := fun b o e => of_hidT e, bsz := Nat.le_of_eq (hidT_size _ _), funs := trivial, frf := fun b hb => (by cases hb), hok := hok, bare := .of_eq gn }
  refine codeAny_mono ((F _ inB (nsB gl)).run callerA [] s1 H _ [.ref a] [.ref a] _ _ room rfl env (bind s1 (.ref a)) (.cons rfl .nil) want) ?_
  rintro r s' h
  match r, h with
  | .error e, h =>
    obtain ⟨_, _, _, _, _, _, _, _, _, _, _, _, z⟩ := h
    exact z.elim
  | .ok (.ret u), h =>
    obtain ⟨v, H', os, bare, un, hok', rv, rfl⟩ := h
    cases rv
    refine ⟨rfl, OldK.of_keep fun b o e => ?_, os, bare⟩
    cases q : H b with
    | none => exact un.keep b o e q (fun z => by cases z) (fun z => by cases z)
    | some u =>
      obtain ⟨_, _, ob, xs, rfl⟩ := only b u q
      have before := (hok b _ q).1
      have after := (hok' b _ (un.frzs b ob _ q)).1
      rw [e] at before
      obtain rfl := Option.some.inj before
      exact after
theorem law_callG (inK : K.In s1.heap) (gl : s1.heap.Ns mainGlobals mg) (bl : s1.heap.Ns builtinsNs mb) (bb : ∀ x : Str, x ≠ "__name__" → mb x = bootBuiltins x) (nl : s1.heap.NoLimit) (gn : s1.gens = #[])
    (obj : s1.heap.get? a = some { cls := .type "list", data := .seq vs.toArray }) (hns : IntsAre vs ns) (len : ns.length ≤ sizeLine) (room : Room k callerA)
    (F : ∀ base : Heap, K.In base → base.Ns mainGlobals mg → FnG P w K mg base k fa fd [x] sp) (bind : ∀ (s : Shared) (u : Value), BindsTo s fd ⟨[u], []⟩ [(x, u)])
    (want : ∀ H : Hp, SqL K H a (ns.map V.int) → sp [.ref a] H (fun v _ => v = .bl true) fun _ _ _ => False) : codeAny (model P w) callerA (.call (.ref fa) ⟨[.ref a], []⟩) (LawEnd s1) s1 := by
  have rv : Vals (ns.map V.int) vs := vals_ints hns
  have lv := hns.length
  cases hk : K.lookup a with
  | some o =>
    have e := inK a o hk
    rw [obj] at e
    obtain rfl := Option.some.inj e
    exact law_at (H := fun _ => none) inK gl bl bb nl gn obj room F bind (want _ (.inr ⟨_, vs.toArray, _, hk, rfl, rfl, rfl, by rw [List.size_toArray, lv]; exact len, by simpa using rv⟩)) (fun b u z => nomatch z) fun b u z => nomatch z
  | none =>
    let H : Hp := fun b => if b = a then some (.frz { cls := .type "list", data := .seq vs.toArray } (.lst (ns.map V.int))) else none
    have at_ : ∀ b u, H b = some u → b = a ∧ u = .frz { cls := .type "list", data := .seq vs.toArray } (.lst (ns.map V.int)) := fun b u z => by
      by_cases h : b = a
      · exact ⟨h, (Option.some.inj ((if_pos h).symm.trans z)).symm⟩
      · exact nomatch (if_neg h).symm.trans z
    refine law_at (H := H) inK gl bl bb nl gn obj room F bind (want _ (.inl (.inr ⟨{ cls := .type "list", data := .seq vs.toArray }, if_pos rfl⟩))) (fun b u z => ?_) fun b u z => ?_
    · obtain ⟨rfl, rfl⟩ := at_ b u z
      exact ⟨rfl, hk, _, _, rfl⟩
    · obtain ⟨rfl, rfl⟩ := at_ b u z
      exact ⟨obj, by rw [List.length_map]; exact len, vs, _, rv, obj⟩
end
/-- the goal behind k_head, from what the law's def comes to -/
theorem walk_ofG {l : PySem.W.OpenLaw} {n k : Nat} {q : Program} {loose : List Str} {XP : (Str → Option Value) → Heap → Prop} {YP : World → Heap → Prop} {d : DefRec} {K : Params → PySem.W.Frag} {x : Str}
    (hn : l.most = some n) (hn2 : n ≤ sizeLine) (hdf : d.params.defaults = []) (room : Room k callerA) (hY : ∀ (w : World) (h : Heap), YP w h → (K w.params).In h)
    (G : ∀ (w : World) (mg : Str → Option Value) (fa : Addr) (h : Heap), (K w.params).In h → h.Ns mainGlobals mg → mg d.name = some (.ref fa) →
      ∃ (fd : FuncData) (F : List D → FO), (∀ (s : Shared) (u : Value), BindsTo s fd ⟨[u], []⟩ [(x, u)]) ∧ (∀ ns : List Int, ns.length ≤ n → F [.scr ns] = .val (.bl true)) ∧ ∀ base : Heap, FnG l.prog w (K w.params) mg base k fa fd [x] (spP (K w.params) 1 F)) :
    PySem.W.WalkO q loose XP YP l.row.toRowW d [] (fun f vs => PySem.call f vs) := by
  refine Att.attach_call hn hdf ?_
  intro w s0 s1 mg mb fa o pm cd doc a vs ns Gr Y ho hd hcd hmg obj hns len gn
  have inK := hY w _ Y
  obtain ⟨fd, F, hb, holds, hF⟩ := G w mg fa _ inK Gr.T.g hmg
  refine law_callG inK Gr.T.g Gr.T.b Gr.T.builtins Gr.T.nolimit gn obj hns (Nat.le_trans len hn2) room (fun base _ _ => hF base) hb fun H hS => ?_
  refine ⟨H, [.scr ns], Ex.refl _, .cons (.scr hS) .nil, rfl, ?_⟩
  rw [holds ns len]
  intro v Hs' H' st rv
  cases rv; rfl
end Mp
set_option Elab.async false
set_option linter.all false
set_option maxRecDepth 100000
namespace Mp
open PySem PySem.Spec PyProof.Rows L2 Evl
/-! ### {(a, ..): v for target in iter if ..} -/
theorem put_tupkey {X : Cx} {pins : List (Addr × Obj)} {σ : L2.St} {H : Hp} {s : Shared} {E : Value → Shared → Prop} {d b : Addr} {kvs : List (List Key × V)} {k : List Key} {v : V} {u : Value} {Q : Unit → Shared → Prop} (hu : X.A.units + 1 < cLine) (I : Inv X pins σ H s)
    (at_ : H d = some (.dT kvs)) (key : H b = some (.tup (k.map kV))) (few : kvs.length < sizeLine) (rv : L2.RelV v u) (next : ∀ s', Inv X pins σ (upd H d (.dT (putK kvs k v))) s' → Q () s') : wpAny (model X.prog X.w) X.A (dictSet d (.ref b) u) Q E s := by
  obtain ⟨sz, nsys, xs, tab, isD⟩ := dt_of I.hok at_
  have szx : xs.length ≤ sizeLine := by rw [← Paired.length tab]; exact sz
  have szn : (putK kvs k v).length ≤ sizeLine := Nat.le_trans (length_putK kvs k v) few
  refine wpAny_dictSet_heap (hsz := szx) (show X.A.units < cLine by omega) (key_of I.hok key) isD fun h' isD' same => next _ ?_
  obtain ⟨q, es, ep, hq, h2, h3, h4, _, h5⟩ := isD'
  refine d_write I (by rw [at_]; exact True.intro) same ⟨q, hq⟩ ⟨szn, nsys, _, (tab.put k key rv).keeps fun c ys ec => ?_, q, es, ep, hq, h2, h3, h4, h5⟩
  have apart : c ≠ d := ne_of ec at_ fun z => nomatch z
  rw [upd_ne apart]; exact ec
section
variable {X : Cx} {W : WX}
/-- what is to be shown: d the new dict, b the key's tuple -/
def tDcT (wi : TI) (g : TG) (tt : TT) (tk tv : TE) (vs : List Nat) : TE := fun σ H Q => wi σ H fun J H1 => ∀ d, H1 d = none → ∃ T : Nat → Nat → Hp → Prop, (∃ m, T 0 m (upd H1 d (.dT []))) ∧ ∀ i m H, T i m H →
  (J.stop i H ∧ Q (.ref d) H) ∨ (J.go i H ∧ ∃ Nx : Hp → Prop, (∀ H', Nx H' → ∃ m', m' < m ∧ T (i + 1) m' H') ∧ ∀ x H', J.yld i H x H' → g x (L2.wipe σ vs) H' fun σ2 H2 => L2.wipe σ2 vs = L2.wipe σ vs ∧ tt σ2 H2 fun b H3 =>
    if b = true then tk σ2 H3 fun y H4 => tv σ2 H4 fun z H5 => ∃ c kvs k, y = .ref c ∧ H5 c = some (.tup (k.map kV)) ∧ H5 d = some (.dT kvs) ∧ kvs.length < sizeLine ∧ Nx (upd H5 d (.dT (putK kvs k z))) else Nx H3)
theorem pe_dcT {kx vx tg iter : Expr} {ifs : List Expr} {scope : Scope} {own : List (Str × Nat)} {pos : Pos} {wi : TI} {g : TG} {tt : TT} {tk tv : TE} (hu : X.A.units + 1 < cLine) (calm : X.calm = true) (nd : X.N.Nodup) (hi : PI X tg iter wi) (ok : BlkOk X.N X.env.scope scope own)
    (hg : ∀ (s : Shared) (H : Hp) (C : Addr) (cl : List (Str × Addr)) (fp : List Addr), PG (X.blk s H scope (compEnvC scope cl C X.env) fp) tg g)
    (ht : ∀ (s : Shared) (H : Hp) (C : Addr) (cl : List (Str × Addr)) (fp : List Addr), PTs (X.blk s H scope (compEnvC scope cl C X.env) fp) ifs tt)
    (hk : ∀ (s : Shared) (H : Hp) (C : Addr) (cl : List (Str × Addr)) (fp : List Addr), PE (X.blk s H scope (compEnvC scope cl C X.env) fp) kx tk)
    (hv : ∀ (s : Shared) (H : Hp) (C : Addr) (cl : List (Str × Addr)) (fp : List Addr), PE (X.blk s H scope (compEnvC scope cl C X.env) fp) vx tv) (hs : ∀ x, foldedSetIterable iter X.env x = pure x) :
    PE X (.DictComp kx vx [⟨tg, iter, ifs, 0⟩] scope pos) (tDcT wi g tt tk tv (own.map (·.2))) := by
  constructor
  intro pins s σ H Q I h
  rw [arm_eval_DictComp]
  have caught : ∀ y ∈ scope.names, y.2 = .free → ∃ c, X.env.cells.lookup y.1 = some c := fun y hy e => I.ok.has _ (ok.free y hy e)
  refine wpAny_comprehension_free (use := none) rfl hs (closure_ok caught) ok.kind (fun y hy e => (ok.uniq y hy).trans (congrArg some e)) (thn (hi.run pins s σ H _ I h) fun xv s1 hx => thn hx fun itv s2 h2 => ?_)
  obtain ⟨it, fp, tn, J, H2, e, I2, T, st2, f2, q⟩ := h2
  subst e
  refine wpAny_newObj_type (newEnv_comp ?_)
  generalize hd : s2.heap.objs.size = d
  have new : H2 d = none := I2.hok.fresh (Nat.le_of_eq hd)
  obtain ⟨Wi, ⟨m0, w0⟩, turn⟩ := q d new
  generalize hs3 : ({ s2 with heap := s2.heap.push { cls := .type "dict", data := .dict #[] } } : Shared) = s3
  have I3 : Inv X pins σ (upd H2 d (.dT [])) s3 := by
    subst hs3
    refine I2.laid (t' := s2.toks) (fun b o e => Heap.get?_push_of_some _ e) (Nat.le_of_eq hd) ?_
    subst hd
    exact dt_empty s2.heap I2.big
  have h3 : s3.heap = s2.heap.push { cls := .type "dict", data := .dict #[] } := by subst hs3; rfl
  have below : ∀ b ∈ fp, b < s2.heap.objs.size := fun b hb => by
    obtain ⟨o, e, _⟩ := T.obj _ _ st2 b hb
    exact Heap.lt_size e
  have f3 : ∀ b ∈ fp, FpOk X pins (upd H2 d (.dT [])) b ∧ b < s3.heap.objs.size := fun b hb => by
    have lt := below b hb
    refine ⟨⟨?_, (f2 b hb).2⟩, by rw [h3, Heap.size_push]; exact Nat.lt_succ_of_lt lt⟩
    rw [upd_ne (show b ≠ d by subst hd; exact Nat.ne_of_lt lt)]
    exact (f2 b hb).1
  have st3 : tn 0 s3.heap := T.keep _ _ _ st2 fun b _ o e => by rw [h3]; exact Heap.get?_push_of_some _ e
  have I4 := block_start I3 ok nd f3
  have pg := hg s3 (upd H2 d (.dT [])) s3.heap.objs.size (cellsFrom (s3.heap.objs.size + 1) scope.names (cloFrom X.env.cells scope.names [])) fp
  have pt := ht s3 (upd H2 d (.dT [])) s3.heap.objs.size (cellsFrom (s3.heap.objs.size + 1) scope.names (cloFrom X.env.cells scope.names [])) fp
  have pk := hk s3 (upd H2 d (.dT [])) s3.heap.objs.size (cellsFrom (s3.heap.objs.size + 1) scope.names (cloFrom X.env.cells scope.names [])) fp
  have pv := hv s3 (upd H2 d (.dT [])) s3.heap.objs.size (cellsFrom (s3.heap.objs.size + 1) scope.names (cloFrom X.env.cells scope.names [])) fp
  have apart : ∀ b ∈ fp, (upd H2 d (.dT [])) b = none := fun b hb => (f3 b hb).1.1
  show codeAny _ _ (.compStart (.DictComp kx vx [⟨tg, iter, ifs, 0⟩] scope pos) 0 (.ref it) (.ref d) (compEnvC scope (cellsFrom (s3.heap.objs.size + 1) scope.names (cloFrom X.env.cells scope.names [])) s3.heap.objs.size X.env)) (compPost (model X.prog X.w) X.A X.xe none _ (.ref d) s3.heap.objs.size) { s3 with heap := pushCells (s3.heap.push { cls := .type "dict", data := .dict #[] }) scope.names }
  generalize hce : compEnvC scope (cellsFrom (s3.heap.objs.size + 1) scope.names (cloFrom X.env.cells scope.names [])) s3.heap.objs.size X.env = ce at I4 pg pt pk pv ⊢
  have loc : ce.locals = s3.heap.objs.size := by subst hce; rfl
  generalize hH3 : upd H2 d (.dT []) = H3 at I3 I4 pg pt pk pv w0 apart f3
  generalize hs4 : ({ s3 with heap := pushCells (s3.heap.push { cls := .type "dict", data := .dict #[] }) scope.names } : Shared) = s4 at I4 ⊢
  have st4 : tn 0 s4.heap := T.keep _ _ _ st3 fun b _ o e => by subst hs4; exact pushCells_keeps _ _ _ _ (Heap.get?_push_of_some _ e)
  have foot : ∀ {σ' : L2.St} {H' : Hp} {s' : Shared}, Inv (X.blk s3 H3 scope ce fp) [] σ' H' s' → (∀ b ∈ fp, H' b = none) → ∀ b ∈ fp, FpOk (X.blk s3 H3 scope ce fp) [] H' b := fun {σ' H' s'} I' hn b hb => by
    have ex := I'.ok.exf b hb
    exact ⟨hn b hb, ex.1, I'.ok.exfs b hb, .inl hb, ex.2, fun p hp => absurd (show p ∈ ([] : List (Addr × Obj)) ++ [] from hp) (by simp)⟩
  have loop : codeAny (model X.prog X.w) X.A (.compLoop (.DictComp kx vx [⟨tg, iter, ifs, 0⟩] scope pos) 0 (.ref it) (.ref d) ce) (compPost (model X.prog X.w) X.A X.xe none (EP X pins σ Q) (.ref d) s3.heap.objs.size) s4 := by
    refine compLoop_anyD (fun n s' => ∃ i H', Inv (X.blk s3 H3 scope ce fp) [] (L2.wipe σ (own.map (·.2))) H' s' ∧ tn i s'.heap ∧ (∀ b ∈ fp, H' b = none) ∧ Wi i n H') ?_ m0 ⟨0, H3, I4, st4, apart, w0⟩
    rintro n s5 ⟨i, H5, I5, st5, n5, w5⟩
    rcases turn i n H5 w5 with ⟨stop, qq⟩ | ⟨go, Nx, nxt, step⟩
    · refine thnF (T.done (X.blk s3 H3 scope ce fp) rfl rfl rfl calm i [] s5 _ H5 (fun _ _ => False) I5 (foot I5 n5) st5 stop) fun r s6 ⟨hr, I6⟩ => ?_
      subst hr
      have I7 : Inv X pins σ H5 s6 := I3.call' (ch := fp) I6.os I6.base I6.hok I6.bare fun b hb => by
        obtain ⟨⟨_, a1, a2, a3, a4⟩, _⟩ := f3 b hb
        exact ⟨a3, a1, a4⟩
      have un : H5 s3.heap.objs.size = none := by
        have z : H5 ce.locals = none := I6.free
        rwa [loc] at z
      obtain ⟨m, hn, _⟩ := I6.loc
      have hn : s6.heap.Ns ce.locals m := hn
      rw [loc] at hn
      obtain ⟨g0, g1, g2, g3, g4, g5⟩ := I3.fpOk (Nat.le_refl _) un
      exact ⟨m, hn, fun h'' sb => ⟨.ref d, H5, I7.turned (t' := s6.toks) (fun b o hb e => (sb.2 b hb).trans e) g0 g1 g3 g4 g5, rfl, qq⟩⟩
    · refine thnF (T.item (X.blk s3 H3 scope ce fp) rfl rfl rfl calm i [] s5 _ H5 (fun _ _ => False) I5 (foot I5 n5) st5 go) fun r s6 ⟨u, hr, h6⟩ => ?_
      subst hr
      refine thnF h6 fun _ s7 ⟨x, H7, I7, r7, y7, st7, n7⟩ => ?_
      have P7 := I7.pinned (foot I7 n7) (T.obj _ _ st7)
      refine thnF (pg.run _ s7 _ H7 x u _ P7 r7 (step x H7 y7)) fun _ s8 ⟨σ8, H8, I8, same8, q8⟩ => ?_
      refine thnF (pt.run _ s8 σ8 H8 _ I8 q8) fun b s9 ⟨H9, I9, q9⟩ => ?_
      have fin : ∀ {s' : Shared} {H' : Hp}, Inv (X.blk s3 H3 scope ce fp) ([] ++ pinsAt fp s7.heap) σ8 H' s' → Nx H' → ∃ m, m < n ∧ ∃ i H', Inv (X.blk s3 H3 scope ce fp) [] (L2.wipe σ (own.map (·.2))) H' s' ∧ tn i s'.heap ∧ (∀ b ∈ fp, H' b = none) ∧ Wi i m H' := fun {s' H'} I' nx => by
        obtain ⟨m', lt, w'⟩ := nxt H' nx
        have pinned : ∀ b ∈ fp, ∀ o, s7.heap.get? b = some o → s'.heap.get? b = some o ∧ H' b = none := fun b hb o e => by
          have z := I'.pin (b, o) (List.mem_append_right _ (List.mem_append_right _ (mem_pinsAt hb e)))
          exact ⟨z.1, z.2.1⟩
        have len : (L2.wipe σ (own.map (·.2))).length = σ8.length := by rw [← same8, wipe_length]
        refine ⟨m', lt, i + 1, H', (I'.unpinned (pins := [])).weak len (fun j v e => ?_), T.keep _ _ _ st7 fun b hb o e => (pinned b hb o e).1, fun b hb => ?_, w'⟩
        · rw [← same8] at e
          exact (wipe_some e).1
        · obtain ⟨o, e, _⟩ := T.obj _ _ st7 b hb
          exact (pinned b hb o e).2
      cases b with
      | false => exact fin I9 q9
      | true =>
        refine thnF (pk.run _ s9 σ8 H9 _ I9 q9) fun z s10 ⟨yk, H10, I10, r10, q10⟩ => ?_
        refine thnF (pv.run _ s10 σ8 H10 _ I10 q10) fun z2 s11 ⟨yv, H11, I11, r11, c, kvs, k, ek, kc, at11, few, nx⟩ => ?_
        subst ek
        cases r10
        exact put_tupkey (X := X.blk s3 H3 scope ce fp) hu I11 at11 kc few r11 fun s12 I12 => fin I12 nx
  exact codeAny_compStart_dict loop (T.self X.A 0 _ _ _ st4 loop)
end
end Mp
set_option Elab.async false
set_option linter.all false
set_option maxRecDepth 100000
namespace Mp
open PySem PySem.Spec PyProof.Rows L2 Evl
def dcL (g : Tg) (t : Ev Bool) (ek ev : Ev Rv) (vs : List Nat) : List D → List (List Key × D) → Rho → EO (List (List Key × D))
  | [], acc, r => .ok acc r
  | d :: ds, acc, r => match g d r with
    | none => .stuck
    | some r1 => (t r1).bind fun k r2 => if k then (ek r2).bind fun y r3 => (ev r3).bind fun x r4 => (match y.data with
        | .tup ks => (match keysD ks with
          | some key => dcL g t ek ev vs ds (putD acc key x.data) (wipeR r4 vs)
          | none => .stuck)
        | _ => .stuck) else dcL g t ek ev vs ds acc (wipeR r2 vs)
def eDc (it : Ev (List D)) (g : Tg) (t : Ev Bool) (ek ev : Ev Rv) (vs : List Nat) : Ev Rv := fun r => (it r).bind fun ds r1 => if ds.length ≤ sizeLine then (match dcL g t ek ev vs ds [] (wipeR r1 vs) with
  | .ok l r2 => .ok (.new (.dT l)) (restore r1 r2 vs)
  | _ => .stuck) else .stuck
def FinD (K : PySem.W.Frag) (W : WX) (Bs B Hs : Hp) (s : L2.St) (Q : VK) (r1 : Rho) (vs : List Nat) : EO (List (List Key × D)) → Prop
  | .ok l r2 => PostE K W Bs B Hs s (relR K B s) Q (.ok (.new (.dT l)) (restore r1 r2 vs))
  | _ => False
theorem FinD.mono {K : PySem.W.Frag} {W : WX} {Bs B Hs Hs' : Hp} {s : L2.St} {Q : VK} {r1 : Rho} {vs : List Nat} {m : EO (List (List Key × D))} (e : Ex Hs Hs') (h : FinD K W Bs B Hs s Q r1 vs m) : FinD K W Bs B Hs' s Q r1 vs m := by
  cases m with
  | ok l r2 =>
    have h : PostE K W Bs B Hs s (relR K B s) Q (.ok (.new (.dT l)) (Mp.restore r1 r2 vs)) := h
    exact h.mono e
  | stuck => exact h
  | exc x r => exact h
structure DcInv (K : PySem.W.Frag) (W : WX) (Bs B Hs1 : Hp) (s : L2.St) (Q : VK) (r1 : Rho) (vs : List Nat) (Dl : Addr) (i : Nat) (m : List (List Key × D) → Rho → EO (List (List Key × D))) (H : Hp) : Prop where
  ex : ∃ (Hs : Hp) (r : Rho) (acc : List (List Key × D)) (us : List (List Key × V)), Ex Hs1 Hs ∧ EnvOk K Bs B Hs H (L2.wipe s vs) (wipeR r vs) ∧ Hs Dl = none ∧ H Dl = some (.dT us) ∧ us.map (·.1) = acc.map (·.1) ∧ RpAll K Hs (us.map (·.2)) (acc.map (·.2)) ∧ acc.length ≤ i ∧
      (∀ (j : Nat) oj, (wipeR r vs)[j]? = some (.own oj) → (L2.wipe s vs)[j]? ≠ some (some (.ref Dl))) ∧ FinD K W Bs B Hs s Q r1 vs (m acc (wipeR r vs))
section
variable {X : Cx} {W : WX} {tg : Expr} {pos : Pos}
theorem snd_dcT {kx vx iter : Expr} {ifs : List Expr} {scope : Scope} {own : List (Str × Nat)} {it : Ev (List D)} {g : Tg} {is : List Nat} {t : Ev Bool} {ek ev : Ev Rv} (R : Rm X) (hN : X.N.Nodup) (ok : BlkOk X.N X.env.scope scope own) (hi : SndI X W tg iter it)
    (hg : ∀ (s : Shared) (H0 : Hp) (C : Addr) (cl : List (Str × Addr)) (fp : List Addr), SndG (X.blk s H0 scope (compEnvC scope cl C X.env) fp) tg g is)
    (ht : ∀ (s : Shared) (H0 : Hp) (C : Addr) (cl : List (Str × Addr)) (fp : List Addr), SndTs (X.blk s H0 scope (compEnvC scope cl C X.env) fp) WF ifs t)
    (hk : ∀ (s : Shared) (H0 : Hp) (C : Addr) (cl : List (Str × Addr)) (fp : List Addr), SndE (X.blk s H0 scope (compEnvC scope cl C X.env) fp) WF kx ek)
    (he : ∀ (s : Shared) (H0 : Hp) (C : Addr) (cl : List (Str × Addr)) (fp : List Addr), SndE (X.blk s H0 scope (compEnvC scope cl C X.env) fp) WF vx ev) (hiv : ∀ i ∈ is, i ∈ own.map (·.2)) (hs : ∀ x, foldedSetIterable iter X.env x = pure x := by intro _; rfl) :
    SndE X W (.DictComp kx vx [⟨tg, iter, ifs, 0⟩] scope pos) (eDc it g t ek ev (own.map (·.2))) := fun Bs B Hs H s r Q E q =>
  ⟨_, pe_dcT (by have := R.un; omega) R.calm hN pi_all ok pg_c pts_c pe_c pe_c hs, hi _ _ _ _ _ _ _ E (PostE.bind q fun ds r1 J Hs1 H1 _ e1 E1 wk q1 => by
    have wk : Wk X.K Hs1 J ds := wk
    generalize hvs : own.map (·.2) = vs at q1 hiv ⊢
    intro Dl hD
    split at q1
    case isFalse => exact False.elim q1
    rename_i hsz
    have hDs : Hs1 Dl = none := fresh_back E1.sub hD
    have hDB : B Dl = none := E1.bnone hD
    have hDbs : Bs Dl = none := fresh_back E1.ext1 hDs
    refine ⟨fun i m H => m = ds.length - i ∧ i ≤ ds.length ∧ DcInv X.K W Bs B Hs1 s Q r1 vs Dl i (dcL g t ek ev vs (ds.drop i)) H, ⟨ds.length, rfl, Nat.zero_le _, ⟨Hs1, r1, [], [], Ex.refl _, ?_, hDs, upd_same, rfl, .nil, Nat.le_refl _, ?_, ?_⟩⟩, ?_⟩
    · exact (E1.wipe vs).step (Step.newO E1.sub hD)
    · exact fun j oj hj => (E1.wipe vs).apart hD j oj hj
    · rw [List.drop_zero]
      cases hl : dcL g t ek ev vs ds [] (wipeR r1 vs) with
      | stuck => rw [hl] at q1; exact q1
      | exc x r2 => rw [hl] at q1; exact q1
      | ok l r2 => rw [hl] at q1; exact q1
    rintro i m H2 ⟨rfl, hi2, Hs2, r2, acc, us, e2, E2, hD2, hH2, hks, hus, hacc, hap, fin⟩
    by_cases hlt : i < ds.length
    case neg =>
      have hi' : i = ds.length := by omega
      subst hi'
      rw [List.drop_length] at fin
      have fin : PostE X.K W Bs B Hs2 s (relR X.K B s) Q (.ok (.new (.dT acc)) (restore r1 (wipeR r2 vs) vs)) := fin
      have E2' : EnvOk X.K Bs B Hs2 H2 (L2.wipe s vs) (wipeR (wipeR r2 vs) vs) := by
        have := E2.wipe vs
        rw [wipe_idem] at this; exact this
      refine .inl ⟨(wk Hs2 H2 e2 E2.sub).2, ?_⟩
      have E3 : EnvOk X.K Bs B Hs2 H2 s (restore r1 (wipeR r2 vs) vs) := EnvOk.restore E1 e2 E2'
      refine fin.ok E3 ⟨Dl, rfl, hD2, hDB, ⟨us, hH2, hks, hus⟩, fun j oj hj z => ?_⟩
      have hjv : j ∉ vs := fun hv => by
        have := restore_in r1 (wipeR r2 vs) j _ vs hv hj
        unfold keepVal at this
        split at this <;> cases this
      rw [restore_get _ _ j vs hjv] at hj
      exact hap j oj hj (by rw [wipe_get s j vs hjv]; exact z)
    case pos =>
      obtain ⟨d, hd⟩ : ∃ d, ds[i]? = some d := ⟨_, List.getElem?_eq_getElem hlt⟩
      have hdrop : ds.drop i = d :: ds.drop (i + 1) := by
        have e := List.getElem?_eq_getElem hlt
        rw [hd] at e
        rw [List.drop_eq_getElem_cons hlt, Option.some.inj e]
      obtain ⟨g1, g2⟩ := (wk Hs2 H2 e2 E2.sub).1 i d hd
      refine .inr ⟨g1, DcInv X.K W Bs B Hs1 s Q r1 vs Dl (i + 1) (dcL g t ek ev vs (ds.drop (i + 1))), fun H' h => ⟨ds.length - (i + 1), by omega, rfl, by omega, h⟩, fun x H' hy => ?_⟩
      obtain ⟨Hs3, st, rx⟩ := g2 x H' hy
      have E3 := E2.step st
      obtain ⟨hD3a, hH3⟩ := st.fr Dl _ hH2 hD2; have hD3 := hD3a (fun _ z => nomatch z)
      have e3 : Ex Hs1 Hs3 := e2.trans st.sh
      have E3' := E3.more hD3 hH3 hap
      have fin := FinD.mono st.sh fin
      have hus := hus.mono st.sh
      rw [hdrop] at fin
      unfold dcL at fin
      split at fin
      · exact False.elim fin
      rename_i r4 hg0
      intro sh H0 C cl fp
      refine hg sh H0 C cl fp _ _ _ _ _ _ _ _ _ _ E3' rx hg0 fun s4 H4 al E4 => ⟨?_, ?_⟩
      · rw [al vs hiv, wipe_idem]
      have al4 : L2.wipe s4 vs = L2.wipe s vs := by rw [al vs hiv, wipe_idem]
      intro sh H0 C cl fp
      refine ht sh H0 C cl fp _ _ _ _ _ _ _ E4 ?_
      have back : ∀ (Hs5 H5 : Hp) (r5 : Rho), EnvOk X.K Bs (upd B Dl (.dT us)) Hs5 H5 s4 r5 → Hs5 Dl = none ∧ H5 Dl = some (.dT us) := fun Hs5 H5 r5 E5 => ⟨(E5.ext2 Dl _ upd_same hDbs).1 (fun _ z => nomatch z), (E5.ext2 Dl _ upd_same hDbs).2⟩
      have apart : ∀ (Hs5 H5 : Hp) (r5 : Rho), EnvOk X.K Bs (upd B Dl (.dT us)) Hs5 H5 s4 r5 → ∀ (j : Nat) oj, (wipeR r5 vs)[j]? = some (.own oj) → (L2.wipe s vs)[j]? ≠ some (some (.ref Dl)) := fun Hs5 H5 r5 E5 j oj hj z => by
        have E6 := E5.wipe vs
        rw [al4] at E6
        obtain ⟨a, k1, _, k3, _⟩ := E6.own j oj hj
        rw [k1] at z; cases z
        rw [upd_same] at k3; cases k3
      cases hm : t r4 with
      | stuck => rw [hm] at fin; exact fin
      | exc y r5 => rw [hm] at fin; exact False.elim fin
      | ok k r5 =>
        rw [hm] at fin
        intro k' Hs5 H5 e5 E5 hkk
        have hkk : k' = k := hkk
        subst hkk
        obtain ⟨hD5, hH5⟩ := back Hs5 H5 r5 E5
        cases k' with
        | false =>
          rw [if_neg (fun z => by cases z)]
          have fin : FinD X.K W Bs B Hs3 s Q r1 vs (dcL g t ek ev vs (ds.drop (i + 1)) acc (wipeR r5 vs)) := fin
          have E6 := (E5.less hDB hDbs).wipe vs
          rw [al4] at E6
          exact ⟨Hs5, r5, acc, us, e3.trans e5, E6, hD5, hH5, hks, hus.mono e5, by omega, apart Hs5 H5 r5 E5, fin.mono e5⟩
        | true =>
          rw [if_pos rfl]
          have fin : FinD X.K W Bs B Hs3 s Q r1 vs ((ek r5).bind fun y r6 => (ev r6).bind fun x r7 => (match y.data with
            | .tup ks => (match keysD ks with
              | some key => dcL g t ek ev vs (ds.drop (i + 1)) (putD acc key x.data) (wipeR r7 vs)
              | none => .stuck)
            | _ => .stuck)) := fin
          intro sh H0 C cl fp
          refine hk sh H0 C cl fp _ _ _ _ _ _ _ E5 ?_
          cases hky : ek r5 with
          | stuck => rw [hky] at fin; exact fin
          | exc y r6 => rw [hky] at fin; exact False.elim fin
          | ok y r6 =>
            rw [hky] at fin
            have fin : FinD X.K W Bs B Hs3 s Q r1 vs ((ev r6).bind fun x r7 => (match y.data with
              | .tup ks => (match keysD ks with
                | some key => dcL g t ek ev vs (ds.drop (i + 1)) (putD acc key x.data) (wipeR r7 vs)
                | none => .stuck)
              | _ => .stuck)) := fin
            intro kw Hs6 H6 e6 E6 ry
            obtain ⟨Hs6', e6', E6', ry6⟩ := RvAt.use E6 ry
            intro sh H0 C cl fp
            refine he sh H0 C cl fp _ _ _ _ _ _ _ E6' ?_
            cases hv : ev r6 with
            | stuck => rw [hv] at fin; exact fin
            | exc y r7 => rw [hv] at fin; exact False.elim fin
            | ok z r7 =>
              rw [hv] at fin
              have fin : FinD X.K W Bs B Hs3 s Q r1 vs (match y.data with
                | .tup ks => (match keysD ks with
                  | some key => dcL g t ek ev vs (ds.drop (i + 1)) (putD acc key z.data) (wipeR r7 vs)
                  | none => .stuck)
                | _ => .stuck) := fin
              intro w Hs7 H7 e7 E7 rz
              obtain ⟨Hs8, e8, E8, rz8⟩ := RvAt.use E7 rz
              obtain ⟨hD8, hH8⟩ := back Hs8 H7 r7 E8
              have rk := ry6.mono (e7.trans e8)
              clear ry ry6
              generalize y.data = yd at fin rk
              split at fin
              case h_2 => exact False.elim fin
              rename_i ks
              split at fin
              case h_2 => exact False.elim fin
              rename_i key hkey
              cases rk with
              | tup k1 k2 =>
                rename_i c cs
                have := keysD_rp k2 hkey
                subst this
                have e38 : Ex Hs3 Hs8 := e5.trans (e6.trans (e6'.trans (e7.trans e8)))
                obtain ⟨p1, p2, p3⟩ := putD_rp (k := key) hks (hus.mono e38) rz8
                have hlen : us.length = acc.length := by have := congrArg List.length hks; simpa using this
                refine ⟨c, us, key, rfl, E8.sub _ _ k1, hH8, by omega, ?_⟩
                have E9 := (E8.less hDB hDbs).wipe vs
                rw [al4] at E9
                have ap9 := apart Hs8 H7 r7 E8
                exact ⟨Hs8, r7, putD acc key z.data, putK us key w, e3.trans e38, E9.poke (o := .dT (putK us key w)) hD8 hDB ap9, hD8, upd_same, p1, p2, by omega, ap9, fin.mono e38⟩)⟩
end
end Mp
set_option Elab.async false
set_option linter.all false
set_option maxRecDepth 100000
namespace Mp
open PySem PySem.Spec PyProof.Rows L2 Evl
/-! ### C.m(..), m a staticmethod of the own class at C -/
structure StaC (K : PySem.W.Frag) (C : Addr) (m : Str) (p g : Addr) : Prop where
  ga : PySem.W.specialIn K (.ref C) "__getattribute__" = some (some (.builtin "type.__getattribute__"))
  rd : PySem.W.readsIn K C (.type "type") = true
  at_ : PySem.W.findCls K (.ref C) (.type "type") m = some (.get (.builtin "staticmethod.__get__") (.ref p) .none (.ref C))
  rc : ∃ rest, PySem.W.recIn K p "staticmethod" = some (.ref g :: rest)
  kp : PySem.W.keepIn K (.ref g) = true
section
variable {X : Cx} {W : WX} {z : Bool} {n : Nat} {g C pr : Addr} {ks : List Str} {is : List Nat} {m : Str} {pos apos : Pos} {e o : Expr} {es : List Expr} {kws : List Keyword} {rr : List V → List V → L2.St → Hp → VK → Prop} {t tk : TA} {pl : Sem Bool} {st : Stmt} {sts : List Stmt}
theorem sta_meth {pins : List (Addr × Obj)} {σ : L2.St} {H : Hp} {s : Shared} {Q : Value × List Value → Shared → Prop} (c : StaC X.K C m pr g) (I : Inv X pins σ H s) (next : ∀ s', Inv X pins σ H s' → Q (.ref g, []) s') :
    wpAny (model X.prog X.w) X.A (getMethod (.ref C) m pl) Q X.xe s := by
  obtain ⟨rest, rc⟩ := c.rc
  refine PySem.W.method_cls I.kIn c.ga (PySem.W.cls_bind I.kIn c.rd c.at_ (wpAny_call (PySem.W.sm_get (s := { s with toks := s.toks + 1 }) I.kIn rc (PySem.W.handed_on rfl ?_))))
  exact next _ (I.tok _)
def tSta (C : Addr) (rr : List V → List V → L2.St → Hp → VK → Prop) (n k : Nat) (t tk : TA) : TE := fun σ H Q => t σ H fun vs H1 => tk σ H1 fun zs H2 => vs.length = n ∧ zs.length = k ∧ rr vs zs σ H2 Q
theorem pe_sta (c : CallAt X (.ref g) n [] rr) (ho : PE X o (tC (.ref C))) (hc : StaC X.K C m pr g) (ha : PA X (e :: es) t) (hst : starEach (e :: es) X.env = (false, eval e X.env) :: starEach es X.env) (hpl : (backTo pos (starEach es X.env)).any (·.1) = false)
    (ht : eval (.Call (.Attribute o m apos) (e :: es) [] pos) X.env = (eval o X.env >>= fun ov => standAt apos.atName >>= fun _ => holding [ov] (getMethod ov m pl) >>= fun r => callWith pos r.1 r.2 (backTo pos (starEach (e :: es) X.env)) (backToKw pos (keywordEach [] X.env)))) :
    PE X (.Call (.Attribute o m apos) (e :: es) [] pos) (tSta C rr n 0 t tNil) := by
  constructor
  intro pins s σ H Q I h
  refine PySem.W.methodCall_KW (pl := pl) (thn (ho.run pins s σ H _ I (show tC (.ref C) σ H fun x H1 => x = .ref C ∧ tSta C rr n 0 t tNil σ H1 Q from ⟨rfl, h⟩)) ?_) ht
  rintro u s1 ⟨x, H1, I1, rx, rfl, q⟩
  cases rx
  refine sta_meth hc I1 fun s2 I2 => PySem.W.callWith_K (first := []) (h₀ := X.base) I.ok.mod.kin hc.kp ?_ hst hpl
  refine thn (ha.run pos pins s2 σ H1 _ I2 q) ?_
  rintro us s3 ⟨vs, H3, I3, r, l1, l2, q3⟩
  exact ⟨I3.kIn, c pins s3 σ H3 vs [] us [] Q I3 r .nil l1 l2 q3⟩
theorem pe_staK0 (c : CallAt X (.ref g) 0 ks rr) (ho : PE X o (tC (.ref C))) (hc : StaC X.K C m pr g) (hkw : PK X kws tk) (hall : (backToKw pos (keywordEach kws X.env)).all (·.1.isSome) = true) (hks : (backToKw pos (keywordEach kws X.env)).filterMap (·.1) = ks)
    (hpl : ((backTo pos (starEach [] X.env)).any (·.1) || (backToKw pos (keywordEach kws X.env)).any (·.1.isNone)) = false)
    (ht : eval (.Call (.Attribute o m apos) [] kws pos) X.env = (eval o X.env >>= fun ov => standAt apos.atName >>= fun _ => holding [ov] (getMethod ov m pl) >>= fun r => callWith pos r.1 r.2 (backTo pos (starEach [] X.env)) (backToKw pos (keywordEach kws X.env)))) :
    PE X (.Call (.Attribute o m apos) [] kws pos) (tSta C rr 0 ks.length tNil tk) := by
  constructor
  intro pins s σ H Q I h
  refine PySem.W.methodCall_KW (pl := pl) (thn (ho.run pins s σ H _ I (show tC (.ref C) σ H fun x H1 => x = .ref C ∧ tSta C rr 0 ks.length tNil tk σ H1 Q from ⟨rfl, h⟩)) ?_) ht
  rintro u s1 ⟨x, H1, I1, rx, rfl, q⟩
  cases rx
  refine sta_meth hc I1 fun s2 I2 => PySem.W.callWith_KW0 (first := []) (h₀ := X.base) I.ok.mod.kin hc.kp hall ?_ hpl
  refine thn (hkw.run pos pins s2 σ H1 _ I2 q) ?_
  rintro ws s3 ⟨zs, H3, I3, rz, l1, l2, q3⟩
  rw [hks]
  exact ⟨I3.kIn, c pins s3 σ H3 [] zs [] ws Q I3 .nil rz l1 l2 q3⟩
theorem snd_sta {F : List D → FO} {va : Ev (List D)} (c : FunAt X W (.ref g) n [] is F) (ho : PE X o (tC (.ref C))) (hc : StaC X.K C m pr g) (ha : SndV X W (e :: es) va) (hl : ∀ r ds r', va r = .ok ds r' → ds.length = n)
    (hst : starEach (e :: es) X.env = (false, eval e X.env) :: starEach es X.env := by rfl) (hpl : (backTo pos (starEach es X.env)).any (·.1) = false := by rfl)
    (ht : eval (.Call (.Attribute o m apos) (e :: es) [] pos) X.env = (eval o X.env >>= fun ov => standAt apos.atName >>= fun _ => holding [ov] (getMethod ov m pl) >>= fun r => callWith pos r.1 r.2 (backTo pos (starEach (e :: es) X.env)) (backToKw pos (keywordEach [] X.env))) := by rfl) :
    SndE X W (.Call (.Attribute o m apos) (e :: es) [] pos) (eCall F is va vNil) := fun Bs B Hs H s r Q E q =>
  ⟨_, pe_sta c ho hc pa_all hst hpl ht, ha _ _ _ _ _ _ _ E (PostE.bind q fun ds r1 vs Hs1 H1 hv x1 E1 ra q1 => by
    have ra : RpAll X.K Hs1 vs ds := ra
    exact ⟨ra.length.trans (hl _ _ _ hv), rfl, pure_end (Hs1 := Hs1) (H1 := H1) E1 ra .nil q1⟩)⟩
theorem snd_staK0 {F : List D → FO} {vk : Ev (List D)} (c : FunAt X W (.ref g) 0 ks is F) (ho : PE X o (tC (.ref C))) (hc : StaC X.K C m pr g) (hkw : SndK X W kws vk) (hl2 : ∀ r ds r', vk r = .ok ds r' → ds.length = ks.length)
    (hall : (backToKw pos (keywordEach kws X.env)).all (·.1.isSome) = true := by rfl) (hks : (backToKw pos (keywordEach kws X.env)).filterMap (·.1) = ks := by rfl) (hpl : ((backTo pos (starEach [] X.env)).any (·.1) || (backToKw pos (keywordEach kws X.env)).any (·.1.isNone)) = false := by rfl)
    (ht : eval (.Call (.Attribute o m apos) [] kws pos) X.env = (eval o X.env >>= fun ov => standAt apos.atName >>= fun _ => holding [ov] (getMethod ov m pl) >>= fun r => callWith pos r.1 r.2 (backTo pos (starEach [] X.env)) (backToKw pos (keywordEach kws X.env))) := by rfl) :
    SndE X W (.Call (.Attribute o m apos) [] kws pos) (eCall F is vNil vk) := fun Bs B Hs H s r Q E q =>
  ⟨_, pe_staK0 c ho hc pk_all hall hks hpl ht, hkw _ _ _ _ _ _ _ E (PostE.bind (show PostE X.K W Bs B Hs s (relR X.K B s) Q ((vk r).bind fun es r2 => ofFO (F (sel is ([] ++ es))) r2) from q) fun es' r2 zs Hs2 H2 hw x2 E2 rb q2 => by
    have rb : RpAll X.K Hs2 zs es' := rb
    exact ⟨rfl, rb.length.trans (hl2 _ _ _ hw), pure_end (Hs1 := Hs2) (H1 := H2) E2 .nil rb q2⟩)⟩
/-! ### what is never reached -/
def sStk : Sv := fun _ => .stuck
theorem sns_stk : SndS X W z st sStk := fun _ _ _ _ _ _ _ _ q => False.elim q
theorem snss_stk : SndSs X W z sts sStk := fun _ _ _ _ _ _ _ _ q => False.elim q
end
end Mp
set_option Elab.async false
set_option linter.all false
set_option maxRecDepth 100000
namespace Mp
open PySem PySem.Spec PyProof.Rows L2 Evl
theorem FnG.mono {P : Program} {w : World} {K : PySem.W.Frag} {mg : Str → Option Value} {base : Heap} {j k : Nat} {f : Addr} {fd : FuncData} {ps : List Str} {sp : Sp} (G : FnG P w K mg base j f fd ps sp) (h : j ≤ k) : FnG P w K mg base k f fd ps sp :=
  ⟨G.len, fun A outer s H args us vs Q E room => G.run A outer s H args us vs Q E (room.mono h)⟩
theorem EnvOk.stepA {K : PySem.W.Frag} {Bs B Hs H Hs' H' : Hp} {s : L2.St} {r : Rho} {a : Addr} (E : EnvOk K Bs B Hs H s r) (hB : B a = none) (ap : ∀ (i : Nat) oi, r[i]? = some (.own oi) → s[i]? ≠ some (some (.ref a))) (st : StepM a Hs H Hs' H') : EnvOk K Bs B Hs' H' s r := by
  refine ⟨st.sub, E.ext1.trans st.sh, fun b o h n => ?_, E.ext3, E.len, fun i d h => ?_, fun i o h => ?_, E.dis⟩
  · obtain ⟨n1, h1⟩ := E.ext2 b o h n
    exact st.fw E.sub (ne_of_none h hB) h1 n1
  · obtain ⟨v, h1, h2⟩ := E.val i d h
    exact ⟨v, h1, h2.mono st.sh⟩
  · obtain ⟨x, h1, h2, h3, h4⟩ := E.own i o h
    obtain ⟨u, hu⟩ := h4.here
    have ne : x ≠ a := by rintro rfl; exact ap i o h h1
    obtain ⟨n1, k1⟩ := st.fr x u ne hu h2
    exact ⟨x, h1, n1 (h4.nt hu), h3, h4.mono st.sh (by rw [k1, hu])⟩
section
variable {X : Cx} {W : WX} {z : Bool} {n : Nat} {g C : Addr} {x : Str} {p pos : Pos} {e : Expr}
/-- f(..) upon a new object that nobody holds -/
def eMut1 (F : Own → List D → FO × Own) (eo : Ev Rv) : Ev Rv := fun r => (eo r).bind fun x r1 => match x with
  | .new o => ofFO (F o []).1 r1
  | _ => .stuck
theorem snd_mut1 {F : Own → List D → FO × Own} {eo : Ev Rv} (c : MutAt X W (.ref g) 1 F) (h : SndE X W e eo) (hg : Gl X x) (hm : X.mg x = some (.ref g)) (hk : PySem.W.keepIn X.K (.ref g) = true) (hdb : (x == ("__debug__" : Str)) = false := by decide)
    (he : starEach [e] X.env = (false, eval e X.env) :: starEach [] X.env := by rfl) (hpl : (backTo pos (starEach [] X.env)).any (·.1) = false := by rfl) : SndE X W (.Call (.Name x p) [e] [] pos) (eMut1 F eo) := fun Bs B Hs H s r Q E q =>
  ⟨_, pe_ca c hg hm hk (pa_cons pe_all pa_nil he) hdb he hpl, h _ _ _ _ _ _ _ E (PostE.bind q fun y r1 v Hs1 H1 _ x1 E1 ra q1 => by
    cases y with
    | val d => exact False.elim q1
    | new o =>
      obtain ⟨a, rfl, h1, h2, h3, h4⟩ := ra
      refine ⟨rfl, rfl, Hs1, a, [], o, [], rfl, E1.sub, h1, h3, .nil, rfl, ?_⟩
      have q1 : PostE X.K W Bs B Hs1 s (relR X.K B s) Q (ofFO (F o []).1 r1) := q1
      cases hF : (F o []).1 with
      | stuck => rw [hF] at q1; exact q1
      | val d =>
        rw [hF] at q1
        exact fun v Hs' H' st ow rv => q1 v Hs' H' st.sh (E1.stepA h2 h4 st) rv
      | new o2 =>
        rw [hF] at q1
        intro b Hs' H' st ow ne hb1 hb2 hb3
        exact q1 (.ref b) Hs' H' st.sh (E1.stepA h2 h4 st) ⟨b, rfl, hb2, E1.bnone hb1, hb3, E1.apart hb1⟩
      | exc w =>
        rw [hF] at q1
        exact fun c d Hs' H' st ow hx => q1 c d Hs' H' st.sh (E1.stepA h2 h4 st) hx)⟩
end
end Mp
set_option Elab.async false
set_option linter.all false
set_option maxRecDepth 100000
namespace Mp
open PySem PySem.Spec PyProof.Rows L2 Evl
/-! ### words of the translator -/
def dOr2 (f1 f2 : D → D → Option Rv) (d e : D) : Option Rv := (f1 d e).orElse fun _ => f2 d e
def dOr (f1 f2 : List D → Option Rv) (d : List D) : Option Rv := (f1 d).orElse fun _ => f2 d
section
variable {X : Cx} {W : WX} {z : Bool} {st : Stmt} {e o : Expr} {pos : Pos}
theorem ok_or2 {g : Value → Value → Sem Value} {f1 f2 : D → D → Option Rv} (h1 : OpOk X g f1) (h2 : OpOk X g f2) : OpOk X g (dOr2 f1 f2) := ok_or h1 h2
theorem cok_or2 {g : Value} {f1 f2 : List D → Option Rv} (h1 : CallOk X g f1) (h2 : CallOk X g f2) : CallOk X g (dOr f1 f2) := cok_or h1 h2
theorem rm_of {CX : CXT} {P : Program} {w : World} {K : PySem.W.Frag} {mg : Str → Option Value} {base : Heap} {N : List Str} {qual : Str} {scope : Scope} {f : Addr} {cd : Value} {A : Around} {outer : List Env} {s : Shared} {H : Hp} {E : XK} {k : Nat} (room : Room k (A.deeper (envOfC qual scope s.heap.objs.size f cd))) : Rm (cxOf CX P w K mg base N qual scope f cd A outer s H E) :=
  ⟨by have := room.un; show (A.deeper (envOfC qual scope s.heap.objs.size f cd)).units + 200 < cLine; omega, rfl⟩
theorem Rm.blk (R : Rm X) {s : Shared} {H : Hp} {scope : Scope} {env : Env} {fp : List Addr} : Rm (X.blk s H scope env fp) := ⟨R.un, R.calm⟩
theorem takes_WF : Takes X WF := fun u s' ⟨a, B, sI, pins, σ, H, cls, d, e, I, nb, up, sky, na, os, ag, w⟩ => False.elim w
theorem near0 {k : Nat} (room : Room k X.A) (gd : X.A.guards = some []) : Near X k X.A := Near.self room gd
theorem near1 {k : Nat} (room : Room (k + 1) X.A) (gd : X.A.guards = some []) : Near X k X.A.in1 := (Near.self room gd).in1
theorem near2 {k : Nat} (room : Room (k + 2) X.A) (gd : X.A.guards = some []) : Near X k X.A.in1.in1 := (near1 room gd).in1
theorem lenV0 : ∀ r ds r', vNil r = .ok ds r' → ds.length = 0 := fun r ds r' h => by cases h; rfl
theorem lenV_cons {ea : Ev Rv} {as : Ev (List D)} {n : Nat} (h : ∀ r ds r', as r = .ok ds r' → ds.length = n) : ∀ r ds r', vCons ea as r = .ok ds r' → ds.length = n + 1 := fun r ds r' q => by
  unfold vCons at q
  cases h1 : ea r with
  | stuck => rw [h1] at q; cases q
  | exc x r1 => rw [h1] at q; cases q
  | ok x r1 =>
    rw [h1] at q
    have q : (as r1).bind (fun xs r2 => EO.ok (x.data :: xs) r2) = .ok ds r' := q
    cases h2 : as r1 with
    | stuck => rw [h2] at q; cases q
    | exc x r2 => rw [h2] at q; cases q
    | ok xs r2 =>
      rw [h2] at q
      cases q
      exact congrArg (· + 1) (h _ _ _ h2)
theorem lenV1 {a : Ev Rv} : ∀ r ds r', vCons a vNil r = .ok ds r' → ds.length = 1 := lenV_cons lenV0
theorem lenV2 {a b : Ev Rv} : ∀ r ds r', vCons a (vCons b vNil) r = .ok ds r' → ds.length = 2 := lenV_cons lenV1
theorem lenV3 {a b c : Ev Rv} : ∀ r ds r', vCons a (vCons b (vCons c vNil)) r = .ok ds r' → ds.length = 3 := lenV_cons lenV2
theorem lenV4 {a b c d : Ev Rv} : ∀ r ds r', vCons a (vCons b (vCons c (vCons d vNil))) r = .ok ds r' → ds.length = 4 := lenV_cons lenV3
/-- x.f = e, x an own instance of the class at C -/
def sFldC (C : Addr) (i : Nat) (f : Str) (ev : Ev Rv) : Sv := fun r => (ev r).toS fun y r1 => match r1[i]? with
  | some (.own (.ins C' l)) => if C' = C ∧ l.length < 1000 then .nx (r1.set i (.own (.ins C' (putFD f y.data l)))) else .stuck
  | _ => .stuck
theorem sns_fldC {i : Nat} {C : Addr} {f : Str} {ev : Ev Rv} {p2 : Pos} (c : Cls X.K C) (na : NoAttr X.K C f) (ho : PE X o (tVar i)) (h : SndE X W e ev) (hs : swapsWith e (some (.Attribute o f p2)) pos.line X.env = pure false := by rfl) : SndS X W z (.Assign [.Attribute o f p2] e pos) (sFldC C i f ev) := fun Bs B Hs H s r D E q =>
  ⟨_, ps_fld ho pe_all hs, h _ _ _ _ _ _ _ E (PostS.toS q fun y r1 v Hs1 H1 x1 E1 ra q1 => by
    obtain ⟨Hs2, e2, E2, r2⟩ := RvAt.use E1 ra
    have q2 := PostS.mono e2 q1
    clear q1
    split at q2
    case h_2 => exact False.elim q2
    rename_i C' l hl
    split at q2
    case isFalse => exact False.elim q2
    rename_i hC
    obtain ⟨rfl, few⟩ := hC
    have q1 := q2
    clear q2
    obtain ⟨a, h1, h2, h3, dx, fs, h4, h5, h6⟩ := E2.own i _ hl
    obtain ⟨p1, p2⟩ := putFD_rp (f := f) r2 h5 h6
    have hlen : fs.length = l.length := by have := congrArg List.length h5; simpa using this
    exact ⟨.ref a, h1, a, C', dx, fs, rfl, h4, c, na, by rw [hlen]; assumption, q1.nx (E2.putOwn (o' := .ins C' (putFD f y.data l)) hl h1 ⟨dx, _, upd_same, p1, p2⟩)⟩)⟩
end
end Mp
namespace Mp
open PySem PySem.Spec PyProof.Rows L2 Evl
section
variable {X : Cx} {W : WX} {z : Bool} {tg : Expr} {pos : Pos}
/-- y = [..] on one line, y a plain local -/
theorem sns_setLc {i : Nat} {y : Str} {py spos : Pos} {elt iter : Expr} {ifs : List Expr} {scope : Scope} {own : List (Str × Nat)} {it : Ev (List D)} {g : Tg} {is : List Nat} {t : Ev Bool} {ev : Ev Rv} (hz : z = true → i ≠ 0) (hy : X.N[i]? = some y) (hyl : X.env.scope.names.lookup y = some .local)
    (hsw : swapsWith (.ListComp elt [⟨tg, iter, ifs, 0⟩] scope pos) (some (.Name y py)) spos.line X.env = pure true) (hc : X.calm = true) (hN : X.N.Nodup) (ok : BlkOk X.N X.env.scope scope own) (hi : SndI X W tg iter it)
    (hg : ∀ (s : Shared) (H0 : Hp) (C : Addr) (cl : List (Str × Addr)) (fp : List Addr), SndG (X.blk s H0 scope (compEnvC scope cl C X.env) fp) tg g is)
    (ht : ∀ (s : Shared) (H0 : Hp) (C : Addr) (cl : List (Str × Addr)) (fp : List Addr), SndTs (X.blk s H0 scope (compEnvC scope cl C X.env) fp) WF ifs t)
    (he : ∀ (s : Shared) (H0 : Hp) (C : Addr) (cl : List (Str × Addr)) (fp : List Addr), SndE (X.blk s H0 scope (compEnvC scope cl C X.env) fp) WF elt ev) (hiv : ∀ i ∈ is, i ∈ own.map (·.2)) (hs : ∀ x, foldedSetIterable iter X.env x = pure x := by intro _; rfl) :
    SndS X W z (.Assign [.Name y py] (.ListComp elt [⟨tg, iter, ifs, 0⟩] scope pos) spos) (sSet i (eComp it g t ev (own.map (·.2)))) := fun Bs B Hs H s r D E q =>
  ⟨_, ps_setLc hc hN hy hyl hsw pi_all ok pg_c pts_c pe_c hs, lc_read hc hN ok hi hg ht he hiv E (PostS.toS q fun x r' v Hs' H' e1 E1 ra q1 => q1.nx' (Kz.set hz) (E1.setRv ra i))⟩
end
end Mp
namespace Mp
open PySem PySem.Spec PyProof.Rows L2 Evl
theorem kit_own {K : PySem.W.Frag} {C : Addr} {n : String} (cl : PySem.W.hasDictIn K C = true) (ty : PySem.W.typeIn K (.ref C) = some (.type "type")) (nf : PySem.W.notFirst K C (.type n) = true) : PySem.W.kitOne K (.type n) (.ref C) = some false := by
  have sub : PySem.W.subIn K (.type n) (.ref C) = some false := by
    unfold PySem.W.notFirst at nf
    rw [Bool.or_eq_true] at nf
    rcases nf with h | h
    · exact absurd (beq_iff_eq.mp h) (fun z => nomatch z)
    · exact beq_iff_eq.mp h
  have there : (PySem.W.clsIn K C).isSome = true := by
    obtain ⟨cd, h, _⟩ := PySem.W.any_some cl
    rw [h]; rfl
  unfold PySem.W.kitOne PySem.W.kitCls
  have ne : ¬ ((Value.type n == Value.ref C) = true) := fun z => by have := beq_iff_eq.mp z; cases this
  rw [if_neg ne]
  show (if ((PySem.W.clsIn K C).isSome && PySem.W.typeIn K (.ref C) == some (.type "type")) = true then PySem.W.subIn K (.type n) (.ref C) else none) = some false
  rw [there, ty, sub]
  rfl
end Mp
set_option Elab.async false
set_option linter.all false
set_option maxRecDepth 100000
namespace Mp
open PySem PySem.Spec PyProof.Rows L2 Evl
/-! ### [elt for tg in iter if .. for tg1 in iter1 if ..] -/
theorem wipe_at (s : L2.St) (i : Nat) : ∀ vs : List Nat, i ∈ vs → (L2.wipe s vs)[i]? = if i < s.length then some none else none
  | [], h => by simp at h
  | v :: vs, h => by
    show ((L2.wipe s vs).set v none)[i]? = _
    rw [List.getElem?_set]
    by_cases e : v = i
    · subst e
      rw [if_pos rfl, wipe_length]
    · rw [if_neg e]
      rcases List.mem_cons.mp h with rfl | h
      · exact absurd rfl e
      · exact wipe_at s i vs h
theorem wipeR_at (s : Rho) (i : Nat) : ∀ vs : List Nat, i ∈ vs → (wipeR s vs)[i]? = if i < s.length then some .un else none
  | [], h => by simp at h
  | v :: vs, h => by
    show ((wipeR s vs).set v .un)[i]? = _
    rw [List.getElem?_set]
    by_cases e : v = i
    · subst e
      rw [if_pos rfl, wipeR_len]
    · rw [if_neg e]
      rcases List.mem_cons.mp h with rfl | h
      · exact absurd rfl e
      · exact wipeR_at s i vs h
theorem wipe_sub (s : L2.St) {vs1 vs : List Nat} (h : ∀ i ∈ vs1, i ∈ vs) : L2.wipe (L2.wipe s vs1) vs = L2.wipe s vs := by
  apply List.ext_getElem?
  intro i
  by_cases hi : i ∈ vs
  · rw [wipe_at _ i vs hi, wipe_at _ i vs hi, wipe_length]
  · rw [wipe_get _ i vs hi, wipe_get _ i vs hi, wipe_get _ i vs1 fun z => hi (h i z)]
theorem wipeR_sub (s : Rho) {vs1 vs : List Nat} (h : ∀ i ∈ vs1, i ∈ vs) : wipeR (wipeR s vs1) vs = wipeR s vs := by
  apply List.ext_getElem?
  intro i
  by_cases hi : i ∈ vs
  · rw [wipeR_at _ i vs hi, wipeR_at _ i vs hi, wipeR_len]
  · rw [wipeR_get _ i vs hi, wipeR_get _ i vs hi, wipeR_get _ i vs1 fun z => hi (h i z)]
/-- the inner loop, behind what is there already -/
def lcB (g : Tg) (t : Ev Bool) (ev : Ev Rv) (vs : List Nat) : List D → List D → Rho → EO (List D)
  | [], acc, r => .ok acc r
  | d :: ds, acc, r => match g d r with
    | none => .stuck
    | some r1 => (t r1).bind fun k r2 => if k then (ev r2).bind fun x r3 => if acc.length < sizeLine then lcB g t ev vs ds (acc ++ [x.data]) (wipeR r3 vs) else .stuck else lcB g t ev vs ds acc (wipeR r2 vs)
def lcO (g : Tg) (t : Ev Bool) (it1 : Ev (List D)) (g1 : Tg) (t1 : Ev Bool) (ev : Ev Rv) (vs vs1 : List Nat) : List D → List D → Rho → EO (List D)
  | [], acc, r => .ok acc r
  | d :: ds, acc, r => match g d r with
    | none => .stuck
    | some r1 => (t r1).bind fun k r2 => if k then (it1 r2).bind fun ds1 r3 => (lcB g1 t1 ev vs1 ds1 acc (wipeR r3 vs1)).bind fun acc1 r4 => lcO g t it1 g1 t1 ev vs vs1 ds acc1 (wipeR r4 vs) else lcO g t it1 g1 t1 ev vs vs1 ds acc (wipeR r2 vs)
def eComp2 (it : Ev (List D)) (g : Tg) (t : Ev Bool) (it1 : Ev (List D)) (g1 : Tg) (t1 : Ev Bool) (ev : Ev Rv) (vs vs1 : List Nat) : Ev Rv := fun r => (it r).bind fun ds r1 => match lcO g t it1 g1 t1 ev vs vs1 ds [] (wipeR r1 vs) with
  | .ok l r2 => .ok (.new (.lst l)) (restore r1 r2 vs)
  | _ => .stuck
def Fin2 (K : PySem.W.Frag) (W : WX) (Bs B Hs : Hp) (s : L2.St) (Q : VK) (r1 : Rho) (vs : List Nat) : EO (List D) → Prop
  | .ok l r2 => PostE K W Bs B Hs s (relR K B s) Q (.ok (.new (.lst l)) (restore r1 r2 vs))
  | _ => False
theorem Fin2.mono {K : PySem.W.Frag} {W : WX} {Bs B Hs Hs' : Hp} {s : L2.St} {Q : VK} {r1 : Rho} {vs : List Nat} {m : EO (List D)} (e : Ex Hs Hs') (h : Fin2 K W Bs B Hs s Q r1 vs m) : Fin2 K W Bs B Hs' s Q r1 vs m := by
  cases m with
  | ok l r2 =>
    have h : PostE K W Bs B Hs s (relR K B s) Q (.ok (.new (.lst l)) (Mp.restore r1 r2 vs)) := h
    exact h.mono e
  | stuck => exact h
  | exc x r => exact h
/-- where the list that grows stands beside an environment -/
structure Grow (K : PySem.W.Frag) (Bs B Hb : Hp) (s : L2.St) (Dl : Addr) (P : Hp → Rho → List D → Prop) (H : Hp) : Prop where
  ex : ∃ (Hs : Hp) (r : Rho) (acc : List D) (us : List V), Ex Hb Hs ∧ EnvOk K Bs B Hs H s r ∧ Hs Dl = none ∧ H Dl = some (.lst us) ∧ RpAll K Hs us acc ∧
      (∀ (j : Nat) oj, r[j]? = some (.own oj) → s[j]? ≠ some (some (.ref Dl))) ∧ P Hs r acc
def cI (X : Cx) (scope : Scope) (tg iter : Expr) : TI := fun σ H Q => ∀ (s : Shared) (H0 : Hp) (C : Addr) (cl : List (Str × Addr)) (fp : List Addr), aI (X.blk s H0 scope (compEnvC scope cl C X.env) fp) tg iter σ H Q
section
variable {X : Cx} {W : WX} {tg tg1 : Expr} {pos : Pos}
theorem pi_c {scope : Scope} {e e1 : Expr} (s : Shared) (H0 : Hp) (C : Addr) (cl : List (Str × Addr)) (fp : List Addr) : PI (X.blk s H0 scope (compEnvC scope cl C X.env) fp) e e1 (cI X scope e e1) := ⟨fun pins s1 σ H Q I h => pi_all.run pins s1 σ H Q I (h s H0 C cl fp)⟩
theorem lc2_read {elt iter iter1 : Expr} {ifs ifs1 : List Expr} {scope : Scope} {own : List (Str × Nat)} {it it1 : Ev (List D)} {g g1 : Tg} {is is1 vs1 : List Nat} {t t1 : Ev Bool} {ev : Ev Rv} (hi : SndI X W tg iter it)
    (hg : ∀ (s : Shared) (H0 : Hp) (C : Addr) (cl : List (Str × Addr)) (fp : List Addr), SndG (X.blk s H0 scope (compEnvC scope cl C X.env) fp) tg g is)
    (ht : ∀ (s : Shared) (H0 : Hp) (C : Addr) (cl : List (Str × Addr)) (fp : List Addr), SndTs (X.blk s H0 scope (compEnvC scope cl C X.env) fp) WF ifs t)
    (hi1 : ∀ (s : Shared) (H0 : Hp) (C : Addr) (cl : List (Str × Addr)) (fp : List Addr), SndI (X.blk s H0 scope (compEnvC scope cl C X.env) fp) WF tg1 iter1 it1)
    (hg1 : ∀ (s : Shared) (H0 : Hp) (C : Addr) (cl : List (Str × Addr)) (fp : List Addr), SndG (X.blk s H0 scope (compEnvC scope cl C X.env) fp) tg1 g1 is1)
    (ht1 : ∀ (s : Shared) (H0 : Hp) (C : Addr) (cl : List (Str × Addr)) (fp : List Addr), SndTs (X.blk s H0 scope (compEnvC scope cl C X.env) fp) WF ifs1 t1)
    (he : ∀ (s : Shared) (H0 : Hp) (C : Addr) (cl : List (Str × Addr)) (fp : List Addr), SndE (X.blk s H0 scope (compEnvC scope cl C X.env) fp) WF elt ev) (hiv : ∀ i ∈ is, i ∈ own.map (·.2)) (hiv1 : ∀ i ∈ is1, i ∈ vs1) (hv : ∀ i ∈ vs1, i ∈ own.map (·.2)) {Bs B Hs H : Hp} {s : L2.St} {r : Rho} {Q : VK} (E : EnvOk X.K Bs B Hs H s r) (q : PostE X.K W Bs B Hs s (relR X.K B s) Q (eComp2 it g t it1 g1 t1 ev (own.map (·.2)) vs1 r)) :
    tLc2 (aI X tg iter) (cG X scope tg) (cT X scope ifs) (cI X scope tg1 iter1) (cG X scope tg1) (cT X scope ifs1) (cE X scope elt) (own.map (·.2)) vs1 s H Q :=
  hi _ _ _ _ _ _ _ E (PostE.bind q fun ds r1 J Hs1 H1 _ e1 E1 wk q1 => by
    have wk : Wk X.K Hs1 J ds := wk
    generalize hvs : own.map (·.2) = vs at q1 hiv hv ⊢
    intro Dl hD
    have hDs : Hs1 Dl = none := fresh_back E1.sub hD
    have hDB : B Dl = none := E1.bnone hD
    have hDbs : Bs Dl = none := fresh_back E1.ext1 hDs
    let rest : Nat → Hp → Rho → List D → Prop := fun i Hs r acc => r = wipeR r vs ∧ Fin2 X.K W Bs B Hs s Q r1 vs (lcO g t it1 g1 t1 ev vs vs1 (ds.drop i) acc r)
    refine ⟨fun i m H => m = ds.length - i ∧ i ≤ ds.length ∧ Grow X.K Bs B Hs1 (L2.wipe s vs) Dl (rest i) H, ⟨ds.length, rfl, Nat.zero_le _, ⟨Hs1, wipeR r1 vs, [], [], Ex.refl _, ?_, hDs, upd_same, .nil, ?_, ?_, ?_⟩⟩, ?_⟩
    · exact (E1.wipe vs).step (Step.newO E1.sub hD)
    · exact fun j oj hj => (E1.wipe vs).apart hD j oj hj
    · rw [wipeR_sub _ fun _ h => h]
    · rw [List.drop_zero]
      cases hl : lcO g t it1 g1 t1 ev vs vs1 ds [] (wipeR r1 vs) with
      | stuck => rw [hl] at q1; exact q1
      | exc x r2 => rw [hl] at q1; exact q1
      | ok l r2 => rw [hl] at q1; exact q1
    rintro i m H2 ⟨rfl, hi2, Hs2, r2, acc, us, e2, E2, hD2, hH2, hus, hap, hw2, fin⟩
    by_cases hlt : i < ds.length
    case neg =>
      have hi' : i = ds.length := by omega
      subst hi'
      rw [List.drop_length] at fin
      have fin : PostE X.K W Bs B Hs2 s (relR X.K B s) Q (.ok (.new (.lst acc)) (restore r1 r2 vs)) := fin
      rw [hw2] at E2 fin hap
      have E2' : EnvOk X.K Bs B Hs2 H2 (L2.wipe s vs) (wipeR (wipeR r2 vs) vs) := by rw [wipeR_sub _ fun _ h => h]; exact E2
      refine .inl ⟨(wk Hs2 H2 e2 E2.sub).2, ?_⟩
      have E3 : EnvOk X.K Bs B Hs2 H2 s (restore r1 (wipeR r2 vs) vs) := EnvOk.restore E1 e2 E2'
      refine fin.ok E3 ⟨Dl, rfl, hD2, hDB, ⟨us, hH2, hus⟩, fun j oj hj z => ?_⟩
      have hjv : j ∉ vs := fun hv => by
        have := restore_in r1 (wipeR r2 vs) j _ vs hv hj
        unfold keepVal at this
        split at this <;> cases this
      rw [restore_get _ _ j vs hjv] at hj
      exact hap j oj hj (by rw [wipe_get s j vs hjv]; exact z)
    case pos =>
      obtain ⟨d, hd⟩ : ∃ d, ds[i]? = some d := ⟨_, List.getElem?_eq_getElem hlt⟩
      have hdrop : ds.drop i = d :: ds.drop (i + 1) := by
        rw [List.drop_eq_getElem_cons hlt]
        have := List.getElem?_eq_getElem hlt
        rw [hd] at this
        rw [Option.some.inj this]
      obtain ⟨g1', g2⟩ := (wk Hs2 H2 e2 E2.sub).1 i d hd
      refine .inr ⟨g1', Grow X.K Bs B Hs1 (L2.wipe s vs) Dl (rest (i + 1)), fun H' h => ⟨ds.length - (i + 1), by omega, rfl, by omega, h⟩, fun x H' hy => ?_⟩
      obtain ⟨Hs3, st, rx⟩ := g2 x H' hy
      have E3 := E2.step st
      obtain ⟨hD3a, hH3⟩ := st.fr Dl _ hH2 hD2; have hD3 := hD3a (fun _ z => nomatch z)
      have e3 : Ex Hs1 Hs3 := e2.trans st.sh
      have E3' := E3.more hD3 hH3 hap
      have fin := Fin2.mono st.sh fin
      have hus := hus.mono st.sh
      rw [hdrop] at fin
      unfold lcO at fin
      split at fin
      · exact False.elim fin
      rename_i r4 hg0
      intro sh H0 C cl fp
      refine hg sh H0 C cl fp _ _ _ _ _ _ _ _ _ _ E3' rx hg0 fun s4 H4 al E4 => ⟨?_, ?_⟩
      · rw [al vs hiv, wipe_idem]
      have al4 : L2.wipe s4 vs = L2.wipe s vs := by rw [al vs hiv, wipe_idem]
      intro sh H0 C cl fp
      refine ht sh H0 C cl fp _ _ _ _ _ _ _ E4 ?_
      have back : ∀ (Hs5 H5 : Hp) (r5 : Rho), EnvOk X.K Bs (upd B Dl (.lst us)) Hs5 H5 s4 r5 → Hs5 Dl = none ∧ H5 Dl = some (.lst us) := fun Hs5 H5 r5 E5 => ⟨(E5.ext2 Dl _ upd_same hDbs).1 (fun _ z => nomatch z), (E5.ext2 Dl _ upd_same hDbs).2⟩
      -- from any environment within the turn back to the outer loop
      have leave : ∀ (us : List V) (s5 : L2.St) (vs0 : List Nat), L2.wipe s5 vs = L2.wipe s vs → ∀ (Hs5 H5 : Hp) (r5 : Rho), EnvOk X.K Bs (upd B Dl (.lst us)) Hs5 H5 s5 r5 → EnvOk X.K Bs B Hs5 H5 (L2.wipe s vs) (wipeR r5 vs) ∧ ∀ (j : Nat) oj, (wipeR r5 vs)[j]? = some (.own oj) → (L2.wipe s vs)[j]? ≠ some (some (.ref Dl)) := by
        intro us s5 vs0 h5 Hs5 H5 r5 E5
        have E6 := E5.wipe vs
        rw [h5] at E6
        refine ⟨E6.less hDB hDbs, fun j oj hj z => ?_⟩
        obtain ⟨a, k1, _, k3, _⟩ := E6.own j oj hj
        rw [k1] at z; cases z
        rw [upd_same] at k3; cases k3
      cases hm : t r4 with
      | stuck => rw [hm] at fin; exact fin
      | exc y r5 => rw [hm] at fin; exact False.elim fin
      | ok k r5 =>
        rw [hm] at fin
        intro k' Hs5 H5 e5 E5 hk
        have hk : k' = k := hk
        subst hk
        obtain ⟨hD5, hH5⟩ := back Hs5 H5 r5 E5
        cases k' with
        | false =>
          rw [if_neg Bool.false_ne_true]
          have fin : Fin2 X.K W Bs B Hs3 s Q r1 vs (lcO g t it1 g1 t1 ev vs vs1 (ds.drop (i + 1)) acc (wipeR r5 vs)) := fin
          obtain ⟨E6, ap6⟩ := leave us s4 vs al4 Hs5 H5 r5 E5
          exact ⟨Hs5, wipeR r5 vs, acc, us, e3.trans e5, E6, hD5, hH5, hus.mono e5, ap6, by rw [wipeR_sub _ fun _ h => h], fin.mono e5⟩
        | true =>
          rw [if_pos rfl]
          have fin : Fin2 X.K W Bs B Hs3 s Q r1 vs ((it1 r5).bind fun ds1 r6 => (lcB g1 t1 ev vs1 ds1 acc (wipeR r6 vs1)).bind fun acc1 r7 => lcO g t it1 g1 t1 ev vs vs1 (ds.drop (i + 1)) acc1 (wipeR r7 vs)) := fin
          intro sh H0 C cl fp
          refine hi1 sh H0 C cl fp _ _ _ _ _ _ _ E5 ?_
          cases hm1 : it1 r5 with
          | stuck => rw [hm1] at fin; exact fin
          | exc y r6 => rw [hm1] at fin; exact False.elim fin
          | ok ds1 r6 =>
            rw [hm1] at fin
            have fin : Fin2 X.K W Bs B Hs3 s Q r1 vs ((lcB g1 t1 ev vs1 ds1 acc (wipeR r6 vs1)).bind fun acc1 r7 => lcO g t it1 g1 t1 ev vs vs1 (ds.drop (i + 1)) acc1 (wipeR r7 vs)) := fin
            intro J1 Hs6 H6 e6 E6 wk1
            have wk1 : Wk X.K Hs6 J1 ds1 := wk1
            obtain ⟨hD6, hH6⟩ := back Hs6 H6 r6 E6
            let rest1 : Nat → Hp → Rho → List D → Prop := fun j Hs r acc => r = wipeR r vs1 ∧ Fin2 X.K W Bs B Hs s Q r1 vs ((lcB g1 t1 ev vs1 (ds1.drop j) acc r).bind fun acc1 r7 => lcO g t it1 g1 t1 ev vs vs1 (ds.drop (i + 1)) acc1 (wipeR r7 vs))
            have e36 : Ex Hs3 Hs6 := e5.trans e6
            have ap : ∀ (us : List V) (Hs H : Hp) (s5 : L2.St) (r : Rho), EnvOk X.K Bs (upd B Dl (.lst us)) Hs H s5 r → ∀ (j : Nat) oj, r[j]? = some (.own oj) → s5[j]? ≠ some (some (.ref Dl)) := by
              intro us Hs H s5 r E j oj hj z
              obtain ⟨a, k1, _, k3, _⟩ := E.own j oj hj
              rw [k1] at z; cases z
              rw [upd_same] at k3; cases k3
            have ws4 : L2.wipe (L2.wipe s4 vs1) vs = L2.wipe s vs := by rw [wipe_sub s4 hv, al4]
            refine ⟨fun j m H => m = ds1.length - j ∧ j ≤ ds1.length ∧ Grow X.K Bs B Hs6 (L2.wipe s4 vs1) Dl (rest1 j) H, ⟨ds1.length, rfl, Nat.zero_le _, ⟨Hs6, wipeR r6 vs1, acc, us, Ex.refl _, (E6.less hDB hDbs).wipe vs1, hD6, hH6, hus.mono e36, ?_, by rw [wipeR_sub _ fun _ h => h], ?_⟩⟩, ?_⟩
            · exact ap us _ _ _ _ (E6.wipe vs1)
            · rw [List.drop_zero]; exact fin.mono e36
            rintro j m H7 ⟨rfl, hj2, Hs7, r7, acc7, us7, e7, E7, hD7, hH7, hus7, hap7, hw7, fin7⟩
            by_cases hlt1 : j < ds1.length
            case neg =>
              have hj' : j = ds1.length := by omega
              subst hj'
              rw [List.drop_length] at fin7
              have fin7 : Fin2 X.K W Bs B Hs7 s Q r1 vs (lcO g t it1 g1 t1 ev vs vs1 (ds.drop (i + 1)) acc7 (wipeR r7 vs)) := fin7
              refine .inl ⟨(wk1 Hs7 H7 e7 E7.sub).2, ?_⟩
              obtain ⟨E8, ap8⟩ := leave us7 _ vs1 ws4 Hs7 H7 r7 (E7.more hD7 hH7 hap7)
              exact ⟨Hs7, wipeR r7 vs, acc7, us7, e3.trans (e36.trans e7), E8, hD7, hH7, hus7, ap8, by rw [wipeR_sub _ fun _ h => h], fin7⟩
            case pos =>
              obtain ⟨d1, hd1⟩ : ∃ d, ds1[j]? = some d := ⟨_, List.getElem?_eq_getElem hlt1⟩
              have hdrop1 : ds1.drop j = d1 :: ds1.drop (j + 1) := by
                rw [List.drop_eq_getElem_cons hlt1]
                have := List.getElem?_eq_getElem hlt1
                rw [hd1] at this
                rw [Option.some.inj this]
              obtain ⟨k1, k2⟩ := (wk1 Hs7 H7 e7 E7.sub).1 j d1 hd1
              refine .inr ⟨k1, Grow X.K Bs B Hs6 (L2.wipe s4 vs1) Dl (rest1 (j + 1)), fun H' h => ⟨ds1.length - (j + 1), by omega, rfl, by omega, h⟩, fun x H' hy => ?_⟩
              obtain ⟨Hs8, st8, rx8⟩ := k2 x H' hy
              have E8 := E7.step st8
              obtain ⟨hD8a, hH8⟩ := st8.fr Dl _ hH7 hD7; have hD8 := hD8a (fun _ z => nomatch z)
              have e8 : Ex Hs6 Hs8 := e7.trans st8.sh
              have E8' := E8.more hD8 hH8 hap7
              have fin8 := Fin2.mono st8.sh fin7
              have hus8 := hus7.mono st8.sh
              rw [hdrop1] at fin8
              unfold lcB at fin8
              split at fin8
              · exact False.elim fin8
              rename_i r9 hg9
              intro sh H0 C cl fp
              refine hg1 sh H0 C cl fp _ _ _ _ _ _ _ _ _ _ E8' rx8 hg9 fun s9 H9 al9 E9 => ⟨?_, ?_⟩
              · rw [al9 vs1 hiv1, wipe_idem]
              have a9 : L2.wipe s9 vs1 = L2.wipe s4 vs1 := by rw [al9 vs1 hiv1, wipe_idem]
              have back7 : ∀ (Hs5 H5 : Hp) (r5 : Rho), EnvOk X.K Bs (upd B Dl (.lst us7)) Hs5 H5 s9 r5 → Hs5 Dl = none ∧ H5 Dl = some (.lst us7) := fun Hs5 H5 r5 E5 => ⟨(E5.ext2 Dl _ upd_same hDbs).1 (fun _ z => nomatch z), (E5.ext2 Dl _ upd_same hDbs).2⟩
              have in9 : ∀ (Hs5 H5 : Hp) (r5 : Rho), EnvOk X.K Bs (upd B Dl (.lst us7)) Hs5 H5 s9 r5 → EnvOk X.K Bs B Hs5 H5 (L2.wipe s4 vs1) (wipeR r5 vs1) ∧ ∀ (j : Nat) oj, (wipeR r5 vs1)[j]? = some (.own oj) → (L2.wipe s4 vs1)[j]? ≠ some (some (.ref Dl)) := by
                intro Hs5 H5 r5 E5
                have E6 := E5.wipe vs1
                rw [a9] at E6
                exact ⟨E6.less hDB hDbs, ap us7 _ _ _ _ E6⟩
              intro sh H0 C cl fp
              refine ht1 sh H0 C cl fp _ _ _ _ _ _ _ E9 ?_
              cases hm9 : t1 r9 with
              | stuck => rw [hm9] at fin8; exact fin8
              | exc y r5 => rw [hm9] at fin8; exact False.elim fin8
              | ok k r10 =>
                rw [hm9] at fin8
                intro k' Hs10 H10 e10 E10 hk
                have hk : k' = k := hk
                subst hk
                obtain ⟨hD10, hH10⟩ := back7 Hs10 H10 r10 E10
                cases k' with
                | false =>
                  rw [if_neg Bool.false_ne_true]
                  obtain ⟨E11, ap11⟩ := in9 Hs10 H10 r10 E10
                  exact ⟨Hs10, wipeR r10 vs1, acc7, us7, e8.trans e10, E11, hD10, hH10, hus8.mono e10, ap11, by rw [wipeR_sub _ fun _ h => h], Fin2.mono e10 fin8⟩
                | true =>
                  rw [if_pos rfl]
                  have fin9 : Fin2 X.K W Bs B Hs8 s Q r1 vs (((ev r10).bind fun x r3 => if acc7.length < sizeLine then lcB g1 t1 ev vs1 (ds1.drop (j + 1)) (acc7 ++ [x.data]) (wipeR r3 vs1) else .stuck).bind fun acc1 r7 => lcO g t it1 g1 t1 ev vs vs1 (ds.drop (i + 1)) acc1 (wipeR r7 vs)) := fin8
                  intro sh H0 C cl fp
                  refine he sh H0 C cl fp _ _ _ _ _ _ _ E10 ?_
                  cases hv10 : ev r10 with
                  | stuck => rw [hv10] at fin9; exact fin9
                  | exc y r6 => rw [hv10] at fin9; exact False.elim fin9
                  | ok y r11 =>
                    rw [hv10] at fin9
                    have fin9 : Fin2 X.K W Bs B Hs8 s Q r1 vs ((if acc7.length < sizeLine then lcB g1 t1 ev vs1 (ds1.drop (j + 1)) (acc7 ++ [y.data]) (wipeR r11 vs1) else .stuck).bind fun acc1 r7 => lcO g t it1 g1 t1 ev vs vs1 (ds.drop (i + 1)) acc1 (wipeR r7 vs)) := fin9
                    intro w Hs11 H11 e11 E11 ry
                    split at fin9
                    case isFalse => exact False.elim fin9
                    rename_i hsz
                    obtain ⟨Hs12, e12, E12, ry12⟩ := RvAt.use E11 ry
                    obtain ⟨hD12, hH12⟩ := back7 Hs12 H11 r11 E12
                    obtain ⟨E13, ap13⟩ := in9 Hs12 H11 r11 E12
                    have e812 : Ex Hs8 Hs12 := e10.trans (e11.trans e12)
                    refine ⟨us7, hH12, ?_, ?_⟩
                    · have := hus8.length; omega
                    have E14 := E13.poke (o := .lst (us7 ++ [w])) hD12 hDB ap13
                    exact ⟨Hs12, wipeR r11 vs1, acc7 ++ [y.data], us7 ++ [w], e8.trans e812, E14, hD12, upd_same, (hus8.mono e812).snoc ry12, ap13, by rw [wipeR_sub _ fun _ h => h], Fin2.mono e812 fin9⟩)
theorem snd_lc2 {elt iter iter1 : Expr} {ifs ifs1 : List Expr} {scope : Scope} {own : List (Str × Nat)} {it it1 : Ev (List D)} {g g1 : Tg} {is is1 vs1 : List Nat} {t t1 : Ev Bool} {ev : Ev Rv} (hc : X.calm = true) (hN : X.N.Nodup) (ok : BlkOk X.N X.env.scope scope own) (hi : SndI X W tg iter it)
    (hg : ∀ (s : Shared) (H0 : Hp) (C : Addr) (cl : List (Str × Addr)) (fp : List Addr), SndG (X.blk s H0 scope (compEnvC scope cl C X.env) fp) tg g is)
    (ht : ∀ (s : Shared) (H0 : Hp) (C : Addr) (cl : List (Str × Addr)) (fp : List Addr), SndTs (X.blk s H0 scope (compEnvC scope cl C X.env) fp) WF ifs t)
    (hi1 : ∀ (s : Shared) (H0 : Hp) (C : Addr) (cl : List (Str × Addr)) (fp : List Addr), SndI (X.blk s H0 scope (compEnvC scope cl C X.env) fp) WF tg1 iter1 it1)
    (hg1 : ∀ (s : Shared) (H0 : Hp) (C : Addr) (cl : List (Str × Addr)) (fp : List Addr), SndG (X.blk s H0 scope (compEnvC scope cl C X.env) fp) tg1 g1 is1)
    (ht1 : ∀ (s : Shared) (H0 : Hp) (C : Addr) (cl : List (Str × Addr)) (fp : List Addr), SndTs (X.blk s H0 scope (compEnvC scope cl C X.env) fp) WF ifs1 t1)
    (he : ∀ (s : Shared) (H0 : Hp) (C : Addr) (cl : List (Str × Addr)) (fp : List Addr), SndE (X.blk s H0 scope (compEnvC scope cl C X.env) fp) WF elt ev) (hiv : ∀ i ∈ is, i ∈ own.map (·.2)) (hiv1 : ∀ i ∈ is1, i ∈ vs1) (hv : ∀ i ∈ vs1, i ∈ own.map (·.2)) (hs : ∀ x, foldedSetIterable iter X.env x = pure x := by intro _; rfl) (hs1 : ∀ env x, foldedSetIterable iter1 env x = pure x := by intro _ _; rfl) :
    SndE X W (.ListComp elt [⟨tg, iter, ifs, 0⟩, ⟨tg1, iter1, ifs1, 0⟩] scope pos) (eComp2 it g t it1 g1 t1 ev (own.map (·.2)) vs1) := fun Bs B Hs H s r Q E q =>
  ⟨_, pe_lc2 hc hN pi_all ok hv pg_c pts_c pi_c pg_c pts_c pe_c hs hs1, lc2_read hi hg ht hi1 hg1 ht1 he hiv hiv1 hv E q⟩
end
end Mp
set_option Elab.async false
set_option linter.all false
set_option maxRecDepth 100000
namespace Mp
open PySem PySem.Spec PyProof.Rows L2 Evl
section
variable {X : Cx} {W : WX} {o e : Expr} {apos cpos : Pos}
/-! ### xs.extend(ys), xs an own list -/
def eExt (i : Nat) (ev : Ev Rv) : Ev Rv := fun r => match r[i]? with
  | some (.own (.lst _)) => (ev r).bind fun x r1 => (match r1[i]?, x.data with
    | some (.own (.lst l)), .lst zs => if l.length + zs.length ≤ sizeLine then .ok (.val .non) (r1.set i (.own (.lst (l ++ zs)))) else .stuck
    | _, _ => .stuck)
  | _ => .stuck
theorem snd_ext {i : Nat} {ev : Ev Rv} (ho : PE X o (tVar i)) (h : SndE X W e ev) (hbase : attributeBase o "extend" X.env (eval o X.env) = eval o X.env := by rfl)
    (few : ((backTo cpos (starEach [e] X.env)).all (fun x => !x.1) && (backToKw cpos (keywordEach [] X.env)).all (fun x => x.1.isSome)
      && decide (([e] : List Expr).length + ([] : List Keyword).length + (if ([] : List Keyword).isEmpty then 0 else 1) < 30)) = true := by rfl)
    (line : (apos.endLine == cpos.line) = true := by rfl) (st : starEach [e] X.env = (false, eval e X.env) :: starEach [] X.env := by rfl) (pl : (backTo cpos (starEach [] X.env)).any (·.1) = false := by rfl) :
    SndE X W (.Call (.Attribute o "extend" apos) [e] [] cpos) (eExt i ev) := fun Bs B Hs H s r Q E q => by
  unfold eExt at q
  split at q
  case h_2 => exact False.elim q
  rename_i l0 hl0
  obtain ⟨a, h1, h2, h3, vs0, h4, h5⟩ := E.own i _ hl0
  refine ⟨_, pe_bm PySem.F.plainAttrs_list PySem.F.slot_list_extend PySem.F.type_list_extend mt_extend ho (pa_cons pe_all pa_nil st) hbase few line st pl, .ref a, h1, .inl ⟨rfl, _, sq_of h4⟩, h _ _ _ _ _ _ _ E (PostE.bind q fun x r1 v Hs1 H1 _ x1 E1 ra q1 => ?_)⟩
  obtain ⟨Hs2, e2, E2, r2⟩ := RvAt.use E1 ra
  have q1 := PostE.mono e2 q1
  split at q1
  case h_2 => exact False.elim q1
  rename_i l zs hl hz
  obtain ⟨a', g1, g2, g3, vs, g4, g5⟩ := E2.own i _ hl
  rw [h1] at g1; cases g1
  split at q1
  case isFalse => exact False.elim q1
  rename_i hsz
  rw [hz] at r2
  cases r2 with
  | lst hb rr => exact ⟨a, _, vs, _, rfl, rfl, g4, E2.sub _ _ hb, by rw [g5.length, rr.length]; exact hsz, q1.ok (E2.putOwn (o' := .lst (l ++ zs)) hl h1 ⟨_, upd_same, g5.append rr⟩) .non⟩
end
end Mp
set_option Elab.async false
set_option linter.all false
set_option maxRecDepth 100000
namespace Mp
open PySem PySem.Spec PyProof.Rows L2 Evl
/-! ### raise C(e), C an own class over ValueError whose __init__ is one row self.f = v -/
def spX (C : Addr) (f : Str) : Sp := fun vs H Q _ => ∃ a y, vs = [V.ref a, y] ∧ H a = some (exo a C none) ∧ ∀ dx, H dx = none → dx ≠ a → Q .non (upd (upd H dx (exd dx [(f, y)])) a (exo a C (some dx)))
theorem init_fn {P : Program} {w : World} {K : PySem.W.Frag} {mg : Str → Option Value} {base : Heap} {x qual f g0 : Str} {st : Stmt} {fI C : Addr} {fd : FuncData} {p0 p1 p' pos : Pos} (F : Fun K x qual st fI fd) (S : FnScope ["self", g0] ["self", g0] (defScope st))
    (hb : defBody st = [.Assign [.Attribute (.Name "self" p0) f p'] (.Name g0 p1) pos]) (T : OexC K C) (hno : PySem.W.findIn K (.ref C) f = some none)
    (v0 : Vis (defScope st) "self") (v1 : Vis (defScope st) g0) (hd : (g0 == ("__debug__" : Str)) = false) (hcd' : (g0 == ("__classdict__" : Str)) = false) (hs : ∀ env, swapsWith (.Name g0 p1) (some (.Attribute (.Name "self" p0) f p')) pos.line env = pure false) : FnOk P w K mg base (L2.CX P w) 1 fI fd ["self", g0] (spX C f) := by
  obtain ⟨oc, od, kV, doc, pm, an, cdv, ct, osl, rfl, lk, hcd⟩ := F.ex
  refine fn_of lk hcd S (fun vs H Q E h => ?_) fun A outer s H vs Q E room h => ?_
  · obtain ⟨a, y, rfl, _⟩ := h
    rfl
  · obtain ⟨a, y, rfl, h1, h2⟩ := h
    rw [hb]
    refine ⟨_, pss_cons (ps_ost (pe_var (i := 0) rfl v0) (pe_var (i := 1) rfl v1 hd hcd') (hs _)) pss_nil, ?_⟩
    refine ⟨y, rfl, .ref a, rfl, a, C, rfl, T, hno, .inl ⟨h1, fun dx n ne => h2 dx n ne⟩⟩
section
variable {X : Cx} {W : WX} {z : Bool} {e : Expr} {x f : Str} {p pos pos' : Pos} {C fI : Addr} {fd : FuncData} {ps : List Str}
def sRaiseX (tag : Nat) (C : Addr) (f : Str) (ev : Ev Rv) : Sv := fun r => (ev r).toS fun x r1 => .exc ⟨tag, C, some (f, x.data)⟩ r1
theorem sns_raiseX {tag : Nat} {ev : Ev Rv} (hc : X.calm = true) (tk : Takes X W) (T : OexC X.K C) (iC : PySem.W.findIn X.K (.ref C) "__init__" = some (some (.ref fI))) (tI : PySem.W.typeIn X.K (.ref fI) = some (.type "function"))
    (F1 : FnOk X.prog X.w X.K X.mg X.base (L2.CX X.prog X.w) 1 fI fd ps (spX C f)) (hr : Room 2 X.A) (hb : Binds X.K fd ps []) (hg : Gl X x) (hm : X.mg x = some (.ref C)) (h : SndE X W e ev) (hdb : (x == ("__debug__" : Str)) = false := by decide)
    (st : starEach [e] X.env = (false, eval e X.env) :: starEach [] X.env := by rfl) (pl : (backTo pos (starEach [] X.env)).any (·.1) = false := by rfl) :
    SndS X W z (.Raise (some (.Call (.Name x p) [e] [] pos)) none pos') (sRaiseX tag C f ev) := fun Bs B Hs H s r D E q =>
  ⟨_, ps_raise hc tk (pmk_oex (ds := []) (dvs := []) T iC tI F1 hr hb .nil (fun pins σ H s e s' I c => by
      obtain ⟨a, B, H', cls, d, _, _, _, _, _, _, _, k⟩ := c
      exact False.elim k) hg hm (pa_cons pe_all pa_nil st) hdb st pl), h _ _ _ _ _ _ _ E (PostS.toS q fun y r1 v Hs1 H1 x1 E1 ra q1 => by
    obtain ⟨Hs2, e2, E2, r2⟩ := RvAt.use E1 ra
    have q1 := PostS.mono e2 q1
    refine ⟨by simp, fun a ha => ⟨a, v, rfl, upd_same, fun dx n ne => ⟨rfl, dx, [(f, v)], upd_same, ?_, ?_, ?_⟩⟩⟩
    · rw [upd_ne ne, upd_same]
    · rw [upd_ne ne] at n; exact n
    have hdx : H1 dx = none := by rw [upd_ne ne] at n; exact n
    have eq : upd (del (upd (upd (upd H1 a (exo a C none)) dx (exd dx [(f, v)])) a (exo a C (some dx))) a) dx (.xd [(f, v)]) = upd H1 dx (.xd [(f, v)]) := by
      funext b
      by_cases hb : b = dx
      · subst hb; rw [upd_same, upd_same]
      · rw [upd_ne hb, upd_ne hb]
        by_cases hba : b = a
        · subst hba; rw [del_same, ha]
        · rw [del_ne hba, upd_ne hba, upd_ne hb, upd_ne hba]
    rw [eq]
    have q1 : ∀ cls d s' Hs' H', Kz z s s' → Ex Hs2 Hs' → EnvOk X.K Bs B Hs' H' s' r1 → ExAt X.K Hs' H' cls d ⟨tag, C, some (f, y.data)⟩ → W cls d s' H' := q1
    exact q1 _ _ s Hs2 _ (Kz.refl s) (Ex.refl _) (E2.step (Step.newO E2.sub hdx)) ⟨rfl, dx, v, rfl, upd_same, r2⟩)⟩
end
end Mp
set_option Elab.async false
set_option linter.all false
set_option maxRecDepth 100000
namespace Mp
open PySem PySem.Spec PyProof.Rows L2 Evl
/-! ### a slot is let go -/
theorem EnvOk.unset {K : PySem.W.Frag} {Bs B Hs H : Hp} {s : L2.St} {r : Rho} (E : EnvOk K Bs B Hs H s r) (i : Nat) (x : Option V) : EnvOk K Bs B Hs H (s.set i x) (r.set i .un) := by
  have gs : ∀ (j : Nat), i ≠ j → (s.set i x)[j]? = s[j]? := fun j e => by rw [List.getElem?_set, if_neg e]
  have gr : ∀ (j : Nat) c, (r.set i .un)[j]? = some c → c ≠ .un → i ≠ j ∧ r[j]? = some c := fun j c h nc => by
    rw [List.getElem?_set] at h
    by_cases e : i = j
    · subst e
      rw [if_pos rfl] at h
      split at h
      · cases h; exact absurd rfl nc
      · cases h
    · rw [if_neg e] at h; exact ⟨e, h⟩
  refine ⟨E.sub, E.ext1, E.ext2, E.ext3, by rw [List.length_set, List.length_set]; exact E.len, fun j d hj => ?_, fun j o hj => ?_, fun i' j' a oi oj ne h1 h2 h3 h4 => ?_⟩
  · obtain ⟨e, hj⟩ := gr j _ hj (fun z => nomatch z)
    rw [gs j e]; exact E.val j d hj
  · obtain ⟨e, hj⟩ := gr j _ hj (fun z => nomatch z)
    rw [gs j e]; exact E.own j o hj
  · obtain ⟨e1, h1⟩ := gr i' _ h1 (fun z => nomatch z)
    obtain ⟨e2, h2⟩ := gr j' _ h2 (fun z => nomatch z)
    rw [gs i' e1] at h3; rw [gs j' e2] at h4
    exact E.dis i' j' a oi oj ne h1 h2 h3 h4
/-! ### try: body, except x as n: suite -/
def Rm.tr {X : Cx} (R : Rm X) {pn : List (Addr × Obj)} {xe : Value → Shared → Prop} : Rm (X.tr pn xe) := ⟨R.un, R.calm⟩
def unI (i : Nat) : SO → SO
  | .nx r => .nx (r.set i .un)
  | .bk r => .bk (r.set i .un)
  | .ct r => .ct (r.set i .un)
  | .exc _ _ => .stuck
  | m => m
/-- C tells the classes' addresses by their numbers, tab which of them the clause takes; hd is told the field f's value -/
def sTryAs (C : Nat → Addr) (tab : List (Nat × Bool)) (i : Nat) (f : Str) (body : Sv) (hd : D → Sv) : Sv := fun r => match body r with
  | .exc x r1 => if x.cls = C x.tag then (match tab.lookup x.tag with
    | some true => (match x.fld with
      | some (g, y) => if g = f ∧ i < r1.length then unI i (hd y (r1.set i .un)) else .stuck
      | none => .stuck)
    | some false => .exc x r1
    | none => .stuck) else .stuck
  | m => m
/-- a suite that is told the value of e.f -/
def SndH (X : Cx) (z : Bool) (i : Nat) (f : Str) (suite : List Stmt) (hd : D → Sv) : Prop :=
  ∀ (a cc dd : Addr) (oe : Obj) (pn : List (Addr × Obj)) (v : V) (y : D), Zc (.ref cc) (some dd) oe → (∃ vs, oe.data = .fields vs) → XfC X.K cc → PySem.W.findIn X.K (.ref cc) f = some none →
    ∀ (Bs B Hs H : Hp) (s : L2.St) (r : Rho) (D : Ends), EnvOk X.K Bs B Hs H s r → H dd = some (.xd [(f, v)]) → Rp X.K Hs v y → s[i]? = some (some (.ref a)) → PostS X.K WF z Bs B Hs s D (hd y r) → aSs (X.suite a ((a, oe) :: pn)) suite D s H
section
variable {X : Cx} {W : WX} {z : Bool} {x n f : Str} {c : Value} {i : Nat} {body suite : List Stmt} {b₀ : Stmt} {np pos pos' : Pos} {C : Nat → Addr} {tab : List (Nat × Bool)} {sv : Sv} {hd : D → Sv}
theorem PostS.free {K : PySem.W.Frag} {W W' : WX} {z : Bool} {Bs B Hs : Hp} {s : L2.St} {D : Ends} {m : SO} (h : PostS K W z Bs B Hs s D m) (hx : ∀ x r, m ≠ .exc x r) : PostS K W' z Bs B Hs s D m := by
  cases m with
  | exc x r => exact absurd rfl (hx x r)
  | stuck => exact h
  | nx r => exact h
  | ret x r => exact h
  | bk r => exact h
  | ct r => exact h
theorem sns_tryAs (hs : X.stack = X.env :: X.outer) (hf : X.env.frame = some X.env.locals) (hN : X.N.Nodup) (hi : X.N[i]? = some n) (hln : X.env.kindOf n = some .local) (hc : Names X x c) (tk : Takes X W) (hz : z = true → i ≠ 0)
    (hb : ∀ (W' : WX) (pn : List (Addr × Obj)) (xe : Value → Shared → Prop), Takes (X.tr pn xe) W' → PassesOwn (model X.prog X.w) X.A X.env xe → SndSs (X.tr pn xe) W' z body sv)
    (ht : ∀ t b, tab.lookup t = some b → PySem.W.exmOne X.K (.ref (C t)) c = some b ∧ (b = true → XfC X.K (C t) ∧ PySem.W.findIn X.K (.ref (C t)) f = some none))
    (hh : SndH X z i f (b₀ :: suite) hd) :
    SndS X W z (.Try body [.ExceptHandler (some (.Name x np)) (some n) (b₀ :: suite) pos'] [] [] pos) (sTryAs C tab i f sv hd) := by
  intro Bs B Hs H s r D E q
  refine ⟨_, ps_try_as (i := i) (tb := fun W' D σ H => ∀ pn xe, Takes (X.tr pn xe) W' → PassesOwn (model X.prog X.w) X.A X.env xe → aSs (X.tr pn xe) body D σ H)
    (ts := fun a cls d D σ H => ∀ oe pn, Zc cls d oe → (∃ vs, oe.data = .fields vs) → aSs (X.suite a ((a, oe) :: pn)) (b₀ :: suite) D σ H) hs hf hN hi hln hc tk
    (fun W' pn xe t p => ⟨fun pins s σ H D I h => pss_all.run pins s σ H D I (h pn xe t p)⟩)
    (fun a oe cls d pn h1 h2 => ⟨fun pins s σ H D I h => pss_all.run pins s σ H D I (h oe pn h1 h2)⟩), ?_⟩
  intro pn xe t p
  refine hb _ pn xe t p Bs B Hs H s r D E ?_
  unfold sTryAs at q
  cases hm : sv r with
  | stuck => rw [hm] at q; exact q
  | nx r1 => rw [hm] at q; exact q
  | ret v1 r1 => rw [hm] at q; exact q
  | bk r1 => rw [hm] at q; exact q
  | ct r1 => rw [hm] at q; exact q
  | exc e r1 =>
    rw [hm] at q
    intro cls d s1 Hs1 H1 k1 e1 E1 hx
    obtain ⟨rfl, hx⟩ := hx
    simp only at q
    split at q
    case isFalse => exact False.elim q
    rename_i hcl
    split at q
    · rename_i hl
      obtain ⟨h1, h2⟩ := ht _ _ hl
      obtain ⟨hxf, hfi⟩ := h2 rfl
      rw [← hcl] at h1 hxf hfi
      refine ⟨true, h1, fun _ a ha oe pn' hzc hfs => ?_, fun z => nomatch z⟩
      split at q
      case h_2 => exact False.elim q
      rename_i g y hfl
      split at q
      case isFalse => exact False.elim q
      rename_i hg
      obtain ⟨rfl, hil⟩ := hg
      rw [hfl] at hx
      obtain ⟨dd, v, rfl, hdd, hv⟩ := hx
      have E2 := E1.unset i (some (.ref a))
      refine hh a _ dd oe pn' v y hzc hfs hxf hfi Bs B Hs1 H1 _ _ _ E2 hdd hv ?_ ?_
      · rw [List.getElem?_set, if_pos rfl, if_pos (by rw [E1.len]; exact hil)]
      · have q := PostS.on (k1.trans (Kz.set (i := i) (x := some (.ref a)) hz)) (PostS.mono e1 q)
        generalize hd y (r1.set i .un) = m at q
        cases m with
        | stuck => exact q
        | nx r2 => exact fun s2 Hs2 H2 k2 e2 E3 => q _ Hs2 H2 (k2.trans (Kz.set hz)) e2 (E3.unset i none)
        | bk r2 => exact fun s2 Hs2 H2 k2 e2 E3 => q _ Hs2 H2 (k2.trans (Kz.set hz)) e2 (E3.unset i none)
        | ct r2 => exact fun s2 Hs2 H2 k2 e2 E3 => q _ Hs2 H2 (k2.trans (Kz.set hz)) e2 (E3.unset i none)
        | ret v2 r2 => exact q
        | exc y2 r2 => exact False.elim q
    · rename_i hl
      obtain ⟨h1, _⟩ := ht _ _ hl
      rw [← hcl] at h1
      exact ⟨false, h1, (fun z => nomatch z), fun _ => q _ d s1 Hs1 H1 k1 e1 E1 ⟨rfl, hx⟩⟩
    · exact False.elim q
/-- any suite that e is not read in -/
theorem sndH_any {suite : List Stmt} (h : ∀ (a : Addr) (oe : Obj) (pn : List (Addr × Obj)), SndSs (X.suite a ((a, oe) :: pn)) WF z suite sv) : SndH X z i f suite fun _ => sv :=
  fun a cc dd oe pn v y _ _ _ _ Bs B Hs H s r D E _ _ _ q => h a oe pn Bs B Hs H s r D E q
/-- return [k, repr(e.f)] -/
def hRepr (k : Str) (F : List D → Option Rv) : D → Sv := fun y r => match F [y] with
  | some (.val (.str z)) => .ret (.new (.lst [.str k, .str z])) r
  | _ => .stuck
theorem sndH_repr {k : Str} {F : List D → Option Rv} {p1 p2 p3 p4 p5 p6 : Pos} {kk : Nat} (hi : X.N[i]? = some n) (hvis : Vis X.env.scope n) (hn : (n == ("__debug__" : Str)) = false) (hn2 : (n == ("__classdict__" : Str)) = false) (hg : Gl X "repr") (hm : X.mg "repr" = none)
    (ok : ∀ (a : Addr) (oe : Obj) (pn : List (Addr × Obj)), CallOk (X.suite a ((a, oe) :: pn)) (.builtin "repr") F) :
    SndH X z i f [.Return (some (.List [.Constant (.str k) kk p1, .Call (.Name "repr" p2) [.Attribute (.Name n p3) f p4] [] p5] p6)) pos] (hRepr k F) := by
  intro a cc dd oe pn v y hzc hfs hxf hfi Bs B Hs H s r D E hdd hv hs q
  have q := q
  unfold hRepr at q
  split at q
  case h_2 => exact False.elim q
  rename_i zz hz
  refine ⟨_, pss_cons (ps_ret (pe_lst (pa_cons pe_str (pa_cons (pe_callB cr_any' hg hm rfl (pa_cons (pe_xf (te := tVar i) hxf hfi hzc hfs (pe_var hi hvis hn hn2)) pa_nil)) pa_nil)))) pss_nil, ?_⟩
  refine ⟨.ref a, hs, rfl, rfl, dd, _, v, rfl, hdd, by simp [List.lookup], ?_⟩
  refine ok a oe pn Bs B Hs H s r [v] [y] _ _ E (.cons (.sh hv) .nil) hz fun u Hs' H' st ru => ?_
  have ru : Rp X.K Hs' u (.str zz) := ru
  cases ru
  refine ⟨by rw [sizeLine_eq]; exact (by decide : 2 ≤ 16777216), fun p hp => ?_⟩
  have E' := E.step st
  have pq : PrimQ X.K Bs B Hs' H' s r D.rt (.new (.lst [.str k, .str zz])) := fun v2 Hs2 H2 st2 rv2 => q v2 s Hs2 H2 (Kz.refl _) (st.sh.trans st2.sh) (E'.step st2) rv2
  exact pq.lst E' (.cons (.str _) (.cons (.str _) .nil)) hp
end
end Mp
set_option Elab.async false
set_option linter.all false
set_option maxRecDepth 100000
namespace Mp
open PySem PySem.Spec PyProof.Rows L2 Evl
/-! ### xs[:k:-1], xs a list -/
section
variable {X : Cx} {W : WX} {e : Expr}
theorem pick_all {A : Type} (L : List A) : (List.range L.length).filterMap (fun j => L[j]?) = L := by
  induction L with
  | nil => rfl
  | cons a L ih =>
    rw [List.length_cons, List.range_succ_eq_map, List.filterMap_cons]
    simp only [List.getElem?_cons_zero, List.filterMap_map]
    congr 1
theorem pick_by {A : Type} (L : List A) (m : Nat) (g : Nat → Option A) (hm : m = L.length) (h : ∀ j, j < m → g j = L[j]?) : (List.range m).filterMap g = L := by
  subst hm
  conv => rhs; rw [← pick_all L]
  have : ∀ l : List Nat, (∀ j ∈ l, j < L.length) → l.filterMap g = l.filterMap fun j => L[j]? := fun l hl => by
    induction l with
    | nil => rfl
    | cons a l ih => rw [List.filterMap_cons, List.filterMap_cons, h a (hl a List.mem_cons_self), ih fun j hj => hl j (List.mem_cons_of_mem _ hj)]
  exact this _ fun j hj => List.mem_range.mp hj
theorem pick_rev (its : List Value) (k : Nat) : slicePick its.toArray none (some (k : Int)) (some (-1)) = ((its.drop (k + 1)).reverse).toArray := by
  unfold slicePick sliceBounds sliceRange
  simp only [Option.getD_some, show ¬ ((-1 : Int) > 0) by decide, if_false, show ¬ ((k : Int) < 0) by omega, List.size_toArray]
  rw [List.filterMap_map]
  congr 1
  have hl : (its.drop (k + 1)).reverse.length = its.length - (k + 1) := by rw [List.length_reverse, List.length_drop]
  refine pick_by _ _ _ ?_ fun j hj => ?_
  · rw [hl]
    rw [show (- -1 : Int) = 1 by decide, Int.ediv_one]
    split <;> omega
  · have hj : j < its.length - (k + 1) := by
      rw [show (- -1 : Int) = 1 by decide, Int.ediv_one] at hj
      split at hj <;> omega
    rw [List.getElem?_reverse (by rw [List.length_drop]; exact hj), List.getElem?_drop, List.length_drop]
    show its.toArray[((its.length : Int) - 1 + -1 * (j : Int)).toNat]? = _
    rw [List.getElem?_toArray]
    congr 1
    omega
def dSlR (k : Nat) : D → Option Rv
  | .lst l => some (.new (.lst (l.drop (k + 1)).reverse))
  | _ => none
def tSlR (K : PySem.W.Frag) (k : Nat) (te : TE) : TE := fun σ H Q => te σ H fun x H1 => ∃ a xs, x = .ref a ∧ SqL K H1 a xs ∧ ∀ p, H1 p = none → Q (.ref p) (upd H1 p (.lst (xs.drop (k + 1)).reverse))
theorem pe_slR {te : TE} {k j1 j2 : Nat} {p0 p1 p2 p3 pos : Pos} (he : PE X e te) : PE X (.Subscript e (.Slice none (some (.Constant (.int k) j1 p0)) (some (.UnaryOp .USub (.Constant (.int 1) j2 p1) p2)) p3) pos) (tSlR X.K k te) := by
  refine ⟨fun pins s σ H Q I h => ?_⟩
  refine Subscript_ (thn (he.run pins s σ H _ I h) fun v s1 ⟨x, H1, I1, r1, q1⟩ => ?_)
  obtain ⟨a, xs, ex, hx, q⟩ := q1
  subst ex
  cases r1
  have hst : PO X (some (.UnaryOp .USub (.Constant (.int 1) j2 p1) p2)) (tPart (tUn (rU fun i => .int (-i)) (tC (.int 1)))) := po_some (pe_un un_neg pe_int)
  have hhi : PO X (some (.Constant (.int k) j1 p0)) (tPart (tC (.int k))) := po_some pe_int
  refine wpAny_Slice (thn (po_none.run pins s1 σ H1 (fun o H2 => o = none ∧ H2 = H1) I1 ⟨rfl, rfl⟩) fun vl s2 ⟨l, H2, I2, pl, el, e2⟩ => ?_)
  subst el e2
  refine thn (hhi.run pins s2 σ H2 (fun o H3 => o = some (k : Int) ∧ H3 = H2) I2 ⟨_, rfl, rfl, rfl⟩) fun vu s3 ⟨u, H3, I3, pu, eu, e3⟩ => ?_
  subst eu e3
  refine thn (hst.run pins s3 σ H3 (fun o H4 => o = some (-1) ∧ H4 = H3) I3 ⟨1, rfl, -1, rfl, rfl, rfl⟩) fun vs s4 ⟨o, H4, I4, ps, eo, e4⟩ => ?_
  subst eo e4
  have I5 : Inv X pins σ H4 { s4 with heap := s4.heap.push { cls := .type "slice", data := .fields #[vl, vu, vs] } } := I4.kept (t' := s4.toks) fun b ob q => Heap.get?_push_of_some _ q
  obtain ⟨its, r, ht, hz⟩ := I5.list hx
  have hlen := r.length
  show wpAny (model X.prog X.w) X.A (subscriptTail e (.Slice none (some (.Constant (.int k) j1 p0)) (some (.UnaryOp .USub (.Constant (.int 1) j2 p1) p2)) p3) (.ref a) (.ref s4.heap.objs.size)) (EP X pins σ Q) X.xe { s4 with heap := s4.heap.push { cls := .type "slice", data := .fields #[vl, vu, vs] } }
  refine tail_any (ops := [.ref a, .ref s4.heap.objs.size]) ht.isList.typeIs (PySem.slot_list_getitem.lookup) ?_ (by with_unfolding_all rfl)
  refine wpAny_getItem_list_slice ht.isList (Heap.IsSliceOf.new _ vl vu vs) pl pu ps (by decide) ?_ (by rw [List.size_toArray]; omega)
  rw [pick_rev]
  refine ⟨.ref _, _, I5.laid (t' := s4.toks) (o := .lst (xs.drop (k + 1)).reverse) (fun b ob q => Heap.get?_push_of_some _ q) (Nat.le_refl _) ?_, rfl, q _ (I5.hok.fresh (Nat.le_refl _))⟩
  exact ⟨by rw [List.length_reverse, List.length_drop]; omega, _, 0, (r.drop (k + 1)).reverse, Heap.get?_push_size _ rfl⟩
theorem RpAll.reverse {K : PySem.W.Frag} {H : Hp} : ∀ {vs : List V} {ds : List D}, RpAll K H vs ds → RpAll K H vs.reverse ds.reverse
  | _, _, .nil => .nil
  | _, _, .cons a b => by rw [List.reverse_cons, List.reverse_cons]; exact (RpAll.reverse b).append (.cons a .nil)
def eSlR (k : Nat) (oa : Ev Src) : Ev Rv := e1 (dSlR k) oa
theorem snd_slR {oa : Ev Src} {k j1 j2 : Nat} {p0 p1 p2 p3 pos : Pos} (ha : SndO X W e oa) : SndE X W (.Subscript e (.Slice none (some (.Constant (.int k) j1 p0)) (some (.UnaryOp .USub (.Constant (.int 1) j2 p1) p2)) p3) pos) (eSlR k oa) := fun Bs B Hs H s r Q E q =>
  ⟨_, pe_slR pe_all, ha _ _ _ _ _ _ _ E (PostE.bind q fun x r1 v Hs1 H1 _ x1 E1 ra q1 => by
    split at q1
    · rename_i d hd
      have o := Src.opd E1 ra hd
      split at q1
      · rename_i z hz
        unfold dSlR at hz
        split at hz
        · cases hz
          obtain ⟨p, vs, rfl, k1, k2⟩ := o.lst E1.sub
          exact ⟨p, vs, rfl, sq_of k1, fun q hq => (PostE.prim E1 q1).lst E1 (k2.drop _).reverse hq⟩
        · cases hz
      · exact False.elim q1
    · exact False.elim q1)⟩
/-! ### repr of an empty dict -/
def dReprE : List D → Option Rv
  | [.dK []] => vS "{}"
  | [.dT []] => vS "{}"
  | _ => none
theorem ok_reprE (hu0 : X.A.units + 200 < cLine) (hg : X.A.guards = some []) : CallOk X (.builtin "repr") dReprE := by
  intro Bs B Hs H s r vs ds y Q E h hd q
  have key : ∀ d, ds = [d] → (d = .dK [] ∨ d = .dT []) → y = .val (.str "{}") → ∃ rr, CallR X (.builtin "repr") rr ∧ rr vs H Q := by
    intro d hds hd' hy
    subst hds hy
    clear hd
    have hd := hd'
    obtain ⟨v, rfl, hh⟩ := h.one
    have rp := hh.rp E.sub
    have : ∃ a, v = .ref a ∧ (H a = some (.dK []) ∨ H a = some (.dT [])) := by
      rcases hd with rfl | rfl
      · cases rp with
        | @dK a kvs l h1 h2 h3 =>
          have : kvs = [] := by simpa using h2
          subst this
          exact ⟨a, rfl, .inl h1⟩
      · cases rp with
        | @dT a kvs l h1 h2 h3 =>
          have : kvs = [] := by simpa using h2
          subst this
          exact ⟨a, rfl, .inr h1⟩
    obtain ⟨a, rfl, ha⟩ := this
    refine ⟨fun vs' H0 Q0 => vs' = [.ref a] ∧ H0 = H ∧ Q0 (.str "{}") H0, ?_, rfl, rfl, q.val E (.str _)⟩
    intro pins sh σ H0 xs us Q0 I rv hq
    obtain ⟨rfl, rfl, hq⟩ := hq
    have hu := hu0
    cases rv with
    | cons ra rn =>
      cases rn
      cases ra
      have hr : Reads sh.heap (.ref a) (.dict []) [a] ∧ (a == sysModules) = false := by
        rcases ha with ha | ha
        · obtain ⟨_, hs, ws, kv, o, es, ep, e1, e2, e3, _, e5, _⟩ := dk_of I.hok ha
          cases kv
          have hes : es = #[] := by
            cases es with
            | mk l => cases l with
              | nil => rfl
              | cons b l => cases e5
          subst hes
          exact ⟨.dict (as := []) (bs := []) e1 e2.1 e3 .nil .nil, hs⟩
        · obtain ⟨_, hs, xs', kt, o, es, ep, e1, e2, e3, e4, _⟩ := (show ObjOk _ _ _ _ a (.dT []) from I.hok a _ ha)
          cases kt
          have hes : es = #[] := by
            cases es with
            | mk l => cases l with
              | nil => rfl
              | cons b l => cases e4
          subst hes
          exact ⟨.dict (as := []) (bs := []) e1 e2.1 e3 .nil .nil, hs⟩
      obtain ⟨rds, hs⟩ := hr
      exact repr_of_reads' rds rfl (fun _ hm => by
        rw [List.mem_singleton] at hm
        subst hm
        simp at hs) hg (by show X.A.units + (_ + 1) < cLine; simp [PyData.depth, PyData.depthKv]; omega) (fun b o e => e) (fun h' t tk hk => ⟨.str "{}", H0, I.kept hk, ⟨_, rfl⟩, hq⟩)
  unfold dReprE at hd
  split at hd
  · cases hd; exact key _ rfl (.inl rfl) rfl
  · cases hd; exact key _ rfl (.inr rfl) rfl
  · cases hd
end
end Mp
set_option Elab.async false
set_option linter.all false
set_option maxRecDepth 100000
namespace Mp
open PySem PySem.Spec PyProof.Rows L2 Evl
/-- an own exception class over ValueError (at any depth) whose __init__ is one row self.f = g -/
structure XInit (P : Program) (w : World) (K : PySem.W.Frag) (mg : Str → Option Value) (base : Heap) (x : Str) (C : Addr) (f : Str) : Prop where
  g : mg x = some (.ref C)
  T : OexC K C
  xf : XfC K C
  no : PySem.W.findIn K (.ref C) f = some none
  ini : ∃ fI fd ps, PySem.W.findIn K (.ref C) "__init__" = some (some (.ref fI)) ∧ PySem.W.typeIn K (.ref fI) = some (.type "function") ∧ FnOk P w K mg base (L2.CX P w) 1 fI fd ps (spX C f) ∧ Binds K fd ps []
theorem binds_of {K : PySem.W.Frag} {x qual : Str} {st : Stmt} {f : Addr} {fd : FuncData} {ps : List Str} (F : Fun K x qual st f fd)
    (h : ∀ (kV doc pm : Value) (an : Option Addr) (cdv ct : Value) (us : List Value), us.length = ps.length → bindArgs (PySem.W.fnOf x qual (defArgs st) (defBody st) (defScope st) .none kV doc pm an cdv ct) ⟨us, []⟩ = pure (ps.zip us)) : Binds K fd ps [] := by
  obtain ⟨oc, od, kV, doc, pm, an, cdv, ct, osl, rfl, lk, hcd⟩ := F.ex
  exact Binds.all fun us hl => h kV doc pm an cdv ct us hl
section
variable {X : Cx} {W : WX} {z : Bool} {e : Expr} {x f : Str} {p pos pos' : Pos} {C : Addr}
theorem sns_raiseI {tag : Nat} {ev : Ev Rv} (I : XInit X.prog X.w X.K X.mg X.base x C f) (hc : X.calm = true) (tk : Takes X W) (hr : Room 2 X.A) (hg : Gl X x) (h : SndE X W e ev) (hdb : (x == ("__debug__" : Str)) = false := by decide)
    (st : starEach [e] X.env = (false, eval e X.env) :: starEach [] X.env := by rfl) (pl : (backTo pos (starEach [] X.env)).any (·.1) = false := by rfl) :
    SndS X W z (.Raise (some (.Call (.Name x p) [e] [] pos)) none pos') (sRaiseX tag C f ev) := by
  obtain ⟨fI, fd, ps, h1, h2, h3, h4⟩ := I.ini
  exact sns_raiseX hc tk I.T h1 h2 h3 hr h4 hg I.g h hdb st pl
end
/-- which classes a clause takes -/
def TabOk (K : PySem.W.Frag) (C : Nat → Addr) (c : Value) (f : Str) (tab : List (Nat × Bool)) : Prop :=
  ∀ t b, tab.lookup t = some b → PySem.W.exmOne K (.ref (C t)) c = some b ∧ (b = true → XfC K (C t) ∧ PySem.W.findIn K (.ref (C t)) f = some none)
theorem tab_nil {K : PySem.W.Frag} {C : Nat → Addr} {c : Value} {f : Str} : TabOk K C c f [] := fun t b h => nomatch h
theorem tab_cons {K : PySem.W.Frag} {C : Nat → Addr} {c : Value} {f : Str} {tab : List (Nat × Bool)} {k : Nat} {b0 : Bool} (h1 : PySem.W.exmOne K (.ref (C k)) c = some b0) (h2 : b0 = true → XfC K (C k) ∧ PySem.W.findIn K (.ref (C k)) f = some none) (r : TabOk K C c f tab) : TabOk K C c f ((k, b0) :: tab) := fun t b h => by
  rw [List.lookup_cons] at h
  split at h
  · rename_i e
    have e := eq_of_beq e
    subst e
    cases h
    exact ⟨h1, h2⟩
  · exact r t b h
theorem oex_mk {K : PySem.W.Frag} {C : Addr} {nm q : Str} {N : Addr} {bs bm : List Value} {sn : List Str} {sub : List Value} {ab : Bool} {col : Option Bool} {dd : Option Addr} {k0 k1 k2 k3 k5 : Option Value}
    (h : K.lookup C = some (excClassObj nm q C N bs bm true sn sub ab col dd k0 k1 k2 k3 k5 "ValueError.__new__")) (hb : PySem.HandSPX.refsVE bm = true) (sa : PySem.W.findIn K (.ref C) "__setattr__" = some (some (.builtin "object.__setattr__")))
    (ex : PySem.W.subIn K (.ref C) (.type "BaseException") = some true) (ty : PySem.W.typeIn K (.ref C) = some (.type "type")) (kC : PySem.W.keepIn K (.ref C) = true) : OexC K C := ⟨⟨_, _, _, _, _, _, _, _, _, _, _, _, _, _, _, h, hb⟩, sa, ex, ty, kC⟩
end Mp
set_option Elab.async false
set_option linter.all false
set_option maxRecDepth 100000
namespace Mp
open PySem PySem.Spec PyProof.Rows L2 Evl
section
variable {X : Cx} {W : WX} {a b c d : Expr} {ta tb tc td : TE} {pos : Pos} {op op' op2 : CmpOp}
/-! ### a op1 b op2 c op3 d -/
def tChain4 (r r' r2 : R2) (ta tb tc td : TE) : TE := fun σ H Q => ta σ H fun x H1 => tb σ H1 fun y H2 => r x y H2 fun z H3 => ∃ k, z = .bl k ∧
  (if k = true then tc σ H3 fun w H4 => r' y w H4 fun z H5 => ∃ k, z = .bl k ∧ (if k = true then td σ H5 fun w' H6 => r2 w w' H6 Q else Q (.bl false) H5) else Q (.bl false) H3)
theorem pe_chain4 {r r' r2 : R2} (ho : OpR X (compareOp op) r) (ho' : OpR X (compareOp op') r') (ho2 : OpR X (compareOp op2) r2) (ha : PE X a ta) (hb : PE X b tb) (hc : PE X c tc) (hd : PE X d td)
    (hm : lastMarks [op, op', op2] [b, c, d] = false := by with_unfolding_all rfl) : PE X (.Compare a [op, op', op2] [b, c, d] pos) (tChain4 r r' r2 ta tb tc td) := by
  refine ⟨fun pins s σ H Q I h => ?_⟩
  refine Compare_chain (thn (ha.run pins s σ H _ I h) fun v s1 ⟨x, H1, I1, r1, q1⟩ => chain_link (thn (hb.run pins s1 σ H1 _ I1 q1) fun u s2 ⟨y, H2, I2, r2, q2⟩ =>
    thn (ho pins s2 σ H2 x y v u _ I2 r1 r2 q2) fun e s3 ⟨z, H3, I3, r3, k, e, q3⟩ => ?_)) hm
  subst e
  cases r3
  refine wpAny_truthy_bool ?_
  cases k with
  | false => exact ite_ff ⟨.bl false, H3, I3, rfl, q3⟩
  | true =>
    refine ite_tt (chain_link (thn (hc.run pins s3 σ H3 _ I3 q3) fun w' s4 ⟨z', H4, I4, r4, q4⟩ => thn (ho' pins s4 σ H4 y z' u w' _ I4 r2 r4 q4) fun e s5 ⟨z, H5, I5, r5, k, e, q5⟩ => ?_))
    subst e
    cases r5
    refine wpAny_truthy_bool ?_
    cases k with
    | false => exact ite_ff ⟨.bl false, H5, I5, rfl, q5⟩
    | true => exact ite_tt (chain_last (thn (hd.run pins s5 σ H5 _ I5 q5) fun w2 s6 ⟨z2, H6, I6, r6, q6⟩ => ho2 pins s6 σ H6 z' z2 w' w2 Q I6 r4 r6 q6))
theorem pt_chain4 {r r' r2 : R2} (ho : OpR X (compareOp op) r) (ho' : OpR X (compareOp op') r') (ho2 : OpR X (compareOp op2) r2) (ha : PE X a ta) (hb : PE X b tb) (hc : PE X c tc) (hd : PE X d td)
    (hm : lastMarks [op, op', op2] [b, c, d] = false := by with_unfolding_all rfl) : PT X (.Compare a [op, op', op2] [b, c, d] pos) (tTest (tChain4 r r' r2 ta tb tc td)) := by
  refine ⟨fun pins s σ H Q I h => ?_⟩
  refine isTrue_chain (thn (ha.run pins s σ H _ I h) fun v s1 ⟨x, H1, I1, r1, q1⟩ => test_link (thn (hb.run pins s1 σ H1 _ I1 q1) fun u s2 ⟨y, H2, I2, r2, q2⟩ =>
    thn (ho pins s2 σ H2 x y v u _ I2 r1 r2 q2) fun e s3 ⟨z, H3, I3, r3, k, e, q3⟩ => ?_)) hm
  subst e
  cases r3
  refine wpAny_truthy_bool ?_
  cases k with
  | false =>
    obtain ⟨k', e', q'⟩ := q3
    cases e'
    exact ite_ff ⟨H3, I3, q'⟩
  | true =>
    refine ite_tt (test_link (thn (hc.run pins s3 σ H3 _ I3 q3) fun w' s4 ⟨z', H4, I4, r4, q4⟩ => thn (ho' pins s4 σ H4 y z' u w' _ I4 r2 r4 q4) fun e s5 ⟨z, H5, I5, r5, k, e, q5⟩ => ?_))
    subst e
    cases r5
    refine wpAny_truthy_bool ?_
    cases k with
    | false =>
      obtain ⟨k', e', q'⟩ := q5
      cases e'
      exact ite_ff ⟨H5, I5, q'⟩
    | true =>
      refine ite_tt (test_last (thn (hd.run pins s5 σ H5 _ I5 q5) fun w2 s6 ⟨z2, H6, I6, r6, q6⟩ => thn (ho2 pins s6 σ H6 z' z2 w' w2 _ I6 r4 r6 q6) fun e s7 ⟨z, H7, I7, r7, k', e', q'⟩ => ?_))
      subst e'
      cases r7
      exact wpAny_truthy_bool ⟨H7, I7, q'⟩
def e4 (f g h : D → D → Option Rv) (oa ob oc od : Ev Src) : Ev Rv := fun r => (oa r).bind fun x r1 => (ob r1).bind fun y r2 => (two f x y r2).bind fun z r3 => match z with
  | .val (.bl true) => (oc r3).bind fun w r4 => (two g y w r4).bind fun z r5 => (match z with
    | .val (.bl true) => (od r5).bind fun v r6 => two h w v r6
    | .val (.bl false) => .ok (.val (.bl false)) r5
    | _ => .stuck)
  | .val (.bl false) => .ok (.val (.bl false)) r3
  | _ => .stuck
theorem chain4_core {f g h : D → D → Option Rv} {oa ob oc od : Ev Src} (ok : OpOk X (compareOp op) f) (ok' : OpOk X (compareOp op') g) (ok2 : OpOk X (compareOp op2) h) (ha : SndO X W a oa) (hb : SndO X W b ob) (hc : SndO X W c oc) (hd : SndO X W d od)
    {Bs B Hs H : Hp} {s : L2.St} {r : Rho} {Q : VK} (E : EnvOk X.K Bs B Hs H s r) (q : PostE X.K W Bs B Hs s (relR X.K B s) Q (e4 f g h oa ob oc od r)) :
    tChain4 (rAny X (compareOp op)) (rAny X (compareOp op')) (rAny X (compareOp op2)) (aE X a) (aE X b) (aE X c) (aE X d) s H Q :=
  ha _ _ _ _ _ _ _ E (PostE.bind q fun x r1 v Hs1 H1 _ x1 E1 ra q1 => hb _ _ _ _ _ _ _ E1 (PostE.bind q1 fun y r2 u Hs2 H2 _ x2 E2 rb q2 => two_ok (W := W) ok E2 (ra.mono x2) rb (PostE.bind q2 fun z r3 w Hs3 H3 _ x3 E3 rz q3 => by
    split at q3
    · cases (show Rp X.K Hs3 w (.bl true) from rz)
      refine ⟨true, rfl, ?_⟩
      rw [if_pos rfl]
      exact hc _ _ _ _ _ _ _ E3 (PostE.bind q3 fun k r4 w' Hs4 H4 _ x4 E4 rk q4 => two_ok (W := W) ok' E4 (rb.mono (x3.trans x4)) rk (PostE.bind q4 fun z r5 w5 Hs5 H5 _ x5 E5 rz5 q5 => by
        split at q5
        · cases (show Rp X.K Hs5 w5 (.bl true) from rz5)
          refine ⟨true, rfl, ?_⟩
          rw [if_pos rfl]
          exact hd _ _ _ _ _ _ _ E5 (PostE.bind q5 fun k6 r6 w6 Hs6 H6 _ x6 E6 rk6 q6 => two_ok ok2 E6 (rk.mono (x5.trans x6)) rk6 q6)
        · cases (show Rp X.K Hs5 w5 (.bl false) from rz5)
          refine ⟨false, rfl, ?_⟩
          rw [if_neg Bool.false_ne_true]
          exact q5.ok E5 (.bl _)
        · exact False.elim q5))
    · cases (show Rp X.K Hs3 w (.bl false) from rz)
      refine ⟨false, rfl, ?_⟩
      rw [if_neg Bool.false_ne_true]
      exact q3.ok E3 (.bl _)
    · exact False.elim q3)))
theorem snd_chain4 {f g h : D → D → Option Rv} {oa ob oc od : Ev Src} (ok : OpOk X (compareOp op) f) (ok' : OpOk X (compareOp op') g) (ok2 : OpOk X (compareOp op2) h) (ha : SndO X W a oa) (hb : SndO X W b ob) (hc : SndO X W c oc) (hd : SndO X W d od)
    (hm : lastMarks [op, op', op2] [b, c, d] = false := by with_unfolding_all rfl) : SndE X W (.Compare a [op, op', op2] [b, c, d] pos) (e4 f g h oa ob oc od) := fun Bs B Hs H s r Q E q => ⟨_, pe_chain4 op_any op_any op_any pe_all pe_all pe_all pe_all hm, chain4_core ok ok' ok2 ha hb hc hd E q⟩
theorem snt_chain4 {f g h : D → D → Option Rv} {oa ob oc od : Ev Src} (ok : OpOk X (compareOp op) f) (ok' : OpOk X (compareOp op') g) (ok2 : OpOk X (compareOp op2) h) (ha : SndO X W a oa) (hb : SndO X W b ob) (hc : SndO X W c oc) (hd : SndO X W d od)
    (hm : lastMarks [op, op', op2] [b, c, d] = false := by with_unfolding_all rfl) : SndT X W (.Compare a [op, op', op2] [b, c, d] pos) (tv (e4 f g h oa ob oc od)) := fun Bs B Hs H s r Q E q =>
  ⟨_, pt_chain4 op_any op_any op_any pe_all pe_all pe_all pe_all hm, chain4_core ok ok' ok2 ha hb hc hd E (tv_post (m := e4 f g h oa ob oc od r) q)⟩
theorem cok_reprs (R : Rm X) (hg : X.A.guards = some []) : CallOk X (.builtin "repr") (dOr dRepr dReprE) := cok_or2 (ok_reprU R.un hg) (ok_reprE R.un hg)
/-- repr within an except suite -/
theorem cok_suite (R : Rm X) (hg : X.A.guards = some []) : ∀ (a : Addr) (oe : Obj) (pn : List (Addr × Obj)), CallOk (X.suite a ((a, oe) :: pn)) (.builtin "repr") (dOr dRepr dReprE) := fun a oe pn =>
  cok_or2 (ok_reprU (X := X.suite a ((a, oe) :: pn)) R.un hg) (ok_reprE (X := X.suite a ((a, oe) :: pn)) R.un hg)
end
end Mp
set_option Elab.async false
set_option linter.all false
set_option maxRecDepth 100000
namespace Mp
open PySem PySem.Spec PyProof.Rows L2 Evl
/-! ### the forms, applied -/
/-! what follows a part, by name, so that nothing is looked at before its turn -/
def kE2 (f : D → D → Option Rv) (ob : Ev Src) (x : Src) (r1 : Rho) : EO Rv := (ob r1).bind fun y r2 => two f x y r2
def kE3c (f2 : D → D → Option Rv) (oc : Ev Src) (y : Src) (z : Rv) (r3 : Rho) : EO Rv := match z with
  | .val (.bl true) => (oc r3).bind fun w r4 => two f2 y w r4
  | .val (.bl false) => .ok (.val (.bl false)) r3
  | _ => .stuck
def kE3b (f f2 : D → D → Option Rv) (oc : Ev Src) (x y : Src) (r2 : Rho) : EO Rv := (two f x y r2).bind (kE3c f2 oc y)
def kE3 (f f2 : D → D → Option Rv) (ob oc : Ev Src) (x : Src) (r1 : Rho) : EO Rv := (ob r1).bind (kE3b f f2 oc x)
def kAnd (tb : Ev Bool) (k : Bool) (r1 : Rho) : EO Bool := if k then tb r1 else .ok false r1
def kOr (tb : Ev Bool) (k : Bool) (r1 : Rho) : EO Bool := if k then .ok true r1 else tb r1
def kEAnd (eb : Ev Rv) (x : Rv) (r1 : Rho) : EO Rv := match x with | .val (.bl true) => eb r1 | .val (.bl false) => .ok (.val (.bl false)) r1 | _ => .stuck
def kEOr (eb : Ev Rv) (x : Rv) (r1 : Rho) : EO Rv := match x with | .val (.bl true) => .ok (.val (.bl true)) r1 | .val (.bl false) => eb r1 | _ => .stuck
def kEIf (ea eb : Ev Rv) (k : Bool) (r1 : Rho) : EO Rv := if k then ea r1 else eb r1
def kSIf (sa sb : Sv) (k : Bool) (r1 : Rho) : SO := if k then sa r1 else sb r1
def kA (as : Ev (List Src)) (x : Src) (r1 : Rho) : EO (List Src) := (as r1).bind fun xs r2 => .ok (x :: xs) r2
def kV (va : Ev (List D)) (x : Rv) (r1 : Rho) : EO (List D) := (va r1).bind fun xs r2 => .ok (x.data :: xs) r2
def kVS (va : Ev (List D)) (x : Rv) (r1 : Rho) : EO (List D) := match x.data with
  | .lst l => (va r1).bind fun xs r2 => .ok (l ++ xs) r2
  | .tup l => (va r1).bind fun xs r2 => .ok (l ++ xs) r2
  | _ => .stuck
def kL (la : Ev (List Rv)) (x : Rv) (r1 : Rho) : EO (List Rv) := (la r1).bind fun xs r2 => .ok (x :: xs) r2
def kSl3 (x : Src) (lo hi : Option Int) (r3 : Rho) : EO Rv := match x.rd r3 with | some d => (match dSl d lo hi with | some z => .ok z r3 | none => .stuck) | none => .stuck
def kSl2 (h : Ev (Option Int)) (x : Src) (lo : Option Int) (r2 : Rho) : EO Rv := (h r2).bind (kSl3 x lo)
def kSl (l h : Ev (Option Int)) (x : Src) (r1 : Rho) : EO Rv := (l r1).bind (kSl2 h x)
def kCall2 (F : List D → FO) (is : List Nat) (ds es : List D) (r2 : Rho) : EO Rv := ofFO (F (sel is (ds ++ es))) r2
def kCall (F : List D → FO) (is : List Nat) (vk : Ev (List D)) (ds : List D) (r1 : Rho) : EO Rv := (vk r1).bind (kCall2 F is ds)
def kMake2 (C : Addr) (FM : Own → List D → FO × Own) (is : List Nat) (ds es : List D) (r2 : Rho) : EO Rv := match FM (.ins C []) (sel is (ds ++ es)) with | (.val .non, o) => .ok (.new o) r2 | (.exc z, _) => .exc z r2 | _ => .stuck
def kMake (C : Addr) (FM : Own → List D → FO × Own) (is : List Nat) (vk : Ev (List D)) (ds : List D) (r1 : Rho) : EO Rv := (vk r1).bind (kMake2 C FM is ds)
def kMeth3 (F : List D → FO) (is : List Nat) (o : D) (ds es : List D) (r3 : Rho) : EO Rv := ofFO (F (sel is ((o :: ds) ++ es))) r3
def kMeth2 (F : List D → FO) (is : List Nat) (vk : Ev (List D)) (o : D) (ds : List D) (r2 : Rho) : EO Rv := (vk r2).bind (kMeth3 F is o ds)
def kMeth (C : Addr) (m : Str) (F : List D → FO) (is : List Nat) (va vk : Ev (List D)) (x : Rv) (r1 : Rho) : EO Rv := match x.data with
  | .ins C' l => if C' = C ∧ l.lookup m = none then (va r1).bind (kMeth2 F is vk (.ins C' l)) else .stuck
  | _ => .stuck
def kMt2 (fm : D → List D → Option Rv) (x : Src) (ys : List Src) (r2 : Rho) : EO Rv := match x.rd r2, rdAll r2 ys with
    | some d, some ds => (match fm d ds with | some z => .ok z r2 | none => .stuck)
    | _, _ => .stuck
def kMt (T : String) (fm : D → List D → Option Rv) (as : Ev (List Src)) (x : Src) (r1 : Rho) : EO Rv := match x.rd r1 with
  | some d1 => if tyD d1 = T then (as r1).bind (kMt2 fm x) else .stuck
  | none => .stuck
def kR2 (ob : Ev Src) (x : Src) (r : Rho) : EO (List D) := (ob r).bind fun y r => match x.rd r, y.rd r with | some (.int i), some (.int j) => if okR i && okR j then .ok (rangeD i (j - i).toNat) r else .stuck | _, _ => .stuck
section
variable {A B : Type} {a : A} {r : Rho} {x : Exn} {f : A → Rho → EO B} {fs : A → Rho → SO} {fn : Rho → SO}
theorem b_ok : (EO.ok a r).bind f = f a r := rfl
theorem b_stk : (EO.stuck : EO A).bind f = .stuck := rfl
theorem b_exc : (EO.exc x r : EO A).bind f = .exc x r := rfl
theorem s_ok : (EO.ok a r).toS fs = fs a r := rfl
theorem s_stk : (EO.stuck : EO A).toS fs = .stuck := rfl
theorem s_exc : (EO.exc x r : EO A).toS fs = .exc x r := rfl
theorem t_nx : (SO.nx r).then fn = fn r := rfl
theorem t_ret {v : Rv} : (SO.ret v r).then fn = .ret v r := rfl
theorem t_bk : (SO.bk r).then fn = .bk r := rfl
theorem t_ct : (SO.ct r).then fn = .ct r := rfl
theorem t_exc : (SO.exc x r).then fn = .exc x r := rfl
theorem t_stk : (SO.stuck).then fn = .stuck := rfl
end
section
variable {r : Rho} {d : D} {i j : Nat} {ev ea eb ek : Ev Rv} {oa ob oc : Ev Src} {as : Ev (List Src)} {va vk : Ev (List D)} {la : Ev (List Rv)} {ta tb t tc : Ev Bool} {sa sb body : Sv} {g : Tg} {it : Ev (List D)} {C : Addr} {F : List D → FO} {FM : Own → List D → FO × Own} {is vs : List Nat} {f f2 : D → D → Option Rv} {fl : List D → Option Rv} {f1 : D → Option Rv} {l : Ev (Option Int)} {h : Ev (Option Int)} {m : Str} {T : String} {fm : D → List D → Option Rv} {x y : Src}
theorem a_sNil : sNil r = .nx r := rfl
theorem a_sStk : sStk r = .stuck := rfl
theorem a_sCons : sCons sa sb r = (sa r).then sb := rfl
theorem a_sRet : sRet ev r = (ev r).toS fun x r => .ret x r := rfl
theorem a_sRetN : sRetN r = .ret (.val .non) r := rfl
theorem a_sDrop : sDrop ev r = (ev r).toS fun _ r => .nx r := rfl
theorem a_sSet : sSet i ev r = (ev r).toS fun x r => .nx (r.set i (cellOf x)) := rfl
theorem a_sIf : sIf t sa sb r = (t r).toS (kSIf sa sb) := rfl
theorem k_sif1 : kSIf sa sb true r = sa r := rfl
theorem k_sif0 : kSIf sa sb false r = sb r := rfl
theorem a_sFor : sFor it g body r = (it r).toS fun ds r => forL g body ds r := rfl
theorem a_sTgt : sTgt g ev r = (ev r).toS fun x r => match g x.data r with | some r' => .nx r' | none => .stuck := rfl
theorem a_sPar : sPar is la r = (la r).toS fun xs r => if xs.length = is.length then .nx ((is.zip xs).foldl (fun r p => r.set p.1 (cellOf p.2)) r) else .stuck := rfl
theorem a_eC : eC d r = .ok (.val d) r := rfl
theorem a_oC : oC d r = .ok (.dat d) r := rfl
theorem a_oE : oE ev r = (ev r).bind fun x r => .ok (.dat x.data) r := rfl
theorem a_e1 : e1 f1 oa r = (oa r).bind fun x r1 => match x.rd r1 with | some d => (match f1 d with | some z => .ok z r1 | none => .stuck) | none => .stuck := rfl
theorem a_e2 : e2 f oa ob r = (oa r).bind (kE2 f ob) := rfl
theorem k_e2 : kE2 f ob x r = (ob r).bind fun y r2 => two f x y r2 := rfl
theorem a_e3 : e3 f f2 oa ob oc r = (oa r).bind (kE3 f f2 ob oc) := rfl
theorem k_e3 : kE3 f f2 ob oc x r = (ob r).bind (kE3b f f2 oc x) := rfl
theorem k_e3b : kE3b f f2 oc x y r = (two f x y r).bind (kE3c f2 oc y) := rfl
theorem k_e3t : kE3c f2 oc y (.val (.bl true)) r = (oc r).bind fun w r4 => two f2 y w r4 := rfl
theorem k_e3f : kE3c f2 oc y (.val (.bl false)) r = .ok (.val (.bl false)) r := rfl
theorem a_tv : tv ev r = (ev r).bind fun x r => match x with | .val (.bl c) => .ok c r | _ => .stuck := rfl
theorem a_tTr : tTr oa r = (oa r).bind fun x r1 => match x.rd r1 with | some d => (match truD d with | some k => .ok k r1 | none => .stuck) | none => .stuck := rfl
theorem a_tTrO : tTrO C F oa r = (oa r).bind fun x r1 => match x.rd r1 with | some d => (match dBool C F d with | some k => .ok k r1 | none => .stuck) | none => .stuck := rfl
theorem a_tAnd : tAndE ta tb r = (ta r).bind (kAnd tb) := rfl
theorem k_and1 : kAnd tb true r = tb r := rfl
theorem k_and0 : kAnd tb false r = .ok false r := rfl
theorem a_tOr : tOrE ta tb r = (ta r).bind (kOr tb) := rfl
theorem k_or1 : kOr tb true r = .ok true r := rfl
theorem k_or0 : kOr tb false r = tb r := rfl
theorem a_tNot : tNotE ta r = (ta r).bind fun k r1 => .ok (!k) r1 := rfl
theorem a_tT : tT r = .ok true r := rfl
theorem a_eAnd : eAnd ea eb r = (ea r).bind (kEAnd eb) := rfl
theorem k_eand1 : kEAnd eb (.val (.bl true)) r = eb r := rfl
theorem k_eand0 : kEAnd eb (.val (.bl false)) r = .ok (.val (.bl false)) r := rfl
theorem a_eOr : eOr ea eb r = (ea r).bind (kEOr eb) := rfl
theorem k_eor1 : kEOr eb (.val (.bl true)) r = .ok (.val (.bl true)) r := rfl
theorem k_eor0 : kEOr eb (.val (.bl false)) r = eb r := rfl
theorem a_eNot : eNot ea r = (ea r).bind fun x r1 => match x with | .val (.bl k) => .ok (.val (.bl (!k))) r1 | _ => .stuck := rfl
theorem a_eIf : eIf tc ea eb r = (tc r).bind (kEIf ea eb) := rfl
theorem k_eif1 : kEIf ea eb true r = ea r := rfl
theorem k_eif0 : kEIf ea eb false r = eb r := rfl
theorem a_eIx : eIx oa ob r = e2 (fun d i => (dIx d i).map .val) oa ob r := rfl
theorem a_eCB : eCB fl as r = (as r).bind fun xs r1 => match rdAll r1 xs with | some ds => (match fl ds with | some z => .ok z r1 | none => .stuck) | none => .stuck := rfl
theorem a_aNil : aNil r = .ok [] r := rfl
theorem a_aCons : aCons oa as r = (oa r).bind (kA as) := rfl
theorem k_a : kA as x r = (as r).bind fun xs r2 => .ok (x :: xs) r2 := rfl
theorem a_vNil : vNil r = .ok [] r := rfl
theorem a_vCons : vCons ea va r = (ea r).bind (kV va) := rfl
theorem k_v {z : Rv} : kV va z r = (va r).bind fun xs r2 => .ok (z.data :: xs) r2 := rfl
theorem a_vStar : vStar ea va r = (ea r).bind (kVS va) := rfl
theorem k_vs1 {q : List D} : kVS va (.new (.lst q)) r = (va r).bind fun xs r2 => .ok (q ++ xs) r2 := rfl
theorem k_vs2 {q : List D} : kVS va (.val (.tup q)) r = (va r).bind fun xs r2 => .ok (q ++ xs) r2 := rfl
theorem k_vs3 {q : List D} : kVS va (.val (.lst q)) r = (va r).bind fun xs r2 => .ok (q ++ xs) r2 := rfl
theorem a_lNil : lNil r = .ok [] r := rfl
theorem a_lCons : lCons ea la r = (ea r).bind (kL la) := rfl
theorem k_l {z : Rv} : kL la z r = (la r).bind fun xs r2 => .ok (z :: xs) r2 := rfl
theorem a_eTup : eTup va r = (va r).bind fun ds r1 => if ds.length ≤ sizeLine then .ok (.val (.tup ds)) r1 else .stuck := rfl
theorem a_eLst : eLst va r = (va r).bind fun ds r1 => if ds.length ≤ sizeLine then .ok (.new (.lst ds)) r1 else .stuck := rfl
theorem a_pNone : pNone r = .ok none r := rfl
theorem a_pSome : pSome oa r = (oa r).bind fun x r1 => match x.rd r1 with | some (.int i) => .ok (some i) r1 | _ => .stuck := rfl
theorem a_eSl : eSl oa l h r = (oa r).bind (kSl l h) := rfl
theorem k_sl : kSl l h x r = (l r).bind (kSl2 h x) := rfl
theorem k_sl2 {lo : Option Int} : kSl2 h x lo r = (h r).bind (kSl3 x lo) := rfl
theorem k_sl3 {lo hi : Option Int} : kSl3 x lo hi r = match x.rd r with | some d => (match dSl d lo hi with | some z => .ok z r | none => .stuck) | none => .stuck := rfl
theorem a_eCall : eCall F is va vk r = (va r).bind (kCall F is vk) := rfl
theorem k_call {ds : List D} : kCall F is vk ds r = (vk r).bind (kCall2 F is ds) := rfl
theorem k_call2 {ds es : List D} : kCall2 F is ds es r = ofFO (F (sel is (ds ++ es))) r := rfl
theorem a_eMut1 : eMut1 FM ev r = (ev r).bind fun x r1 => match x with | .new o => ofFO (FM o []).1 r1 | _ => .stuck := rfl
theorem a_eMake : eMake C FM is va vk r = (va r).bind (kMake C FM is vk) := rfl
theorem k_make {ds : List D} : kMake C FM is vk ds r = (vk r).bind (kMake2 C FM is ds) := rfl
theorem k_make2 {ds es : List D} : kMake2 C FM is ds es r = match FM (.ins C []) (sel is (ds ++ es)) with | (.val .non, o) => .ok (.new o) r | (.exc z, _) => .exc z r | _ => .stuck := rfl
theorem a_eMeth : eMeth C m F is ev va vk r = (ev r).bind (kMeth C m F is va vk) := rfl
theorem k_meth {z : Rv} : kMeth C m F is va vk z r = match z.data with | .ins C' l => if C' = C ∧ l.lookup m = none then (va r).bind (kMeth2 F is vk (.ins C' l)) else .stuck | _ => .stuck := rfl
theorem k_meth2 {o : D} {ds : List D} : kMeth2 F is vk o ds r = (vk r).bind (kMeth3 F is o ds) := rfl
theorem k_meth3 {o : D} {ds es : List D} : kMeth3 F is o ds es r = ofFO (F (sel is ((o :: ds) ++ es))) r := rfl
theorem a_eProp : eProp C F ev r = (ev r).bind fun x r1 => match x.data with | .ins C' l => if C' = C then ofFO0 (F [.ins C' l]) r1 else .stuck | _ => .stuck := rfl
theorem a_eMt : eMt T fm oa as r = (oa r).bind (kMt T fm as) := rfl
theorem k_mt : kMt T fm as x r = match x.rd r with | some d1 => if tyD d1 = T then (as r).bind (kMt2 fm x) else .stuck | none => .stuck := rfl
theorem k_mt2 {ys : List Src} : kMt2 fm x ys r = match x.rd r, rdAll r ys with | some d, some ds => (match fm d ds with | some z => .ok z r | none => .stuck) | _, _ => .stuck := rfl
theorem a_eDT : eDT r = .ok (.new (.dT [])) r := rfl
theorem a_iSeq : iSeq ev r = (ev r).bind fun x r => match x.data with | .lst ds => .ok ds r | .tup ds => .ok ds r | .str z => .ok (signs z) r | _ => .stuck := rfl
theorem a_iEn : iEn ev r = (ev r).bind fun x r => match x.data with | .lst ds => .ok (enumD ds) r | .tup ds => .ok (enumD ds) r | _ => .stuck := rfl
theorem a_iRange1 : iRange1 oa r = (oa r).bind fun x r => match x.rd r with | some (.int j) => if okR j then .ok (rangeD 0 j.toNat) r else .stuck | _ => .stuck := rfl
theorem a_iRange2 : iRange2 oa ob r = (oa r).bind (kR2 ob) := rfl
theorem k_r2 : kR2 ob x r = (ob r).bind fun y r => match x.rd r, y.rd r with | some (.int i), some (.int j) => if okR i && okR j then .ok (rangeD i (j - i).toNat) r else .stuck | _, _ => .stuck := rfl
theorem a_eComp : eComp it g t ev vs r = (it r).bind fun ds r1 => if ds.length ≤ sizeLine then (match lcL g t ev vs ds (wipeR r1 vs) with | .ok l r2 => .ok (.new (.lst l)) (restore r1 r2 vs) | _ => .stuck) else .stuck := rfl
theorem a_eDc : eDc it g t ek ev vs r = (it r).bind fun ds r1 => if ds.length ≤ sizeLine then (match dcL g t ek ev vs ds [] (wipeR r1 vs) with | .ok l r2 => .ok (.new (.dT l)) (restore r1 r2 vs) | _ => .stuck) else .stuck := rfl
theorem a_two : two f x y r = match x.rd r, y.rd r with | some d, some e => (match f d e with | some z => .ok z r | none => .stuck) | _, _ => .stuck := rfl
theorem a_oN : oN i r = match r[i]? with | some (.val d) => .ok (.dat d) r | some (.own _) => .ok (.slot i) r | _ => .stuck := rfl
theorem a_eN : eN i r = match r[i]? with | some (.val d) => .ok (.val d) r | some (.own o) => .ok (.val o.data) (r.set i (.val o.data)) | _ => .stuck := rfl
theorem a_rdS : (Src.slot i).rd r = match r[i]? with | some (.own o) => some o.data | some (.val d) => some d | _ => none := rfl
theorem a_eMut : eMut i FM va r = match r[i]? with
  | some (.own _) => (va r).bind fun ds r1 => (match r1[i]? with
    | some (.own o) => ofFO (FM o ds).1 (r1.set i (.own (FM o ds).2))
    | _ => .stuck)
  | _ => .stuck := rfl
theorem a_eApp : eApp i ev r = match r[i]? with
  | some (.own (.lst _)) => (ev r).bind fun x r1 => (match r1[i]? with
    | some (.own (.lst l)) => if l.length < sizeLine then .ok (.val .non) (r1.set i (.own (.lst (l ++ [x.data])))) else .stuck
    | _ => .stuck)
  | _ => .stuck := rfl
theorem a_sSetIx : sSetIx i ev oa r = (ev r).toS fun x r1 => match r1[i]? with
  | some (.own _) => (oa r1).toS fun y r2 => (match r2[i]?, y.rd r2 with
    | some (.own (.lst l)), some (.int k) => (match ixN l.length k with
      | some j => .nx (r2.set i (.own (.lst (l.set j x.data))))
      | none => .stuck)
    | _, _ => .stuck)
  | _ => .stuck := rfl
theorem a_sDput : sDput i ev oa r = (ev r).toS fun x r1 => match r1[i]? with
  | some (.own _) => (oa r1).toS fun y r2 => (match r2[i]?, y.rd r2 with
    | some (.own (.dT l)), some (.tup ks) => (match keysD ks with
      | some k => if l.length < sizeLine then .nx (r2.set i (.own (.dT (putD l k x.data)))) else .stuck
      | none => .stuck)
    | some (.own (.dK l)), some kd => (match keyD kd with
      | some k => if l.length < sizeLine then .nx (r2.set i (.own (.dK (putD l k x.data)))) else .stuck
      | none => .stuck)
    | _, _ => .stuck)
  | _ => .stuck := rfl
theorem a_sFldC {n : Str} : sFldC C i n ev r = (ev r).toS fun y r1 => match r1[i]? with
  | some (.own (.ins C' l)) => if C' = C ∧ l.length < 1000 then .nx (r1.set i (.own (.ins C' (putFD n y.data l)))) else .stuck
  | _ => .stuck := rfl
theorem a_gN : gN i d r = some (r.set i (.val d)) := rfl
theorem a_rd {d : D} : (Src.dat d).rd r = some d := rfl
end
end Mp
set_option Elab.async false
set_option linter.all false
namespace Mp
open PySem PySem.Builtin PySem.Builtin.Str
/-! ### signs and lengths of what repr shows -/
def Sgn (x : Str) : Prop := ∀ c ∈ x.cps.toList, c < 1114112
theorem cps_app (x y : Str) : (x ++ y).cps.toList = x.cps.toList ++ y.cps.toList := Array.toList_append
theorem Sgn.app {x y : Str} (hx : Sgn x) (hy : Sgn y) : Sgn (x ++ y) := fun c h => by
  rw [cps_app, List.mem_append] at h
  exact h.elim (hx c) (hy c)
theorem char_small (c : Char) : c.toNat < 1114112 := by
  have h := c.valid
  rcases h with h | h
  · exact Nat.lt_of_lt_of_le h (by decide)
  · exact h.2
theorem Sgn.of (s : String) : Sgn (Str.ofString s) := fun c h => by
  rw [Str.ofString_eq_toList] at h
  simp only [List.mem_map] at h
  obtain ⟨k, _, rfl⟩ := h
  exact char_small k
theorem Sgn.ok {x : Str} (h : Sgn x) : PyData.strOk x = true := by
  unfold PyData.strOk
  rw [Array.all_eq_true]
  intro i hi
  exact decide_eq_true (h _ (by rw [Array.mem_toList_iff]; exact Array.getElem_mem hi))
theorem sgn_char (q c : Nat) (hq : q < 1114112) (hc : c < 1114112) : ∀ d ∈ reprChar q c, d < 1114112 := by
  intro d hd
  have hx : ∀ w : Nat, ∀ d ∈ (List.replicate (w - ((Nat.toDigits 16 c).map Char.toNat).length) 48 ++ (Nat.toDigits 16 c).map Char.toNat), d < 1114112 := by
    intro w d h
    rcases List.mem_append.mp h with h | h
    · have := List.eq_of_mem_replicate h
      omega
    · obtain ⟨k, _, rfl⟩ := List.mem_map.mp h
      exact char_small k
  unfold reprChar at hd
  dsimp only at hd
  split at hd
  · simp only [List.mem_cons, List.not_mem_nil, or_false] at hd; omega
  split at hd
  · simp only [List.mem_cons, List.not_mem_nil, or_false] at hd; omega
  split at hd
  · simp only [List.mem_cons, List.not_mem_nil, or_false] at hd; omega
  split at hd
  · simp only [List.mem_cons, List.not_mem_nil, or_false] at hd; omega
  split at hd
  · simp only [List.mem_cons, List.not_mem_nil, or_false] at hd; omega
  split at hd
  · rcases List.mem_append.mp hd with h | h
    · simp only [List.mem_cons, List.not_mem_nil, or_false] at h; omega
    · exact hx _ d h
  split at hd
  · rcases List.mem_append.mp hd with h | h
    · simp only [List.mem_cons, List.not_mem_nil, or_false] at h; omega
    · exact hx _ d h
  · rcases List.mem_append.mp hd with h | h
    · simp only [List.mem_cons, List.not_mem_nil, or_false] at h; omega
    · exact hx _ d h
theorem sgn_fold (q : Nat) (hq : q < 1114112) : ∀ (l : List Nat) (acc : Array Nat), (∀ c ∈ l, c < 1114112) → (∀ c ∈ acc.toList, c < 1114112) → ∀ c ∈ (l.foldl (fun out c => out ++ (reprChar q c).toArray) acc).toList, c < 1114112
  | [], acc, _, h => h
  | a :: l, acc, hl, h => by
    rw [List.foldl_cons]
    refine sgn_fold q hq l _ (fun c hc => hl c (List.mem_cons_of_mem _ hc)) fun c hc => ?_
    rw [Array.toList_append, List.mem_append] at hc
    exact hc.elim (h c) (sgn_char q a hq (hl a List.mem_cons_self) c)
theorem Sgn.repr {x : Str} (h : Sgn x) : Sgn (reprText x) := fun c hc => by
  have hq : reprQuote x < 1114112 := by unfold reprQuote; split <;> omega
  unfold reprText at hc
  rw [Array.toList_push, ← Array.foldl_toList, List.mem_append] at hc
  rcases hc with hc | hc
  · exact sgn_fold _ hq x.cps.toList _ h (fun c hc => by simp at hc; omega) c hc
  · simp at hc; omega
theorem textFrom_le {w : Nat} : ∀ (ts : List Str) (k : Nat) (acc : Str), (∀ t ∈ ts, t.length ≤ w) → (textFrom k acc ts).length ≤ acc.length + ts.length * (w + 2)
  | [], k, acc, _ => by rw [List.length_nil, Nat.zero_mul]; exact Nat.le_refl _
  | t :: ts, k, acc, h => by
    have ih := textFrom_le ts (k + 1) (acc ++ (if k > 0 then ", " else "" : String) ++ t) fun s hs => h s (List.mem_cons_of_mem _ hs)
    have e : (acc ++ (if k > 0 then ", " else "" : String) ++ t).length ≤ acc.length + 2 + t.length := by
      rw [strLen_append, strLen_append]
      split
      · exact Nat.le_refl _
      · have : ((("" : String) : Str)).length = 0 := rfl
        omega
    have ht := h t List.mem_cons_self
    show (textFrom (k + 1) _ ts).length ≤ _
    rw [List.length_cons, Nat.succ_mul]
    omega
theorem textFrom_sgn : ∀ (ts : List Str) (k : Nat) (acc : Str), (∀ t ∈ ts, Sgn t) → Sgn acc → Sgn (textFrom k acc ts)
  | [], k, acc, _, h => h
  | t :: ts, k, acc, h, ha => textFrom_sgn ts (k + 1) _ (fun s hs => h s (List.mem_cons_of_mem _ hs)) ((ha.app (.of _)).app (h t List.mem_cons_self))
theorem join_le {w : Nat} : ∀ (ts : List Str), (∀ t ∈ ts, t.length ≤ w) → (Str.join ", " ts).length ≤ ts.length * (w + 2)
  | [], _ => Nat.zero_le _
  | [x], h => by
    have := h x List.mem_cons_self
    show x.length ≤ 1 * (w + 2)
    omega
  | x :: y :: r, h => by
    have ih := join_le (y :: r) fun s hs => h s (List.mem_cons_of_mem _ hs)
    have hx := h x List.mem_cons_self
    show (x ++ ", " ++ Str.join ", " (y :: r)).length ≤ _
    have e2 : ((", " : String) : Str).length = 2 := rfl
    rw [strLen_append, strLen_append, e2, List.length_cons, Nat.succ_mul]
    omega
theorem join_sgn : ∀ (ts : List Str), (∀ t ∈ ts, Sgn t) → Sgn (Str.join ", " ts)
  | [], _ => fun c h => nomatch h
  | [x], h => h x List.mem_cons_self
  | x :: y :: r, h => ((h x List.mem_cons_self).app (.of _)).app (join_sgn (y :: r) fun s hs => h s (List.mem_cons_of_mem _ hs))
theorem listText_le {w : Nat} {ts : List Str} (h : ∀ t ∈ ts, t.length ≤ w) : (listText ts).length ≤ ts.length * (w + 2) + 4 := by
  have := textFrom_le ts 0 "[" h
  unfold listText
  rw [strLen_append]
  have e1 : ((("[" : String) : Str)).length = 1 := rfl
  have e2 : ((("]" : String) : Str)).length = 1 := rfl
  omega
theorem listText_sgn {ts : List Str} (h : ∀ t ∈ ts, Sgn t) : Sgn (listText ts) := (textFrom_sgn ts 0 _ h (.of _)).app (.of _)
theorem tupleText_le {w : Nat} {ts : List Str} (h : ∀ t ∈ ts, t.length ≤ w) : (tupleText ts).length ≤ ts.length * (w + 2) + 4 := by
  have := join_le ts h
  unfold tupleText
  rw [strLen_append, strLen_append]
  have e1 : ((("(" : String) : Str)).length = 1 := rfl
  have e2 : ((if ts.length == 1 then ",)" else ")" : String) : Str).length ≤ 2 := by split <;> decide +kernel
  omega
theorem tupleText_sgn {ts : List Str} (h : ∀ t ∈ ts, Sgn t) : Sgn (tupleText ts) := ((Sgn.of _).app (join_sgn ts h)).app (.of _)
/-- data whose text is short -/
structure Sh (w k : Nat) (p : PyData) : Prop where
  ok : p.showable = true
  nd : p.hasDict = false
  le : p.shown.length ≤ w
  dp : p.depth ≤ k
  sg : Sgn p.shown
theorem Sh.mono {w k w' k' : Nat} {p : PyData} (h : Sh w k p) (a : w ≤ w') (b : k ≤ k') : Sh w' k' p := ⟨h.ok, h.nd, Nat.le_trans h.le a, Nat.le_trans h.dp b, h.sg⟩
theorem sh_non : Sh 4 0 .none := ⟨rfl, rfl, by decide +kernel, Nat.le_refl _, .of "None"⟩
theorem sh_bl (b : Bool) : Sh 5 0 (.bool b) := by
  cases b
  · exact ⟨rfl, rfl, by decide +kernel, Nat.le_refl _, .of "False"⟩
  · exact ⟨rfl, rfl, by decide +kernel, Nat.le_refl _, .of "True"⟩
theorem len_small : ∀ i : _root_.Fin 100, (((toString ((i : Nat) : Int) : String) : Str)).length ≤ 2 := by decide +kernel
theorem sh_int {i : Int} (h0 : 0 ≤ i) (h : i < 100) : Sh 2 0 (.int i) := by
  obtain ⟨n, rfl⟩ := Int.eq_ofNat_of_zero_le h0
  refine ⟨?_, rfl, len_small ⟨n, by omega⟩, Nat.le_refl _, .of _⟩
  show decide _ = true
  rw [decide_eq_true_eq, Int.natAbs_natCast]
  exact Nat.lt_of_le_of_lt (Nat.log2_le_self n) (by omega)
theorem sh_str {x : Str} (h : Sgn x) : Sh (10 * x.length + 2) 0 (.str x) := ⟨rfl, rfl, StrLaws.reprText_len x fun c hc => Nat.lt_of_lt_of_le (h c hc) (by decide), Nat.le_refl _, h.repr⟩
theorem sh_all {w k : Nat} : ∀ {ps : List PyData}, (∀ p ∈ ps, Sh w k p) → PyData.showableAll ps = true ∧ PyData.hasDictAll ps = false ∧ (∀ t ∈ PyData.shownAll ps, t.length ≤ w ∧ Sgn t) ∧ PyData.depthAll ps ≤ k ∧ (PyData.shownAll ps).length = ps.length
  | [], _ => ⟨rfl, rfl, fun _ h => (nomatch h), Nat.zero_le _, rfl⟩
  | p :: ps, h => by
    obtain ⟨a, b, c, d, e⟩ := sh_all (ps := ps) fun q hq => h q (List.mem_cons_of_mem _ hq)
    have hp := h p List.mem_cons_self
    refine ⟨?_, ?_, ?_, ?_, ?_⟩
    · rw [PyData.showableAll, hp.ok, a]; rfl
    · rw [PyData.hasDictAll, hp.nd, b]; rfl
    · intro t ht
      rw [PyData.shownAll] at ht
      rcases List.mem_cons.mp ht with rfl | ht
      · exact ⟨hp.le, hp.sg⟩
      · exact c t ht
    · rw [PyData.depthAll]
      have := hp.dp
      omega
    · rw [PyData.shownAll, List.length_cons, List.length_cons, e]
theorem sh_list {w k m : Nat} {ps : List PyData} (h : ∀ p ∈ ps, Sh w k p) (hm : ps.length ≤ m) : Sh (m * (w + 2) + 4) (k + 1) (.list ps) := by
  obtain ⟨a, b, c, d, e⟩ := sh_all h
  refine ⟨by rw [PyData.showable]; exact a, by rw [PyData.hasDict]; exact b, ?_, by rw [PyData.depth]; omega, ?_⟩
  · rw [PyData.shown]
    have := listText_le fun t ht => (c t ht).1
    have h2 := Nat.mul_le_mul_right (w + 2) hm
    rw [e] at this
    omega
  · rw [PyData.shown]
    exact listText_sgn fun t ht => (c t ht).2
theorem sh_tup {w k m : Nat} {ps : List PyData} (h : ∀ p ∈ ps, Sh w k p) (hm : ps.length ≤ m) : Sh (m * (w + 2) + 4) (k + 1) (.tuple ps) := by
  obtain ⟨a, b, c, d, e⟩ := sh_all h
  refine ⟨by rw [PyData.showable]; exact a, by rw [PyData.hasDict]; exact b, ?_, by rw [PyData.depth]; omega, ?_⟩
  · rw [PyData.shown]
    have := tupleText_le fun t ht => (c t ht).1
    have h2 := Nat.mul_le_mul_right (w + 2) hm
    rw [e] at this
    omega
  · rw [PyData.shown]
    exact tupleText_sgn fun t ht => (c t ht).2
end Mp
set_option Elab.async false
set_option linter.all false
namespace Mp
open PySem PySem.Spec PyProof.Rows L2 Evl
/-! ### repr of data -/
structure Gd (w k : Nat) (d : D) : Prop where
  p : ∃ p, toPy d = some p ∧ Sh w k p
theorem Gd.mono {w k w' k' : Nat} {d : D} (h : Gd w k d) (a : w ≤ w') (b : k ≤ k') : Gd w' k' d := by
  obtain ⟨p, e, s⟩ := h.p
  exact ⟨p, e, s.mono a b⟩
theorem gd_non : Gd 5 1 .non := ⟨_, rfl, sh_non.mono (by omega) (by omega)⟩
theorem gd_bl (b : Bool) : Gd 5 1 (.bl b) := ⟨_, rfl, (sh_bl b).mono (by omega) (by omega)⟩
theorem gd_int {i : Int} (h0 : 0 ≤ i) (h : i < 100) : Gd 5 1 (.int i) := ⟨_, rfl, (sh_int h0 h).mono (by omega) (by omega)⟩
theorem gd_str {x : Str} (h : Sgn x) : Gd (10 * x.length + 2) 1 (.str x) := ⟨_, rfl, (sh_str h).mono (by omega) (by omega)⟩
theorem gd_all {w k : Nat} : ∀ {ds : List D}, (∀ d ∈ ds, Gd w k d) → ∃ ps, toPy.toPyAll ds = some ps ∧ (∀ p ∈ ps, Sh w k p) ∧ ps.length = ds.length
  | [], _ => ⟨[], rfl, fun _ h => (nomatch h), rfl⟩
  | d :: ds, h => by
    obtain ⟨ps, a, b, c⟩ := gd_all (ds := ds) fun q hq => h q (List.mem_cons_of_mem _ hq)
    obtain ⟨p, e, s⟩ := (h d List.mem_cons_self).p
    refine ⟨p :: ps, ?_, ?_, by rw [List.length_cons, List.length_cons, c]⟩
    · rw [toPy.toPyAll, e, a]
    · intro q hq
      rcases List.mem_cons.mp hq with rfl | hq
      · exact s
      · exact b q hq
theorem gd_lst {w k m : Nat} {ds : List D} (h : ∀ d ∈ ds, Gd w k d) (hm : ds.length ≤ m) : Gd (m * (w + 2) + 4) (k + 1) (.lst ds) := by
  obtain ⟨ps, a, b, c⟩ := gd_all h
  exact ⟨.list ps, by rw [toPy, a]; rfl, sh_list b (by omega)⟩
theorem gd_tup {w k m : Nat} {ds : List D} (h : ∀ d ∈ ds, Gd w k d) (hm : ds.length ≤ m) : Gd (m * (w + 2) + 4) (k + 1) (.tup ds) := by
  obtain ⟨ps, a, b, c⟩ := gd_all h
  exact ⟨.tuple ps, by rw [toPy, a]; rfl, sh_tup b (by omega)⟩
theorem gd_repr {w k : Nat} {d : D} (h : Gd w k d) (hw : w ≤ 100000) (hk : k ≤ 64) : ∃ s, dRepr [d] = some (.val (.str s)) ∧ Sgn s := by
  obtain ⟨p, e, s⟩ := h.p
  refine ⟨p.shown, ?_, s.sg⟩
  have a := s.le
  have b := s.dp
  unfold dRepr
  dsimp only
  rw [e]
  dsimp only
  rw [s.ok, s.nd, decide_eq_true (Nat.le_trans a hw), decide_eq_true (Nat.le_trans b hk)]
  rfl
theorem ne_sgn {s : Str} (h : Sgn s) : dNe (.str s) (.str s) = some (.val (.bl false)) := by
  have e : SeqAt.shaped (.str s) = true := by
    show (PyData.strOk s && decide (0 ≤ 64)) = true
    rw [h.ok]; rfl
  have e2 : PyData.eqv (.str s) (.str s) = true := by
    rw [PyData.eqv]; exact beq_self_eq_true s
  unfold dNe dEqB toPy
  dsimp only
  rw [e, e2]
  rfl
/-- strings: == -/
theorem eq_sgn {x y : Str} (hx : Sgn x) (hy : Sgn y) : dEq (.str x) (.str y) = some (.val (.bl (decide (x = y)))) := by
  have e : ∀ s, Sgn s → SeqAt.shaped (.str s) = true := fun s h => by
    show (PyData.strOk s && decide (0 ≤ 64)) = true
    rw [h.ok]; rfl
  have e2 : PyData.eqv (.str x) (.str y) = decide (x = y) := by
    rw [PyData.eqv]; by_cases h : x = y
    · subst h; rw [beq_self_eq_true, decide_eq_true rfl]
    · rw [decide_eq_false h]; exact beq_eq_false_iff_ne.mpr h
  unfold dEq dEqB toPy
  dsimp only
  rw [e x hx, e y hy, e2]
  rfl
end Mp
set_option Elab.async false
set_option linter.all false
set_option maxRecDepth 100000
namespace Mp
open PySem PySem.Spec PyProof.Rows L2 Evl
/-! ### typed runs: what the forms come to, upon data of known kinds -/
theorem nd {A : Type} {a b : A} (h : a = b) : a = b := h
inductive R (A : Type) where
  | stuck | ok (a : A) | exc (x : Exn)
namespace R
variable {A B : Type}
def bind (m : R A) (f : A → R B) : R B := match m with
  | .stuck => .stuck
  | .ok a => f a
  | .exc x => .exc x
def grd (c : Prop) [Decidable c] (k : R A) : R A := if c then k else .stuck
def ofO : Option A → R A
  | some a => .ok a
  | none => .stuck
theorem ok_bind (a : A) (f : A → R B) : (R.ok a).bind f = f a := rfl
theorem exc_bind (x : Exn) (f : A → R B) : (R.exc x : R A).bind f = .exc x := rfl
theorem stuck_bind (f : A → R B) : (R.stuck : R A).bind f = .stuck := rfl
theorem bind_ok (m : R A) : m.bind .ok = m := by cases m <;> rfl
theorem bind_bind {C : Type} (m : R A) (f : A → R B) (g : B → R C) : (m.bind f).bind g = m.bind fun a => (f a).bind g := by cases m <;> rfl
theorem grd_pos {c : Prop} [Decidable c] {k : R A} (h : c) : R.grd c k = k := if_pos h
theorem ofO_some (a : A) : R.ofO (some a) = .ok a := rfl
theorem ite_bind {c : Prop} [Decidable c] (m n : R A) (f : A → R B) : (if c then m else n).bind f = if c then m.bind f else n.bind f := by split <;> rfl
end R
/-- how a block ends: behind its last row with a state, or by break, continue, return -/
inductive Ctl (S L P : Type) where
  | nx (s : S) | bk (l : L) | ct (l : L) | ret (p : P)
def R.seq {S S' L P : Type} (m : R (Ctl S L P)) (k : S → R (Ctl S' L P)) : R (Ctl S' L P) := m.bind fun c => match c with
  | .nx s => k s
  | .bk l => .ok (.bk l)
  | .ct l => .ok (.ct l)
  | .ret p => .ok (.ret p)
/-- the value of a def whose body is m -/
def retOf {S L P : Type} (m : R (Ctl S L P)) : R P := m.bind fun c => match c with
  | .ret p => .ok p
  | _ => .stuck
def retN {S L : Type} (m : R (Ctl S L Unit)) : R Unit := m.bind fun c => match c with
  | .ret p => .ok p
  | .nx _ => .ok ()
  | _ => .stuck
def retJ {J L : Type} (m : R (Ctl J L (Unit × J))) : R (Unit × J) := m.bind fun c => match c with
  | .ret p => .ok p
  | .nx j => .ok ((), j)
  | _ => .stuck
theorem retJ_bind {A J L : Type} (m : R A) (k : A → R (Ctl J L (Unit × J))) : retJ (m.bind k) = m.bind fun a => retJ (k a) := by cases m <;> rfl
theorem retJ_ite {J L : Type} {c : Prop} [Decidable c] (m n : R (Ctl J L (Unit × J))) : retJ (if c then m else n) = if c then retJ m else retJ n := by split <;> rfl
theorem retOf_ret {S L P : Type} (p : P) : retOf (.ok (.ret p) : R (Ctl S L P)) = .ok p := rfl
theorem retOf_bind {A S L P : Type} (m : R A) (k : A → R (Ctl S L P)) : retOf (m.bind k) = m.bind fun a => retOf (k a) := by cases m <;> rfl
theorem retOf_ite {S L P : Type} {c : Prop} [Decidable c] (m n : R (Ctl S L P)) : retOf (if c then m else n) = if c then retOf m else retOf n := by split <;> rfl
theorem retOf_exc {S L P : Type} (x : Exn) : retOf (.exc x : R (Ctl S L P)) = .exc x := rfl
theorem retN_bind {A S L : Type} (m : R A) (k : A → R (Ctl S L Unit)) : retN (m.bind k) = m.bind fun a => retN (k a) := by cases m <;> rfl
theorem retN_ite {S L : Type} {c : Prop} [Decidable c] (m n : R (Ctl S L Unit)) : retN (if c then m else n) = if c then retN m else retN n := by split <;> rfl
/-! loops -/
def forN {X S : Type} (B : S → X → R S) : List X → S → R S
  | [], s => .ok s
  | x :: xs, s => (B s x).bind fun s' => forN B xs s'
def forC {X S L P : Type} (B : S → X → R (Ctl S S P)) : List X → S → R (Ctl S L P)
  | [], s => .ok (.nx s)
  | x :: xs, s => (B s x).bind fun c => match c with
    | .nx s' => forC B xs s'
    | .ct s' => forC B xs s'
    | .bk s' => .ok (.nx s')
    | .ret p => .ok (.ret p)
def whileN {S : Type} (T : S → R Bool) (B : S → R S) : Nat → S → R S
  | 0, _ => .stuck
  | n + 1, s => (T s).bind fun k => if k then (B s).bind fun s' => whileN T B n s' else .ok s
def whileC {S L P : Type} (T : S → R Bool) (B : S → R (Ctl S S P)) : Nat → S → R (Ctl S L P)
  | 0, _ => .stuck
  | n + 1, s => (T s).bind fun k => if k then (B s).bind fun c => (match c with
    | .nx s' => whileC T B n s'
    | .ct s' => whileC T B n s'
    | .bk s' => .ok (.nx s')
    | .ret p => .ok (.ret p)) else .ok (.nx s)
def compR {X Y : Type} (C : X → R Bool) (E : X → R Y) : List X → R (List Y)
  | [] => .ok []
  | x :: xs => (C x).bind fun k => if k then (E x).bind fun y => (compR C E xs).bind fun ys => .ok (y :: ys) else compR C E xs
/-- with something that the elements change -/
def compJ {X Y J : Type} (C : J → X → R Bool) (E : J → X → R (Y × J)) : List X → J → R (List Y × J)
  | [], j => .ok ([], j)
  | x :: xs, j => (C j x).bind fun k => if k then (E j x).bind fun p => (compJ C E xs p.2).bind fun q => .ok (p.1 :: q.1, q.2) else compJ C E xs j
/-! ### a form keeps to a typed run -/
section
variable {A B b c : Type} {Ow : Rho → Prop}
def ERef {A b : Type} (Ow : Rho → Prop) (m : EO A) (t : R b) (v : b → A) (f : b → Rho) : Prop := match t with
  | .ok z => m = .ok (v z) (f z)
  | .exc x => ∃ r, m = .exc x r ∧ Ow r
  | .stuck => True
theorem ERef.ok {m : EO A} {z : b} {v : b → A} {f : b → Rho} (h : m = .ok (v z) (f z)) : ERef Ow m (.ok z) v f := h
theorem ERef.bind {op : EO A} {k : A → Rho → EO B} {t : R b} {K : b → R c} {v1 : b → A} {f1 : b → Rho} {v : c → B} {f : c → Rho} (h : ERef Ow op t v1 f1) (hk : ∀ x, ERef Ow (k (v1 x) (f1 x)) (K x) v f) : ERef Ow (op.bind k) (t.bind K) v f := by
  cases t with
  | stuck => trivial
  | ok x => have h : op = .ok (v1 x) (f1 x) := h; rw [h]; exact hk x
  | exc x => obtain ⟨r, h, w⟩ := h; rw [h]; exact ⟨r, rfl, w⟩
theorem ERef.last {op : EO A} {t : R b} {K : b → R c} {v1 : b → A} {f1 : b → Rho} {v : c → A} {f : c → Rho} (h : ERef Ow op t v1 f1) (hk : ∀ x, ERef Ow (.ok (v1 x) (f1 x)) (K x) v f) : ERef Ow op (t.bind K) v f := by
  cases t with
  | stuck => trivial
  | ok x => have h : op = .ok (v1 x) (f1 x) := h; rw [h]; exact hk x
  | exc x => obtain ⟨r, h, w⟩ := h; rw [h]; exact ⟨r, rfl, w⟩
theorem ERef.grd {m : EO A} {t : R b} {v : b → A} {f : b → Rho} {p : Prop} [Decidable p] (h : p → ERef Ow m t v f) : ERef Ow m (R.grd p t) v f := by
  unfold R.grd
  split
  · exact h (by assumption)
  · trivial
theorem ERef.mapv {op : EO A} {t : R b} {v1 v : b → A} {f1 f : b → Rho} (h : ERef Ow op t v1 f1) (e1 : v1 = v) (e2 : f1 = f) : ERef Ow op t v f := by subst e1 e2; exact h
end
/-- what a def comes to -/
def foR : Rv → FO
  | .val d => .val d
  | .new o => .new o
def RefF {A : Type} (e : A → Rv) (fo : FO) (t : R A) : Prop := match t with
  | .ok a => fo = foR (e a)
  | .exc x => fo = .exc x
  | .stuck => True
def RefM {A J : Type} (o0 : Own) (e : A → Rv) (eo : J → Own) (p : FO × Own) (t : R (A × J)) : Prop := match t with
  | .ok z => p = (foR (e z.1), eo z.2)
  | .exc x => p = (.exc x, o0)
  | .stuck => True
/-- a def that changes what it is passed, and raises nothing -/
def retM {S L P : Type} (m : R (Ctl S L P)) : R P := match m with
  | .ok (.ret p) => .ok p
  | _ => .stuck
theorem retM_ret {S L P : Type} (p : P) : retM (.ok (.ret p) : R (Ctl S L P)) = .ok p := rfl
theorem retM_ok {A S L P : Type} {m : R A} {a : A} {k : A → R (Ctl S L P)} (h : m = .ok a) : retM (m.bind k) = retM (k a) := by rw [h]; rfl
section
variable {S L P : Type}
def SN (Ow : Rho → Prop) (F : S → Rho → Prop) (o : SO) (t : R S) : Prop := match t with
  | .ok s => ∃ r, o = .nx r ∧ F s r
  | .exc x => ∃ r, o = .exc x r ∧ Ow r
  | .stuck => True
def SR (Ow : Rho → Prop) (F : S → Rho → Prop) (FL : L → Rho → Prop) (G : P → Rv → Rho → Prop) (o : SO) (t : R (Ctl S L P)) : Prop := match t with
  | .ok (.nx s) => ∃ r, o = .nx r ∧ F s r
  | .ok (.bk s) => ∃ r, o = .bk r ∧ FL s r
  | .ok (.ct s) => ∃ r, o = .ct r ∧ FL s r
  | .ok (.ret p) => ∃ v r, o = .ret v r ∧ G p v r
  | .exc x => ∃ r, o = .exc x r ∧ Ow r
  | .stuck => True
variable {S' b X : Type} {Ow : Rho → Prop} {F : S → Rho → Prop} {FL : L → Rho → Prop} {G : P → Rv → Rho → Prop} {r : Rho} {a sb body : Sv} {i : Nat} {ev : Ev Rv} {t : R b} {v : b → Rv} {f : b → Rho}
theorem t_nx' {r : Rho} {fn : Rho → SO} : (SO.nx r).then fn = fn r := rfl
/-! statements, one behind the other -/
theorem SN.cons {F1 : S' → Rho → Prop} {t : R S'} {K : S' → R S} (h : SN Ow F1 (a r) t) (hk : ∀ s r', F1 s r' → SN Ow F (sb r') (K s)) : SN Ow F (sCons a sb r) (t.bind K) := by
  show SN Ow F ((a r).then sb) _
  cases t with
  | stuck => trivial
  | ok s => obtain ⟨r1, h1, h2⟩ := h; rw [h1]; exact hk s r1 h2
  | exc x => obtain ⟨r1, h1, w⟩ := h; rw [h1]; exact ⟨r1, rfl, w⟩
theorem SR.cons {F1 : S' → Rho → Prop} {t : R S'} {K : S' → R (Ctl S L P)} (h : SN Ow F1 (a r) t) (hk : ∀ s r', F1 s r' → SR Ow F FL G (sb r') (K s)) : SR Ow F FL G (sCons a sb r) (t.bind K) := by
  show SR Ow F FL G ((a r).then sb) _
  cases t with
  | stuck => trivial
  | ok s => obtain ⟨r1, h1, h2⟩ := h; rw [h1]; exact hk s r1 h2
  | exc x => obtain ⟨r1, h1, w⟩ := h; rw [h1]; exact ⟨r1, rfl, w⟩
theorem SR.seq {F1 : S' → Rho → Prop} {t : R (Ctl S' L P)} {K : S' → R (Ctl S L P)} (h : SR Ow F1 FL G (a r) t) (hk : ∀ s r', F1 s r' → SR Ow F FL G (sb r') (K s)) : SR Ow F FL G (sCons a sb r) (t.seq K) := by
  show SR Ow F FL G ((a r).then sb) _
  cases t with
  | stuck => trivial
  | exc x => obtain ⟨r1, h1, w⟩ := h; rw [h1]; exact ⟨r1, rfl, w⟩
  | ok c =>
    cases c with
    | nx s => obtain ⟨r1, h1, h2⟩ := h; rw [h1]; exact hk s r1 h2
    | bk s => obtain ⟨r1, h1, h2⟩ := h; rw [h1]; exact ⟨r1, rfl, h2⟩
    | ct s => obtain ⟨r1, h1, h2⟩ := h; rw [h1]; exact ⟨r1, rfl, h2⟩
    | ret p => obtain ⟨v1, r1, h1, h2⟩ := h; rw [h1]; exact ⟨v1, r1, rfl, h2⟩
theorem SN.end_ {t : R S} (h : SN Ow F (sCons a sNil r) t) : SN Ow F (a r) t := by
  have e : sCons a sNil r = a r := by show (a r).then sNil = a r; cases a r <;> rfl
  rwa [e] at h
theorem SR.end_ {t : R (Ctl S L P)} (h : SR Ow F FL G (sCons a sNil r) t) : SR Ow F FL G (a r) t := by
  have e : sCons a sNil r = a r := by show (a r).then sNil = a r; cases a r <;> rfl
  rwa [e] at h
theorem SR.stk {o : SO} : SR Ow F FL G o (.stuck) := trivial
theorem SN.stk {o : SO} : SN Ow F o (.stuck) := trivial
theorem SN.nil {s : S} (h : F s r) : SN Ow F (sNil r) (.ok s) := ⟨r, rfl, h⟩
theorem SR.nil {s : S} (h : F s r) : SR Ow F FL G (sNil r) (.ok (.nx s)) := ⟨r, rfl, h⟩
theorem SR.bk {s : L} (h : FL s r) : SR Ow F FL G (sBk r) (.ok (.bk s)) := ⟨r, rfl, h⟩
theorem SR.ct {s : L} (h : FL s r) : SR Ow F FL G (sCt r) (.ok (.ct s)) := ⟨r, rfl, h⟩
theorem SR.ofN {t : R S} (h : SN Ow F (a r) t) : SR Ow F FL G (a r) (t.bind fun s => .ok (.nx s)) := by
  cases t with
  | stuck => trivial
  | ok s => exact h
  | exc x => exact h
/-! an assignment, an expression, return -/
theorem SN.set {K : b → R S} (h : ERef Ow (ev r) t v f) (hk : ∀ x, SN Ow F (sb ((f x).set i (cellOf (v x)))) (K x)) : SN Ow F (sCons (sSet i ev) sb r) (t.bind K) := by
  refine SN.cons (F1 := fun x r' => r' = (f x).set i (cellOf (v x))) ?_ fun x r' e => e ▸ hk x
  show SN Ow _ ((ev r).toS _) _
  cases t with
  | stuck => trivial
  | ok x => have h : ev r = .ok (v x) (f x) := h; rw [h]; exact ⟨_, rfl, rfl⟩
  | exc x => obtain ⟨r1, h, w⟩ := h; rw [h]; exact ⟨r1, rfl, w⟩
theorem SR.set {K : b → R (Ctl S L P)} (h : ERef Ow (ev r) t v f) (hk : ∀ x, SR Ow F FL G (sb ((f x).set i (cellOf (v x)))) (K x)) : SR Ow F FL G (sCons (sSet i ev) sb r) (t.bind K) := by
  refine SR.cons (F1 := fun x r' => r' = (f x).set i (cellOf (v x))) ?_ fun x r' e => e ▸ hk x
  show SN Ow _ ((ev r).toS _) _
  cases t with
  | stuck => trivial
  | ok x => have h : ev r = .ok (v x) (f x) := h; rw [h]; exact ⟨_, rfl, rfl⟩
  | exc x => obtain ⟨r1, h, w⟩ := h; rw [h]; exact ⟨r1, rfl, w⟩
theorem SN.drop_ (h : ERef Ow (ev r) t v f) : SN Ow (fun x r' => r' = f x) (sDrop ev r) t := by
  show SN Ow _ ((ev r).toS _) _
  cases t with
  | stuck => trivial
  | ok x => have h : ev r = .ok (v x) (f x) := h; rw [h]; exact ⟨_, rfl, rfl⟩
  | exc x => obtain ⟨r1, h, w⟩ := h; rw [h]; exact ⟨r1, rfl, w⟩
theorem SN.drop {K : b → R S} (h : ERef Ow (ev r) t v f) (hk : ∀ x, SN Ow F (sb (f x)) (K x)) : SN Ow F (sCons (sDrop ev) sb r) (t.bind K) := SN.cons (SN.drop_ h) fun x r' e => e ▸ hk x
theorem SR.drop {K : b → R (Ctl S L P)} (h : ERef Ow (ev r) t v f) (hk : ∀ x, SR Ow F FL G (sb (f x)) (K x)) : SR Ow F FL G (sCons (sDrop ev) sb r) (t.bind K) := SR.cons (SN.drop_ h) fun x r' e => e ▸ hk x
theorem SR.ret {p : b → P} (h : ERef Ow (ev r) t v f) (hk : ∀ x, G (p x) (v x) (f x)) : SR Ow F FL G (sRet ev r) (t.bind fun x => .ok (.ret (p x))) := by
  show SR Ow F FL G ((ev r).toS _) _
  cases t with
  | stuck => trivial
  | ok x => have h : ev r = .ok (v x) (f x) := h; rw [h]; exact ⟨_, _, rfl, hk x⟩
  | exc x => obtain ⟨r1, h, w⟩ := h; rw [h]; exact ⟨r1, rfl, w⟩
/-- target = value -/
theorem SN.tgt_ {g : Tg} {F1 : b → Rho → Prop} (h : ERef Ow (ev r) t v f) (hg : ∀ x, ∃ r', g (v x).data (f x) = some r' ∧ F1 x r') : SN Ow F1 (sTgt g ev r) t := by
  show SN Ow _ ((ev r).toS _) _
  cases t with
  | stuck => trivial
  | ok x =>
    have h : ev r = .ok (v x) (f x) := h
    obtain ⟨r', h1, h2⟩ := hg x
    rw [h]
    show SN Ow F1 (match g (v x).data (f x) with | some r' => .nx r' | none => .stuck) _
    rw [h1]; exact ⟨r', rfl, h2⟩
  | exc x => obtain ⟨r1, h, w⟩ := h; rw [h]; exact ⟨r1, rfl, w⟩
/-! if -/
variable {tst : Ev Bool} {cnd : b → Bool}
theorem SN.ifN {F1 : S → Rho → Prop} {KA KB : b → R S} (h : ERef Ow (tst r) t cnd f) (h1 : ∀ x, SN Ow F1 (a (f x)) (KA x)) (h0 : ∀ x, SN Ow F1 (sb (f x)) (KB x)) : SN Ow F1 (sIf tst a sb r) (t.bind fun x => if cnd x then KA x else KB x) := by
  show SN Ow _ ((tst r).toS _) _
  cases t with
  | stuck => trivial
  | ok x =>
    have h : tst r = .ok (cnd x) (f x) := h
    rw [h]
    show SN Ow F1 (if cnd x then a (f x) else sb (f x)) (if cnd x then KA x else KB x)
    cases cnd x with
    | true => exact h1 x
    | false => exact h0 x
  | exc x => obtain ⟨r1, h, w⟩ := h; rw [h]; exact ⟨r1, rfl, w⟩
theorem SR.ifC {KA KB : b → R (Ctl S L P)} (h : ERef Ow (tst r) t cnd f) (h1 : ∀ x, SR Ow F FL G (a (f x)) (KA x)) (h0 : ∀ x, SR Ow F FL G (sb (f x)) (KB x)) : SR Ow F FL G (sIf tst a sb r) (t.bind fun x => if cnd x then KA x else KB x) := by
  show SR Ow F FL G ((tst r).toS _) _
  cases t with
  | stuck => trivial
  | ok x =>
    have h : tst r = .ok (cnd x) (f x) := h
    rw [h]
    show SR Ow F FL G (if cnd x then a (f x) else sb (f x)) (if cnd x then KA x else KB x)
    cases cnd x with
    | true => exact h1 x
    | false => exact h0 x
  | exc x => obtain ⟨r1, h, w⟩ := h; rw [h]; exact ⟨r1, rfl, w⟩
/-- an if whose first suite never runs on -/
theorem SR.ifX {KA : b → R (Ctl S L P)} {KB : b → R (Ctl S L P)} (h : ERef Ow (tst r) t cnd f) (h1 : ∀ x, SR Ow (fun (_ : S) _ => False) FL G (a (f x)) (KA x)) (h0 : ∀ x, SR Ow F FL G (sb (f x)) (KB x)) : SR Ow F FL G (sCons (sIf tst a sNil) sb r) (t.bind fun x => if cnd x then KA x else KB x) := by
  show SR Ow F FL G (((tst r).toS _).then sb) _
  cases t with
  | stuck => trivial
  | exc x => obtain ⟨r1, h, w⟩ := h; rw [h]; exact ⟨r1, rfl, w⟩
  | ok x =>
    have h : tst r = .ok (cnd x) (f x) := h
    rw [h]
    show SR Ow F FL G ((if cnd x then a (f x) else sNil (f x)).then sb) (if cnd x then KA x else KB x)
    cases cnd x with
    | false => exact h0 x
    | true =>
      have q := h1 x
      show SR Ow F FL G ((a (f x)).then sb) (KA x)
      cases hk : KA x with
      | stuck => trivial
      | exc y => rw [hk] at q; obtain ⟨r1, e, w⟩ := q; rw [e]; exact ⟨r1, rfl, w⟩
      | ok y =>
        rw [hk] at q
        cases y with
        | nx s => obtain ⟨_, _, e⟩ := q; exact e.elim
        | bk s => obtain ⟨r1, e, e2⟩ := q; rw [e]; exact ⟨r1, rfl, e2⟩
        | ct s => obtain ⟨r1, e, e2⟩ := q; rw [e]; exact ⟨r1, rfl, e2⟩
        | ret s => obtain ⟨v1, r1, e, e2⟩ := q; rw [e]; exact ⟨v1, r1, rfl, e2⟩
/-! for -/
theorem forN_ref {g : Tg} {e : X → D} {B : S → X → R S} (hb : ∀ s x r, F s r → ∃ r1, g (e x) r = some r1 ∧ SN Ow F (body r1) (B s x)) : ∀ (xs : List X) (s : S) (r : Rho), F s r → SN Ow F (forL g body (xs.map e) r) (forN B xs s)
  | [], s, r, h => ⟨r, rfl, h⟩
  | x :: xs, s, r, h => by
    obtain ⟨r1, h1, h2⟩ := hb s x r h
    rw [List.map_cons, forL, h1]
    unfold forN
    show SN Ow F (match body r1 with | .nx r2 => forL g body (xs.map e) r2 | .ct r2 => forL g body (xs.map e) r2 | .bk r2 => .nx r2 | o => o) _
    cases hB : B s x with
    | stuck => trivial
    | exc y => rw [hB] at h2; obtain ⟨r2, e1, w⟩ := h2; rw [e1]; exact ⟨r2, rfl, w⟩
    | ok s' => rw [hB] at h2; obtain ⟨r2, e1, e2⟩ := h2; rw [e1]; exact forN_ref hb xs s' r2 e2
theorem forC_ref {g : Tg} {e : X → D} {B : S → X → R (Ctl S S P)} (hb : ∀ s x r, F s r → ∃ r1, g (e x) r = some r1 ∧ SR Ow F F G (body r1) (B s x)) : ∀ (xs : List X) (s : S) (r : Rho), F s r → SR Ow F FL G (forL g body (xs.map e) r) (forC B xs s)
  | [], s, r, h => ⟨r, rfl, h⟩
  | x :: xs, s, r, h => by
    obtain ⟨r1, h1, h2⟩ := hb s x r h
    rw [List.map_cons, forL, h1]
    unfold forC
    show SR Ow F FL G (match body r1 with | .nx r2 => forL g body (xs.map e) r2 | .ct r2 => forL g body (xs.map e) r2 | .bk r2 => .nx r2 | o => o) _
    cases hB : B s x with
    | stuck => trivial
    | exc y => rw [hB] at h2; obtain ⟨r2, e1, w⟩ := h2; rw [e1]; exact ⟨r2, rfl, w⟩
    | ok y =>
      rw [hB] at h2
      cases y with
      | nx s' => obtain ⟨r2, e1, e2⟩ := h2; rw [e1]; exact forC_ref hb xs s' r2 e2
      | ct s' => obtain ⟨r2, e1, e2⟩ := h2; rw [e1]; exact forC_ref hb xs s' r2 e2
      | bk s' => obtain ⟨r2, e1, e2⟩ := h2; rw [e1]; exact ⟨r2, rfl, e2⟩
      | ret p => obtain ⟨v2, r2, e1, e2⟩ := h2; rw [e1]; exact ⟨v2, r2, rfl, e2⟩
variable {it : Ev (List D)} {g : Tg} {e : X → D} {xs : b → List X} {s0 : b → S}
theorem SN.forN {B : S → X → R S} (hi : ERef Ow (it r) t (fun x => (xs x).map e) f) (h0 : ∀ x, F (s0 x) (f x)) (hb : ∀ s x r, F s r → ∃ r1, g (e x) r = some r1 ∧ SN Ow F (body r1) (B s x)) : SN Ow F (sFor it g body r) (t.bind fun x => Mp.forN B (xs x) (s0 x)) := by
  show SN Ow F ((it r).toS _) _
  cases t with
  | stuck => trivial
  | exc x => obtain ⟨r1, h, w⟩ := hi; rw [h]; exact ⟨r1, rfl, w⟩
  | ok x => have hi : it r = .ok ((xs x).map e) (f x) := hi; rw [hi]; exact forN_ref hb (xs x) (s0 x) (f x) (h0 x)
theorem SR.forC {B : S → X → R (Ctl S S P)} (hi : ERef Ow (it r) t (fun x => (xs x).map e) f) (h0 : ∀ x, F (s0 x) (f x)) (hb : ∀ s x r, F s r → ∃ r1, g (e x) r = some r1 ∧ SR Ow F F G (body r1) (B s x)) : SR Ow F FL G (sFor it g body r) (t.bind fun x => Mp.forC B (xs x) (s0 x)) := by
  show SR Ow F FL G ((it r).toS _) _
  cases t with
  | stuck => trivial
  | exc x => obtain ⟨r1, h, w⟩ := hi; rw [h]; exact ⟨r1, rfl, w⟩
  | ok x => have hi : it r = .ok ((xs x).map e) (f x) := hi; rw [hi]; exact forC_ref hb (xs x) (s0 x) (f x) (h0 x)
/-! while -/
theorem SN.whl {T : S → R Bool} {B : S → R S} (ht : ∀ s r, F s r → ∃ r1, ERef Ow (tst r) (T s) id (fun _ => r1) ∧ F s r1) (hb : ∀ s r, F s r → SN Ow F (body r) (B s)) : ∀ (n : Nat) (s : S) (r : Rho), F s r → SN Ow F (Mp.whl tst body n r) (whileN T B n s)
  | 0, _, _, _ => trivial
  | n + 1, s, r, h => by
    obtain ⟨r1, h1, h2⟩ := ht s r h
    unfold Mp.whl whileN
    cases hT : T s with
    | stuck => trivial
    | exc y => rw [hT] at h1; obtain ⟨r2, e1, w⟩ := h1; rw [e1]; exact ⟨r2, rfl, w⟩
    | ok k =>
      rw [hT] at h1
      have h1 : tst r = .ok k r1 := h1
      rw [h1]
      cases k with
      | false => exact ⟨r1, rfl, h2⟩
      | true =>
        have q := hb s r1 h2
        show SN Ow F (match body r1 with | .nx r2 => Mp.whl tst body n r2 | .ct r2 => Mp.whl tst body n r2 | .bk r2 => .nx r2 | o => o) ((B s).bind fun s' => whileN T B n s')
        cases hB : B s with
        | stuck => trivial
        | exc y => rw [hB] at q; obtain ⟨r2, e1, w⟩ := q; rw [e1]; exact ⟨r2, rfl, w⟩
        | ok s' => rw [hB] at q; obtain ⟨r2, e1, e2⟩ := q; rw [e1]; exact SN.whl ht hb n s' r2 e2
theorem SR.whl {T : S → R Bool} {B : S → R (Ctl S S P)} (ht : ∀ s r, F s r → ∃ r1, ERef Ow (tst r) (T s) id (fun _ => r1) ∧ F s r1) (hb : ∀ s r, F s r → SR Ow F F G (body r) (B s)) : ∀ (n : Nat) (s : S) (r : Rho), F s r → SR Ow F FL G (Mp.whl tst body n r) (whileC T B n s)
  | 0, _, _, _ => trivial
  | n + 1, s, r, h => by
    obtain ⟨r1, h1, h2⟩ := ht s r h
    unfold Mp.whl whileC
    cases hT : T s with
    | stuck => trivial
    | exc y => rw [hT] at h1; obtain ⟨r2, e1, w⟩ := h1; rw [e1]; exact ⟨r2, rfl, w⟩
    | ok k =>
      rw [hT] at h1
      have h1 : tst r = .ok k r1 := h1
      rw [h1]
      cases k with
      | false => exact ⟨r1, rfl, h2⟩
      | true =>
        have q := hb s r1 h2
        show SR Ow F FL G (match body r1 with | .nx r2 => Mp.whl tst body n r2 | .ct r2 => Mp.whl tst body n r2 | .bk r2 => .nx r2 | o => o) ((B s).bind _)
        cases hB : B s with
        | stuck => trivial
        | exc y => rw [hB] at q; obtain ⟨r2, e1, w⟩ := q; rw [e1]; exact ⟨r2, rfl, w⟩
        | ok y =>
          rw [hB] at q
          cases y with
          | nx s' => obtain ⟨r2, e1, e2⟩ := q; rw [e1]; exact SR.whl ht hb n s' r2 e2
          | ct s' => obtain ⟨r2, e1, e2⟩ := q; rw [e1]; exact SR.whl ht hb n s' r2 e2
          | bk s' => obtain ⟨r2, e1, e2⟩ := q; rw [e1]; exact ⟨r2, rfl, e2⟩
          | ret p => obtain ⟨v2, r2, e1, e2⟩ := q; rw [e1]; exact ⟨v2, r2, rfl, e2⟩
/-! a def -/
theorem foOf_ret (v : Rv) (r : Rho) : foOf (.ret v r) = foR v := by cases v <;> rfl
theorem RefF.of {e : P → Rv} {N : Nat} {sv : Sv} {ds : List D} {t : R (Ctl S L P)} (h : SR (fun _ => True) (fun (_ : S) _ => True) (fun (_ : L) _ => True) (fun p v _ => v = e p) (sv (startR N ds)) t) : RefF e (runP N sv ds) (retOf t) := by
  unfold runP
  cases t with
  | stuck => trivial
  | exc x => obtain ⟨r1, h, w⟩ := h; rw [h]; rfl
  | ok y =>
    cases y with
    | nx s => trivial
    | bk s => trivial
    | ct s => trivial
    | ret p =>
      obtain ⟨v1, r1, h, rfl⟩ := h
      rw [h]; exact foOf_ret _ _
theorem RefF.ofN {N : Nat} {sv : Sv} {ds : List D} {t : R (Ctl S L Unit)} (h : SR (fun _ => True) (fun (_ : S) _ => True) (fun (_ : L) _ => True) (fun (_ : Unit) v _ => v = .val .non) (sv (startR N ds)) t) : RefF (fun (_ : Unit) => .val .non) (runP N sv ds) (retN t) := by
  unfold runP
  cases t with
  | stuck => trivial
  | exc x => obtain ⟨r1, h, w⟩ := h; rw [h]; rfl
  | ok y =>
    cases y with
    | nx s => obtain ⟨r1, h, _⟩ := h; rw [h]; rfl
    | bk s => trivial
    | ct s => trivial
    | ret p =>
      obtain ⟨v1, r1, h, rfl⟩ := h
      rw [h]; rfl
/-- .. that raises nothing any more once it has changed something -/
theorem RefM.of {J : Type} {e : P → Rv} {eo : J → Own} {N : Nat} {sv : Sv} {o : Own} {ds : List D} {t : R (Ctl S L (P × J))} (h : SR (fun _ => True) (fun (_ : S) _ => True) (fun (_ : L) _ => True) (fun p v r => v = e p.1 ∧ ownOf r = some (eo p.2)) (sv (startM N o ds)) t) : RefM o e eo (runM N sv o ds) (retM t) := by
  unfold runM
  cases t with
  | stuck => trivial
  | exc x => trivial
  | ok y =>
    cases y with
    | nx s => trivial
    | bk s => trivial
    | ct s => trivial
    | ret p =>
      obtain ⟨v1, r1, h, rfl, h2⟩ := h
      rw [h]
      show _ = (foR (e p.1), eo p.2)
      cases e p.1 with
      | val d => show (match ownOf r1 with | some o' => (FO.val d, o') | none => (.stuck, o)) = _; rw [h2]; rfl
      | new d => show (match ownOf r1 with | some o' => (FO.new d, o') | none => (.stuck, o)) = _; rw [h2]; rfl
/-- a method that hands back None; what it raises, it raises before it changes anything -/
theorem RefM.ofN {J : Type} {eo : J → Own} {N : Nat} {sv : Sv} {o : Own} {ds : List D} {t : R (Ctl J L (Unit × J))} (h : SR (fun r => ownOf r = some o) (fun (j : J) r => ownOf r = some (eo j)) (fun (_ : L) _ => True) (fun p v r => v = .val .non ∧ ownOf r = some (eo p.2)) (sv (startM N o ds)) t) : RefM o (fun (_ : Unit) => .val .non) eo (runM N sv o ds) (retJ t) := by
  unfold runM
  cases t with
  | stuck => trivial
  | exc x => obtain ⟨r1, h, w⟩ := h; rw [h]; show (match ownOf r1 with | some o' => (FO.exc x, o') | none => (.stuck, o)) = _; rw [w]
  | ok y =>
    cases y with
    | nx s => obtain ⟨r1, h, w⟩ := h; rw [h]; show (match ownOf r1 with | some o' => (FO.val .non, o') | none => (.stuck, o)) = _; rw [w]; rfl
    | bk s => trivial
    | ct s => trivial
    | ret p =>
      obtain ⟨v1, r1, h, rfl, h2⟩ := h
      rw [h]
      show (match ownOf r1 with | some o' => (FO.val .non, o') | none => (.stuck, o)) = _; rw [h2]; rfl
end
end Mp
set_option Elab.async false
set_option linter.all false
set_option maxRecDepth 100000
namespace Mp
open PySem PySem.Spec PyProof.Rows L2 Evl
/-! ### forms upon a frame that is written out: one step after the other; what can fail stands last, as an operation -/
def ofV (o : Option Rv) (r : Rho) : EO Rv := match o with
  | some z => .ok z r
  | none => .stuck
section konts
variable {A B C : Type}
def qP (a : A) (r : Rho) : EO A := .ok a r
def qB (f : A → Rho → EO B) (g : B → Rho → EO C) (a : A) (r : Rho) : EO C := (f a r).bind g
def qN (i : Nat) (c : Option Cell) (r : Rho) : EO Src := match c with | some (.val d) => .ok (.dat d) r | some (.own _) => .ok (.slot i) r | _ => .stuck
def qNE (i : Nat) (c : Option Cell) (r : Rho) : EO Rv := match c with | some (.val d) => .ok (.val d) r | some (.own o) => .ok (.val o.data) (r.set i (.val o.data)) | _ => .stuck
def qD (c : Option Cell) : Option D := match c with | some (.own o) => some o.data | some (.val d) => some d | _ => none
def qOE (x : Rv) (r : Rho) : EO Src := .ok (.dat x.data) r
def qR1 (o : Option D) (f : D → Option Rv) (r : Rho) : EO Rv := match o with | some d => ofV (f d) r | none => .stuck
def qR2 (o p : Option D) (f : D → D → Option Rv) (r : Rho) : EO Rv := match o, p with | some d, some e => ofV (f d e) r | _, _ => .stuck
def q1 (f : D → Option Rv) (x : Src) (r : Rho) : EO Rv := qR1 (x.rd r) f r
def q2b (f : D → D → Option Rv) (x y : Src) (r : Rho) : EO Rv := two f x y r
def q2 (f : D → D → Option Rv) (ob : Ev Src) (x : Src) (r1 : Rho) : EO Rv := (ob r1).bind (q2b f x)
def q3c (f2 : D → D → Option Rv) (oc : Ev Src) (y : Src) (z : Rv) (r3 : Rho) : EO Rv := match z with
  | .val (.bl k) => if k then (oc r3).bind (q2b f2 y) else .ok (.val (.bl false)) r3
  | _ => .stuck
def q3d (f2 : D → D → Option Rv) (oc : Ev Src) (y : Src) (k : Bool) (r3 : Rho) : EO Rv := if k then (oc r3).bind (q2b f2 y) else .ok (.val (.bl false)) r3
def q3b (f f2 : D → D → Option Rv) (oc : Ev Src) (x y : Src) (r2 : Rho) : EO Rv := (two f x y r2).bind (q3c f2 oc y)
def q3 (f f2 : D → D → Option Rv) (ob oc : Ev Src) (x : Src) (r1 : Rho) : EO Rv := (ob r1).bind (q3b f f2 oc x)
def qTv (x : Rv) (r : Rho) : EO Bool := match x with | .val (.bl c) => .ok c r | _ => .stuck
def qTr2 (o : Option Bool) (r : Rho) : EO Bool := match o with | some k => .ok k r | none => .stuck
def qTr1 (o : Option D) (r : Rho) : EO Bool := match o with | some d => qTr2 (truD d) r | none => .stuck
def qTr (x : Src) (r : Rho) : EO Bool := qTr1 (x.rd r) r
def qTO1 (C : Addr) (F : List D → FO) (o : Option D) (r : Rho) : EO Bool := match o with | some d => qTr2 (dBool C F d) r | none => .stuck
def qTO (C : Addr) (F : List D → FO) (x : Src) (r : Rho) : EO Bool := qTO1 C F (x.rd r) r
def qAnd (tb : Ev Bool) (k : Bool) (r1 : Rho) : EO Bool := if k then tb r1 else .ok false r1
def qOr (tb : Ev Bool) (k : Bool) (r1 : Rho) : EO Bool := if k then .ok true r1 else tb r1
def qNot (k : Bool) (r1 : Rho) : EO Bool := .ok (!k) r1
def qEAnd1 (eb : Ev Rv) (k : Bool) (r1 : Rho) : EO Rv := if k then eb r1 else .ok (.val (.bl false)) r1
def qEOr1 (eb : Ev Rv) (k : Bool) (r1 : Rho) : EO Rv := if k then .ok (.val (.bl true)) r1 else eb r1
def qEAnd (eb : Ev Rv) (x : Rv) (r1 : Rho) : EO Rv := match x with | .val (.bl k) => qEAnd1 eb k r1 | _ => .stuck
def qEOr (eb : Ev Rv) (x : Rv) (r1 : Rho) : EO Rv := match x with | .val (.bl k) => qEOr1 eb k r1 | _ => .stuck
def qENot (x : Rv) (r1 : Rho) : EO Rv := match x with | .val (.bl k) => .ok (.val (.bl (!k))) r1 | _ => .stuck
def qEIf (ea eb : Ev Rv) (k : Bool) (r1 : Rho) : EO Rv := if k then ea r1 else eb r1
def qA2 (x : Src) (xs : List Src) (r1 : Rho) : EO (List Src) := .ok (x :: xs) r1
def qA (as : Ev (List Src)) (x : Src) (r1 : Rho) : EO (List Src) := (as r1).bind (qA2 x)
def qV2 (x : D) (xs : List D) (r1 : Rho) : EO (List D) := .ok (x :: xs) r1
def qV (va : Ev (List D)) (x : Rv) (r1 : Rho) : EO (List D) := (va r1).bind (qV2 x.data)
def qVS2 (l : List D) (xs : List D) (r1 : Rho) : EO (List D) := .ok (l ++ xs) r1
def qVS (va : Ev (List D)) (x : Rv) (r1 : Rho) : EO (List D) := match x.data with
  | .lst l => (va r1).bind (qVS2 l)
  | .tup l => (va r1).bind (qVS2 l)
  | _ => .stuck
def qL2 (x : Rv) (xs : List Rv) (r1 : Rho) : EO (List Rv) := .ok (x :: xs) r1
def qL (la : Ev (List Rv)) (x : Rv) (r1 : Rho) : EO (List Rv) := (la r1).bind (qL2 x)
def qTup (ds : List D) (r1 : Rho) : EO Rv := if ds.length ≤ sizeLine then .ok (.val (.tup ds)) r1 else .stuck
def qLst (ds : List D) (r1 : Rho) : EO Rv := if ds.length ≤ sizeLine then .ok (.new (.lst ds)) r1 else .stuck
def qSI (o : Option D) (r1 : Rho) : EO (Option Int) := match o with | some (.int i) => .ok (some i) r1 | _ => .stuck
def qS1 (x : Src) (r1 : Rho) : EO (Option Int) := qSI (x.rd r1) r1
def qSl4 (o : Option D) (lo hi : Option Int) (r3 : Rho) : EO Rv := match o with | some d => ofV (dSl d lo hi) r3 | none => .stuck
def qSl3 (x : Src) (lo hi : Option Int) (r3 : Rho) : EO Rv := qSl4 (x.rd r3) lo hi r3
def qSl2 (h : Ev (Option Int)) (x : Src) (lo : Option Int) (r2 : Rho) : EO Rv := (h r2).bind (qSl3 x lo)
def qSl (l h : Ev (Option Int)) (x : Src) (r1 : Rho) : EO Rv := (l r1).bind (qSl2 h x)
def qRL (o : Option (List D)) (f : List D → Option Rv) (r1 : Rho) : EO Rv := match o with | some ds => ofV (f ds) r1 | none => .stuck
def qCB (f : List D → Option Rv) (xs : List Src) (r1 : Rho) : EO Rv := qRL (rdAll r1 xs) f r1
def qCons (o : Option D) (p : Option (List D)) : Option (List D) := match o, p with | some d, some ds => some (d :: ds) | _, _ => none
def qSel {A : Type} (o : Option A) (l : List A) : List A := match o with | some a => a :: l | none => l
def qCall2 (F : List D → FO) (is : List Nat) (ds es : List D) (r2 : Rho) : EO Rv := ofFO (F (sel is (ds ++ es))) r2
def qCall (F : List D → FO) (is : List Nat) (vk : Ev (List D)) (ds : List D) (r1 : Rho) : EO Rv := (vk r1).bind (qCall2 F is ds)
def qMk3 (p : FO × Own) (r2 : Rho) : EO Rv := match p with | (.val .non, o) => .ok (.new o) r2 | (.exc z, _) => .exc z r2 | _ => .stuck
def qMk2 (C : Addr) (FM : Own → List D → FO × Own) (is : List Nat) (ds es : List D) (r2 : Rho) : EO Rv := qMk3 (FM (.ins C []) (sel is (ds ++ es))) r2
def qMk (C : Addr) (FM : Own → List D → FO × Own) (is : List Nat) (vk : Ev (List D)) (ds : List D) (r1 : Rho) : EO Rv := (vk r1).bind (qMk2 C FM is ds)
def qMeth3 (F : List D → FO) (is : List Nat) (o : D) (ds es : List D) (r3 : Rho) : EO Rv := ofFO (F (sel is ((o :: ds) ++ es))) r3
def qMeth2 (F : List D → FO) (is : List Nat) (vk : Ev (List D)) (o : D) (ds : List D) (r2 : Rho) : EO Rv := (vk r2).bind (qMeth3 F is o ds)
def qMeth0 (F : List D → FO) (is : List Nat) (va vk : Ev (List D)) (o : D) (r1 : Rho) (p : Prop) [Decidable p] : EO Rv := if p then (va r1).bind (qMeth2 F is vk o) else .stuck
def qMeth (C : Addr) (m : Str) (F : List D → FO) (is : List Nat) (va vk : Ev (List D)) (x : Rv) (r1 : Rho) : EO Rv := match x.data with
  | .ins C' l => qMeth0 F is va vk (.ins C' l) r1 (C' = C ∧ l.lookup m = none)
  | _ => .stuck
def qProp (C : Addr) (F : List D → FO) (x : Rv) (r1 : Rho) : EO Rv := match x.data with | .ins C' l => if C' = C then ofFO0 (F [.ins C' l]) r1 else .stuck | _ => .stuck
def qMt4 (o : Option D) (p : Option (List D)) (fm : D → List D → Option Rv) (r2 : Rho) : EO Rv := match o, p with | some d, some ds => ofV (fm d ds) r2 | _, _ => .stuck
def qMt3 (fm : D → List D → Option Rv) (x : Src) (ys : List Src) (r2 : Rho) : EO Rv := qMt4 (x.rd r2) (rdAll r2 ys) fm r2
def qMt2 (T : String) (o : Option D) (fm : D → List D → Option Rv) (as : Ev (List Src)) (x : Src) (r1 : Rho) : EO Rv := match o with | some d1 => if tyD d1 = T then (as r1).bind (qMt3 fm x) else .stuck | none => .stuck
def qMt (T : String) (fm : D → List D → Option Rv) (as : Ev (List Src)) (x : Src) (r1 : Rho) : EO Rv := qMt2 T (x.rd r1) fm as x r1
def qSeq (x : Rv) (r : Rho) : EO (List D) := match x.data with | .lst ds => .ok ds r | .tup ds => .ok ds r | .str z => .ok (signs z) r | _ => .stuck
def qEn (x : Rv) (r : Rho) : EO (List D) := match x.data with | .lst ds => .ok (enumD ds) r | .tup ds => .ok (enumD ds) r | _ => .stuck
def qRg1 (o : Option D) (r : Rho) : EO (List D) := match o with | some (.int j) => if okR j then .ok (rangeD 0 j.toNat) r else .stuck | _ => .stuck
def qRg (x : Src) (r : Rho) : EO (List D) := qRg1 (x.rd r) r
def qRh2 (o p : Option D) (r : Rho) : EO (List D) := match o, p with | some (.int i), some (.int j) => if okR i && okR j then .ok (rangeD i (j - i).toNat) r else .stuck | _, _ => .stuck
def qRh1 (x y : Src) (r : Rho) : EO (List D) := qRh2 (x.rd r) (y.rd r) r
def qRh (ob : Ev Src) (x : Src) (r : Rho) : EO (List D) := (ob r).bind (qRh1 x)
def qComp (g : Tg) (t : Ev Bool) (ev : Ev Rv) (vs : List Nat) (ds : List D) (r1 : Rho) : EO Rv := if ds.length ≤ sizeLine then (match lcL g t ev vs ds (wipeR r1 vs) with | .ok l r2 => .ok (.new (.lst l)) (restore r1 r2 vs) | _ => .stuck) else .stuck
def qDc (g : Tg) (t : Ev Bool) (ek ev : Ev Rv) (vs : List Nat) (ds : List D) (r1 : Rho) : EO Rv := if ds.length ≤ sizeLine then (match dcL g t ek ev vs ds [] (wipeR r1 vs) with | .ok l r2 => .ok (.new (.dT l)) (restore r1 r2 vs) | _ => .stuck) else .stuck
def qSet (r : Rho) (i : Nat) (c : Cell) : Rho := r.set i c
def qMut2 (c : Option Cell) (i : Nat) (FM : Own → List D → FO × Own) (ds : List D) (r1 : Rho) : EO Rv := match c with | some (.own o) => ofFO (FM o ds).1 (qSet r1 i (.own (FM o ds).2)) | _ => .stuck
def qMut1 (i : Nat) (FM : Own → List D → FO × Own) (ds : List D) (r1 : Rho) : EO Rv := qMut2 (r1[i]?) i FM ds r1
def qMut (c : Option Cell) (i : Nat) (FM : Own → List D → FO × Own) (va : Ev (List D)) (r : Rho) : EO Rv := match c with | some (.own _) => (va r).bind (qMut1 i FM) | _ => .stuck
def qMt1 (FM : Own → List D → FO × Own) (x : Rv) (r1 : Rho) : EO Rv := match x with | .new o => ofFO (FM o []).1 r1 | _ => .stuck
def qApp2 (c : Option Cell) (i : Nat) (d : D) (r1 : Rho) : EO Rv := match c with | some (.own (.lst l)) => if l.length < sizeLine then .ok (.val .non) (r1.set i (.own (.lst (l ++ [d])))) else .stuck | _ => .stuck
def qApp1 (i : Nat) (x : Rv) (r1 : Rho) : EO Rv := qApp2 (r1[i]?) i x.data r1
def qApp (c : Option Cell) (i : Nat) (ev : Ev Rv) (r : Rho) : EO Rv := match c with | some (.own (.lst _)) => (ev r).bind (qApp1 i) | _ => .stuck
def qG2 (o p : Option D) (r2 : Rho) : EO Rv := match o, p with | some d, some k => (match dGet d k with | some o => .ok (.val (o.getD .non)) r2 | none => .stuck) | _, _ => .stuck
def qG1b (x : Src) (y : Src) (r2 : Rho) : EO Rv := qG2 (x.rd r2) (y.rd r2) r2
def qG0 (o : Option D) (ob : Ev Src) (x : Src) (r1 : Rho) : EO Rv := match o with | some d1 => if isDct d1 then (ob r1).bind (qG1b x) else .stuck | none => .stuck
def qG (ob : Ev Src) (x : Src) (r1 : Rho) : EO Rv := qG0 (x.rd r1) ob x r1
def qJ1 (o : Option D) (os : List (Ev Src)) (acc : Str) (r1 : Rho) : EO Str := match o with | some (.str y) => if (acc ++ y).length ≤ sizeLine then eJoin os (acc ++ y) r1 else .stuck | _ => .stuck
def qJ (os : List (Ev Src)) (acc : Str) (x : Src) (r1 : Rho) : EO Str := qJ1 (x.rd r1) os acc r1
def qJs (x : Str) (r1 : Rho) : EO Rv := .ok (.val (.str x)) r1
def qF1 (o : Option D) (r1 : Rho) : EO Src := match o with | some (.str y) => if y.length ≤ sizeLine then .ok (.dat (.str y)) r1 else .stuck | some (.int i) => if i.natAbs.log2 < 1920 then .ok (.dat (.str (toString i))) r1 else .stuck | _ => .stuck
def qF (x : Src) (r1 : Rho) : EO Src := qF1 (x.rd r1) r1
end konts
section
variable {A B C : Type} {a : A} {m : EO A} {f : A → Rho → EO B} {g : B → Rho → EO C} {r : Rho} {d e : D} {i j : Nat} {x y : Src} {z : Rv} {k : Bool} {o : Own} {c : Option Cell} {ev ea eb ek : Ev Rv} {oa ob oc : Ev Src} {as : Ev (List Src)} {va vk : Ev (List D)} {la : Ev (List Rv)} {ta tb t tc : Ev Bool} {tg : Tg} {it : Ev (List D)} {Cc : Addr} {F : List D → FO} {FM : Own → List D → FO × Own} {is vs : List Nat} {f1 : D → Option Rv} {f2 f3 : D → D → Option Rv} {fl : List D → Option Rv} {fm : D → List D → Option Rv} {l h : Ev (Option Int)} {ds es : List D} {T : String} {n : Str}
theorem x_qP : qP a r = .ok a r := nd rfl
theorem ERef.pure {b : Type} {Ow : Rho → Prop} {v : b → A} {f : b → Rho} {t : R b} (h : ERef Ow (m.bind qP) t v f) : ERef Ow m t v f := by
  have e : m.bind qP = m := by cases m <;> rfl
  rwa [e] at h
theorem x_bok : (EO.ok a r).bind f = f a r := nd rfl
theorem x_bas : (m.bind f).bind g = m.bind (qB f g) := by cases m <;> rfl
theorem x_qB : qB f g a r = (f a r).bind g := nd rfl
theorem x_ofV : ofV (some z) r = .ok z r := nd rfl
theorem x_eC : eC d r = .ok (.val d) r := nd rfl
theorem x_oC : oC d r = .ok (.dat d) r := nd rfl
theorem x_oN : oN i r = qN i (r[i]?) r := nd rfl
theorem x_qN : qN i (some (.val d)) r = .ok (.dat d) r := nd rfl
theorem x_qNo : qN i (some (.own o)) r = .ok (.slot i) r := nd rfl
theorem x_eN : eN i r = qNE i (r[i]?) r := nd rfl
theorem x_qNE : qNE i (some (.val d)) r = .ok (.val d) r := nd rfl
theorem x_qNEo : qNE i (some (.own o)) r = .ok (.val o.data) (r.set i (.val o.data)) := nd rfl
theorem x_rd : (Src.dat d).rd r = some d := nd rfl
theorem x_rdS : (Src.slot i).rd r = qD (r[i]?) := nd (by unfold Src.rd qD; rfl)
theorem x_qD : qD (some (.val d)) = some d := nd rfl
theorem x_qDo : qD (some (.own o)) = some o.data := nd rfl
theorem x_oE : oE ev r = (ev r).bind qOE := nd rfl
theorem x_qOE : qOE z r = .ok (.dat z.data) r := nd rfl
theorem x_e1 : e1 f1 oa r = (oa r).bind (q1 f1) := nd rfl
theorem x_q1 : q1 f1 x r = qR1 (x.rd r) f1 r := nd rfl
theorem x_qR1 : qR1 (some d) f1 r = ofV (f1 d) r := nd rfl
theorem x_two : two f2 x y r = qR2 (x.rd r) (y.rd r) f2 r := nd rfl
theorem x_qR2 : qR2 (some d) (some e) f2 r = ofV (f2 d e) r := nd rfl
theorem x_e2 : e2 f2 oa ob r = (oa r).bind (q2 f2 ob) := nd rfl
theorem x_q2 : q2 f2 ob x r = (ob r).bind (q2b f2 x) := nd rfl
theorem x_q2b : q2b f2 x y r = two f2 x y r := nd rfl
theorem x_e3 : e3 f2 f3 oa ob oc r = (oa r).bind (q3 f2 f3 ob oc) := by
  show EO.bind _ _ = EO.bind _ _
  congr 1; funext x r1
  show EO.bind _ _ = EO.bind _ _
  congr 1; funext y r2
  show EO.bind _ _ = EO.bind _ _
  congr 1; funext z r3
  unfold q3c
  cases z with
  | new o => rfl
  | val d => cases d with
    | bl k => cases k <;> rfl
    | _ => rfl
theorem x_q3 : q3 f2 f3 ob oc x r = (ob r).bind (q3b f2 f3 oc x) := nd rfl
theorem x_q3b : q3b f2 f3 oc x y r = (two f2 x y r).bind (q3c f3 oc y) := nd rfl
theorem x_q3c : q3c f3 oc y (.val (.bl k)) r = q3d f3 oc y k r := nd rfl
theorem x_tv : tv ev r = (ev r).bind qTv := nd rfl
theorem x_qTv : qTv (.val (.bl k)) r = .ok k r := nd rfl
theorem x_tTr : tTr oa r = (oa r).bind qTr := nd rfl
theorem x_qTr : qTr x r = qTr1 (x.rd r) r := nd rfl
theorem x_qTr1 : qTr1 (some d) r = qTr2 (truD d) r := nd rfl
theorem x_qTr2 : qTr2 (some k) r = .ok k r := nd rfl
theorem x_tTrO : tTrO Cc F oa r = (oa r).bind (qTO Cc F) := nd rfl
theorem x_qTO : qTO Cc F x r = qTO1 Cc F (x.rd r) r := nd rfl
theorem x_qTO1 : qTO1 Cc F (some d) r = qTr2 (dBool Cc F d) r := nd rfl
theorem x_tAnd : tAndE ta tb r = (ta r).bind (qAnd tb) := nd rfl
theorem x_qAnd1 : qAnd tb true r = tb r := nd rfl
theorem x_qAnd0 : qAnd tb false r = .ok false r := nd rfl
theorem x_tOr : tOrE ta tb r = (ta r).bind (qOr tb) := nd rfl
theorem x_qOr1 : qOr tb true r = .ok true r := nd rfl
theorem x_qOr0 : qOr tb false r = tb r := nd rfl
theorem x_tNot : tNotE ta r = (ta r).bind qNot := nd rfl
theorem x_qNot : qNot k r = .ok (!k) r := nd rfl
theorem x_tT : tT r = .ok true r := nd rfl
theorem x_eAnd : eAnd ea eb r = (ea r).bind (qEAnd eb) := by
  show EO.bind _ _ = EO.bind _ _
  congr 1; funext x r1
  unfold qEAnd qEAnd1
  cases x with
  | new o => rfl
  | val d => cases d with
    | bl k => cases k <;> rfl
    | _ => rfl
theorem x_qEAnd : qEAnd eb (.val (.bl k)) r = qEAnd1 eb k r := nd rfl
theorem x_eOr : eOr ea eb r = (ea r).bind (qEOr eb) := by
  show EO.bind _ _ = EO.bind _ _
  congr 1; funext x r1
  unfold qEOr qEOr1
  cases x with
  | new o => rfl
  | val d => cases d with
    | bl k => cases k <;> rfl
    | _ => rfl
theorem x_qEOr : qEOr eb (.val (.bl k)) r = qEOr1 eb k r := nd rfl
theorem x_eNot : eNot ea r = (ea r).bind qENot := nd rfl
theorem x_qENot : qENot (.val (.bl k)) r = .ok (.val (.bl (!k))) r := nd rfl
theorem x_eIf : eIf tc ea eb r = (tc r).bind (qEIf ea eb) := nd rfl
theorem x_eIx : eIx oa ob r = e2 (fun d i => (dIx d i).map .val) oa ob r := nd rfl
theorem x_eCB : eCB fl as r = (as r).bind (qCB fl) := nd rfl
theorem x_qCB {xs : List Src} : qCB fl xs r = qRL (rdAll r xs) fl r := nd rfl
theorem x_qRL : qRL (some ds) fl r = ofV (fl ds) r := nd rfl
theorem x_rdN : rdAll r [] = some [] := nd rfl
theorem x_rdC {xs : List Src} : rdAll r (x :: xs) = qCons (x.rd r) (rdAll r xs) := nd rfl
theorem x_qCons : qCons (some d) (some ds) = some (d :: ds) := nd rfl
theorem x_aNil : aNil r = .ok [] r := nd rfl
theorem x_aCons : aCons oa as r = (oa r).bind (qA as) := nd rfl
theorem x_qA : qA as x r = (as r).bind (qA2 x) := nd rfl
theorem x_qA2 {xs : List Src} : qA2 x xs r = .ok (x :: xs) r := nd rfl
theorem x_vNil : vNil r = .ok [] r := nd rfl
theorem x_vCons : vCons ea va r = (ea r).bind (qV va) := nd rfl
theorem x_qV : qV va z r = (va r).bind (qV2 z.data) := nd rfl
theorem x_qV2 : qV2 d ds r = .ok (d :: ds) r := nd rfl
theorem x_vStar : vStar ea va r = (ea r).bind (qVS va) := nd rfl
theorem x_qVS1 : qVS va (.new (.lst ds)) r = (va r).bind (qVS2 ds) := nd rfl
theorem x_qVS2 : qVS va (.val (.tup ds)) r = (va r).bind (qVS2 ds) := nd rfl
theorem x_qVS3 : qVS va (.val (.lst ds)) r = (va r).bind (qVS2 ds) := nd rfl
theorem x_qVSe : qVS2 ds es r = .ok (ds ++ es) r := nd rfl
theorem x_lNil : lNil r = .ok [] r := nd rfl
theorem x_lCons : lCons ea la r = (ea r).bind (qL la) := nd rfl
theorem x_qL : qL la z r = (la r).bind (qL2 z) := nd rfl
theorem x_qL2 {zs : List Rv} : qL2 z zs r = .ok (z :: zs) r := nd rfl
theorem x_eTup : eTup va r = (va r).bind qTup := nd rfl
theorem x_eLst : eLst va r = (va r).bind qLst := nd rfl
theorem s1000 : (1000 : Nat) ≤ sizeLine := by rw [sizeLine_eq]; decide
theorem qTup_of (h : ds.length ≤ 1000) : qTup ds r = .ok (.val (.tup ds)) r := if_pos (Nat.le_trans h s1000)
theorem qLst_of (h : ds.length ≤ 1000) : qLst ds r = .ok (.new (.lst ds)) r := if_pos (Nat.le_trans h s1000)
theorem x_pNone : pNone r = .ok none r := nd rfl
theorem x_pSome : pSome oa r = (oa r).bind qS1 := by
  show EO.bind _ _ = EO.bind _ _
  congr 1
theorem x_qS1 : qS1 x r = qSI (x.rd r) r := nd rfl
theorem x_qSI {n : Int} : qSI (some (.int n)) r = .ok (some n) r := nd rfl
theorem x_eSl : eSl oa l h r = (oa r).bind (qSl l h) := nd rfl
theorem x_qSl : qSl l h x r = (l r).bind (qSl2 h x) := nd rfl
theorem x_qSl2 {lo : Option Int} : qSl2 h x lo r = (h r).bind (qSl3 x lo) := nd rfl
theorem x_qSl3 {lo hi : Option Int} : qSl3 x lo hi r = qSl4 (x.rd r) lo hi r := nd rfl
theorem x_qSl4 {lo hi : Option Int} : qSl4 (some d) lo hi r = ofV (dSl d lo hi) r := nd rfl
theorem x_selN {A : Type} {l : List A} : sel [] l = [] := nd rfl
theorem x_selC {A : Type} {l : List A} : sel (i :: is) l = qSel l[i]? (sel is l) := by
  unfold sel qSel
  rw [List.filterMap_cons]
  cases l[i]? <;> rfl
theorem x_qSel {A : Type} {a : A} {l : List A} : qSel (some a) l = a :: l := nd rfl
theorem x_eCall : eCall F is va vk r = (va r).bind (qCall F is vk) := nd rfl
theorem x_qCall : qCall F is vk ds r = (vk r).bind (qCall2 F is ds) := nd rfl
theorem x_qCall2 : qCall2 F is ds es r = ofFO (F (sel is (ds ++ es))) r := nd rfl
theorem x_eMake : eMake Cc FM is va vk r = (va r).bind (qMk Cc FM is vk) := nd rfl
theorem x_qMk : qMk Cc FM is vk ds r = (vk r).bind (qMk2 Cc FM is ds) := nd rfl
theorem x_qMk2 : qMk2 Cc FM is ds es r = qMk3 (FM (.ins Cc []) (sel is (ds ++ es))) r := nd rfl
theorem x_eMeth : eMeth Cc n F is ev va vk r = (ev r).bind (qMeth Cc n F is va vk) := nd rfl
theorem x_qMeth {C' : Addr} {q : List (Str × D)} : qMeth Cc n F is va vk (.val (.ins C' q)) r = qMeth0 F is va vk (.ins C' q) r (C' = Cc ∧ q.lookup n = none) := nd rfl
theorem x_qMethn {C' : Addr} {q : List (Str × D)} : qMeth Cc n F is va vk (.new (.ins C' q)) r = qMeth0 F is va vk (.ins C' q) r (C' = Cc ∧ q.lookup n = none) := nd rfl
theorem x_qMeth0 {q : Prop} [Decidable q] (h : q) : qMeth0 F is va vk d r q = (va r).bind (qMeth2 F is vk d) := if_pos h
theorem x_qMeth2 : qMeth2 F is vk d ds r = (vk r).bind (qMeth3 F is d ds) := nd rfl
theorem x_qMeth3 : qMeth3 F is d ds es r = ofFO (F (sel is ((d :: ds) ++ es))) r := nd rfl
theorem x_eProp : eProp Cc F ev r = (ev r).bind (qProp Cc F) := nd rfl
theorem x_qProp {q : List (Str × D)} : qProp Cc F (.val (.ins Cc q)) r = ofFO0 (F [.ins Cc q]) r := if_pos rfl
theorem x_eMt : eMt T fm oa as r = (oa r).bind (qMt T fm as) := nd rfl
theorem x_qMt : qMt T fm as x r = qMt2 T (x.rd r) fm as x r := nd rfl
theorem x_qMt2 (h : tyD d = T) : qMt2 T (some d) fm as x r = (as r).bind (qMt3 fm x) := if_pos h
theorem x_qMt2s {s : Str} : qMt2 "str" (some (.str s)) fm as x r = (as r).bind (qMt3 fm x) := x_qMt2 rfl
theorem x_qMt2i {s : Int} : qMt2 "int" (some (.int s)) fm as x r = (as r).bind (qMt3 fm x) := x_qMt2 rfl
theorem x_qMt2l : qMt2 "list" (some (.lst ds)) fm as x r = (as r).bind (qMt3 fm x) := x_qMt2 rfl
theorem x_qMt2d {q : List (List Key × D)} : qMt2 "dict" (some (.dT q)) fm as x r = (as r).bind (qMt3 fm x) := x_qMt2 rfl
theorem x_qMt2k {q : List (Key × D)} : qMt2 "dict" (some (.dK q)) fm as x r = (as r).bind (qMt3 fm x) := x_qMt2 rfl
theorem x_qMt3 {ys : List Src} : qMt3 fm x ys r = qMt4 (x.rd r) (rdAll r ys) fm r := nd rfl
theorem x_qMt4 : qMt4 (some d) (some ds) fm r = ofV (fm d ds) r := nd rfl
theorem x_eDT : eDT r = .ok (.new (.dT [])) r := nd rfl
theorem x_eDK : eDK r = .ok (.new (.dK [])) r := nd rfl
theorem x_iSeq : iSeq ev r = (ev r).bind qSeq := nd rfl
theorem x_qSeq1 : qSeq (.val (.lst ds)) r = .ok ds r := nd rfl
theorem x_qSeq2 : qSeq (.val (.tup ds)) r = .ok ds r := nd rfl
theorem x_qSeq3 : qSeq (.new (.lst ds)) r = .ok ds r := nd rfl
theorem x_qSeq4 {s : Str} : qSeq (.val (.str s)) r = .ok (signs s) r := nd rfl
theorem x_iEn : iEn ev r = (ev r).bind qEn := nd rfl
theorem x_qEn1 : qEn (.val (.lst ds)) r = .ok (enumD ds) r := nd rfl
theorem x_qEn2 : qEn (.val (.tup ds)) r = .ok (enumD ds) r := nd rfl
theorem x_qEn3 : qEn (.new (.lst ds)) r = .ok (enumD ds) r := nd rfl
theorem x_iRange1 : iRange1 oa r = (oa r).bind qRg := by
  show EO.bind _ _ = EO.bind _ _
  congr 1
theorem x_qRg : qRg x r = qRg1 (x.rd r) r := nd rfl
theorem x_iRange2 : iRange2 oa ob r = (oa r).bind (qRh ob) := by
  show EO.bind _ _ = EO.bind _ _
  congr 1
theorem x_qRh : qRh ob x r = (ob r).bind (qRh1 x) := nd rfl
theorem x_qRh1 : qRh1 x y r = qRh2 (x.rd r) (y.rd r) r := nd rfl
theorem x_eComp : eComp it tg t ev vs r = (it r).bind (qComp tg t ev vs) := nd rfl
theorem x_eDc : eDc it tg t ek ev vs r = (it r).bind (qDc tg t ek ev vs) := nd rfl
theorem x_eMut : eMut i FM va r = qMut (r[i]?) i FM va r := nd rfl
theorem x_qMut : qMut (some (.own o)) i FM va r = (va r).bind (qMut1 i FM) := nd rfl
theorem x_qMut1 : qMut1 i FM ds r = qMut2 (r[i]?) i FM ds r := nd rfl
theorem x_qMut2 : qMut2 (some (.own o)) i FM ds r = ofFO (FM o ds).1 (qSet r i (.own (FM o ds).2)) := nd rfl
theorem x_eMut1 : eMut1 FM ev r = (ev r).bind (qMt1 FM) := nd rfl
theorem x_qMt1 : qMt1 FM (.new o) r = ofFO (FM o []).1 r := nd rfl
theorem x_eApp : eApp i ev r = qApp (r[i]?) i ev r := nd rfl
theorem x_qApp {q : List D} : qApp (some (.own (.lst q))) i ev r = (ev r).bind (qApp1 i) := nd rfl
theorem x_qApp1 : qApp1 i z r = qApp2 (r[i]?) i z.data r := nd rfl
theorem x_eGet1 : eGet1 oa ob r = (oa r).bind (qG ob) := nd rfl
theorem x_qG : qG ob x r = qG0 (x.rd r) ob x r := nd rfl
theorem x_qG0 {q : List (List Key × D)} : qG0 (some (.dT q)) ob x r = (ob r).bind (qG1b x) := nd rfl
theorem x_qG0k {q : List (Key × D)} : qG0 (some (.dK q)) ob x r = (ob r).bind (qG1b x) := nd rfl
theorem x_qG1 : qG1b x y r = qG2 (x.rd r) (y.rd r) r := nd rfl
theorem x_eJs {os : List (Ev Src)} : eJs os r = (eJoin os Str.empty r).bind qJs := nd rfl
theorem x_qJs {s : Str} : qJs s r = .ok (.val (.str s)) r := nd rfl
theorem x_eJoinN {acc : Str} : eJoin [] acc r = .ok acc r := nd rfl
theorem x_eJoinC {os : List (Ev Src)} {acc : Str} : eJoin (oa :: os) acc r = (oa r).bind (qJ os acc) := by
  show EO.bind _ _ = EO.bind _ _
  congr 1
theorem x_qJ {os : List (Ev Src)} {acc : Str} : qJ os acc x r = qJ1 (x.rd r) os acc r := nd rfl
theorem x_oFmt : oFmt oa r = (oa r).bind qF := by
  show EO.bind _ _ = EO.bind _ _
  congr 1
theorem x_qF : qF x r = qF1 (x.rd r) r := nd rfl
theorem x_dv : (Rv.val d).data = d := nd rfl
theorem x_dn : (Rv.new o).data = o.data := nd rfl
theorem x_ol {q : List D} : (Own.lst q).data = .lst q := nd rfl
theorem x_ot {q : List (List Key × D)} : (Own.dT q).data = .dT q := nd rfl
theorem x_ok {q : List (Key × D)} : (Own.dK q).data = .dK q := nd rfl
theorem x_oi {q : List (Str × D)} : (Own.ins Cc q).data = .ins Cc q := nd rfl
theorem x_cv : cellOf (.val d) = .val d := nd rfl
theorem x_cn : cellOf (.new o) = .own o := nd rfl
theorem x_map {A B : Type} {f : A → B} {a : A} : (some a).map f = some (f a) := nd rfl
end
end Mp
set_option Elab.async false
set_option linter.all false
set_option maxRecDepth 100000
namespace Mp
open PySem PySem.Spec PyProof.Rows L2 Evl
/-! ### typed values as data -/
abbrev eL {A : Type} (e : A → D) (l : List A) : D := .lst (l.map e)
abbrev eT {A : Type} (e : A → D) (l : List A) : D := .tup (l.map e)
abbrev e2T {A B : Type} (ea : A → D) (eb : B → D) (p : A × B) : D := .tup [ea p.1, eb p.2]
abbrev e3T {A B C : Type} (ea : A → D) (eb : B → D) (ec : C → D) (p : A × B × C) : D := .tup [ea p.1, eb p.2.1, ec p.2.2]
abbrev e4T {A B C E : Type} (ea : A → D) (eb : B → D) (ec : C → D) (ed : E → D) (p : A × B × C × E) : D := .tup [ea p.1, eb p.2.1, ec p.2.2.1, ed p.2.2.2]
def eO {A : Type} (e : A → D) : Option A → D
  | some a => e a
  | none => .non
abbrev eU : Unit → D := fun _ => .non
abbrev eD : D → D := fun d => d
theorem x_eOs {A : Type} {e : A → D} {a : A} : eO e (some a) = e a := rfl
theorem x_eOn {A : Type} {e : A → D} : eO e none = .non := rfl
/-- dicts with tuple keys, with int or text keys -/
abbrev eDT' {K A : Type} (ek : K → List Key) (e : A → D) (l : List (K × A)) : List (List Key × D) := l.map fun p => (ek p.1, e p.2)
abbrev eDK' {K A : Type} (ek : K → Key) (e : A → D) (l : List (K × A)) : List (Key × D) := l.map fun p => (ek p.1, e p.2)
abbrev k2I (p : Int × Int) : List Key := [.inl p.1, .inl p.2]
def lkT {K A : Type} [DecidableEq K] (l : List (K × A)) (k : K) : Option A := (l.find? fun p => decide (p.1 = k)).map (·.2)
def putT {K A : Type} [DecidableEq K] (l : List (K × A)) (k : K) (v : A) : List (K × A) := if (l.any fun p => decide (p.1 = k)) = true then l.map (fun p => if p.1 = k then (p.1, v) else p) else l ++ [(k, v)]
theorem lkT_map {K A Q : Type} [DecidableEq K] [DecidableEq Q] {ek : K → Q} {e : A → D} (inj : ∀ a b, ek a = ek b → a = b) (l : List (K × A)) (k : K) : lkp (l.map fun p => (ek p.1, e p.2)) (ek k) = (lkT l k).map e := by
  induction l with
  | nil => rfl
  | cons p l ih =>
    unfold lkp lkT at ih ⊢
    rw [List.map_cons, List.find?_cons, List.find?_cons]
    by_cases h : p.1 = k
    · subst h; simp
    · have h2 : ¬ ek p.1 = ek k := fun z => h (inj _ _ z)
      simp only [h, h2, decide_false]
      exact ih
theorem putT_map {K A Q : Type} [DecidableEq K] [DecidableEq Q] {ek : K → Q} {e : A → D} (inj : ∀ a b, ek a = ek b → a = b) (l : List (K × A)) (k : K) (v : A) : putD (l.map fun p => (ek p.1, e p.2)) (ek k) (e v) = (putT l k v).map fun p => (ek p.1, e p.2) := by
  have iff : ∀ p : K × A, (ek p.1 = ek k) ↔ (p.1 = k) := fun p => ⟨inj _ _, fun z => by rw [z]⟩
  unfold putD putT
  have ha : ((l.map fun p => (ek p.1, e p.2)).any fun p => decide (p.1 = ek k)) = (l.any fun p => decide (p.1 = k)) := by
    rw [List.any_map]; congr 1; funext p; exact decide_eq_decide.mpr (iff p)
  rw [ha]
  by_cases hc : (l.any fun p => decide (p.1 = k)) = true
  · rw [if_pos hc, if_pos hc, List.map_map, List.map_map]
    apply List.map_congr_left
    intro p _
    simp only [Function.comp]
    by_cases h : p.1 = k
    · rw [if_pos h, if_pos ((iff p).mpr h)]
    · rw [if_neg h, if_neg fun z => h ((iff p).mp z)]
  · rw [if_neg hc, if_neg hc, List.map_append]; rfl
theorem k2I_inj : ∀ a b : Int × Int, k2I a = k2I b → a = b := fun a b h => by
  cases a; cases b; simp only [k2I, List.cons.injEq, Sum.inl.injEq, and_true] at h; rw [h.1, h.2]
abbrev kI (i : Int) : Key := .inl i
abbrev kS (s : Str) : Key := .inr s
theorem kI_inj : ∀ a b : Int, kI a = kI b → a = b := fun a b h => by cases h; rfl
theorem kS_inj : ∀ a b : Str, kS a = kS b → a = b := fun a b h => by cases h; rfl
/-! ### typed operations that may not come to an end -/
namespace R
variable {A B : Type}
def mul (a b : Int) : R Int := R.grd (okMul a b = true) (.ok (a * b))
def div (a b : Int) : R Int := R.grd (0 < b ∧ b < 1073741824) (.ok (a / b))
def mod (a b : Int) : R Int := R.grd (0 < b) (.ok (a % b))
def pow (a b : Int) : R Int := R.grd (0 ≤ b ∧ b ≤ 1000 ∧ a.natAbs < 18446744073709551616) (.ok (a ^ b.toNat))
def dmod (a b : Int) : R (Int × Int) := R.grd (0 < b ∧ b < 1073741824) (.ok (a / b, a % b))
def cat (a b : List A) : R (List A) := R.grd (a.length + b.length ≤ sizeLine) (.ok (a ++ b))
def catS (a b : Str) : R Str := R.grd (a.length + b.length ≤ sizeLine) (.ok (a ++ b))
def rep (a : List A) (k : Int) : R (List A) := R.grd (k.natAbs ≤ 100000 ∧ a.length * k.toNat ≤ sizeLine) (.ok (List.replicate k.toNat a).flatten)
def at_ (l : List A) (i : Int) : R A := R.ofO (atI l i)
def atS (z : Str) (i : Int) : R Str := R.grd (z.length ≤ sizeLine) (R.ofO ((atI z.cps.toList i).map fun c => ⟨#[c]⟩))
def push (l : List A) (x : A) : R (List A) := R.grd (l.length < sizeLine) (.ok (l ++ [x]))
def eqD (d e : D) : R Bool := R.ofO (dEqB d e)
def inD (d e : D) : R Bool := R.ofO (dInA d e)
def reprD (d : D) : R Str := R.ofO (match dRepr [d] with | some (.val (.str s)) => some s | _ => none)
def str (i : Int) : R Str := R.grd (i.natAbs.log2 < 1920) (.ok (toString i))
def fmtS (s : Str) : R Str := R.grd (s.length ≤ sizeLine) (.ok s)
def lenS (s : Str) : R Int := R.grd (s.length ≤ sizeLine) (.ok s.length)
def chars (z : Str) : List Str := z.cps.toList.map fun c => ⟨#[c]⟩
def listS (z : Str) : R (List Str) := R.grd (z.length ≤ sizeLine) (.ok (chars z))
def intS (a : Str) : R Int := R.grd (a.length ≤ 640) (R.ofO (PySem.intText? a))
def join (a : Str) (ys : List Str) : R Str := R.grd ((ys.map (·.length)).sum + ys.length * a.length ≤ 16777216) (.ok (Txt.join a ys))
def split (a b : Str) : R (List Str) := R.grd ((b.length == 0) = false ∧ a.length + 2 ≤ sizeLine) (.ok (Txt.split a b))
def cutZ (z : Str) (lo hi : Option Int) : R Str := R.grd (z.length ≤ sizeLine) (.ok (cutS z lo hi))
def put [DecidableEq A] (l : List (A × B)) (k : A) (v : B) : R (List (A × B)) := R.grd (l.length < sizeLine) (.ok (putT l k v))
def get [DecidableEq A] (l : List (A × B)) (k : A) : R B := R.ofO (lkT l k)
def setI (l : List A) (k : Int) (x : A) : R (List A) := R.ofO ((ixN l.length k).map fun j => l.set j x)
def range1 (j : Int) : R (List Int) := R.grd (okR j = true) (.ok ((List.range j.toNat).map fun i => (i : Nat)))
def range2 (i j : Int) : R (List Int) := R.grd ((okR i && okR j) = true) (.ok ((List.range (j - i).toNat).map fun n => i + (n : Nat)))
def trS (s : Str) : R Bool := R.grd (s.length ≤ sizeLine) (.ok ((s.length : Int) != 0))
end R
section
variable {A B b c : Type} {Ow : Rho → Prop} {r : Rho} {e : A → D}
theorem ERef.ofO {o : Option Rv} {t : Option b} {v : b → Rv} (h : o = t.map v) : ERef Ow (ofV o r) (R.ofO t) v (fun _ => r) := by
  subst h; cases t with
  | none => trivial
  | some x => exact rfl
theorem ERef.ofG {o : Option Rv} {x : b} {p : Prop} [Decidable p] {v : b → Rv} (h : o = if p then some (v x) else none) : ERef Ow (ofV o r) (R.grd p (.ok x)) v (fun _ => r) := by
  subst h
  refine ERef.grd fun hp => ?_
  rw [if_pos hp]; exact rfl
theorem op_mul (x y : Int) : ERef Ow (ofV (dMul (.int x) (.int y)) r) (R.mul x y) (fun i => .val (.int i)) (fun _ => r) := ERef.ofG rfl
theorem op_div (x y : Int) : ERef Ow (ofV (dDiv (.int x) (.int y)) r) (R.div x y) (fun i => .val (.int i)) (fun _ => r) := ERef.ofG rfl
theorem op_mod (x y : Int) : ERef Ow (ofV (dMod (.int x) (.int y)) r) (R.mod x y) (fun i => .val (.int i)) (fun _ => r) := ERef.ofG rfl
theorem op_pow (x y : Int) : ERef Ow (ofV (dPow (.int x) (.int y)) r) (R.pow x y) (fun i => .val (.int i)) (fun _ => r) := ERef.ofG rfl
theorem op_dmod (x y : Int) : ERef Ow (ofV (dDivmod [.int x, .int y]) r) (R.dmod x y) (fun p => .val (e2T .int .int p)) (fun _ => r) := ERef.ofG rfl
theorem op_cat (e : A → D) (x y : List A) : ERef Ow (ofV (dAdd (.lst (x.map e)) (.lst (y.map e))) r) (R.cat x y) (fun l => .new (.lst (l.map e))) (fun _ => r) := ERef.ofG (by
  unfold dAdd; simp only [List.length_map, List.map_append])
theorem op_catT (e : A → D) (x y : List A) : ERef Ow (ofV (dAdd (.tup (x.map e)) (.tup (y.map e))) r) (R.cat x y) (fun l => .val (.tup (l.map e))) (fun _ => r) := ERef.ofG (by
  unfold dAdd; simp only [List.length_map, List.map_append])
theorem op_catS (x y : Str) : ERef Ow (ofV (dAdd (.str x) (.str y)) r) (R.catS x y) (fun l => .val (.str l)) (fun _ => r) := ERef.ofG rfl
theorem map_rep {k : Nat} {e : A → D} (x : List A) : (List.replicate k (x.map e)).flatten = ((List.replicate k x).flatten).map e := by
  induction k with
  | zero => rfl
  | succ k ih => rw [List.replicate_succ, List.replicate_succ, List.flatten_cons, List.flatten_cons, List.map_append, ih]
theorem op_rep (e : A → D) (x : List A) (k : Int) : ERef Ow (ofV (dMul (.lst (x.map e)) (.int k)) r) (R.rep x k) (fun l => .new (.lst (l.map e))) (fun _ => r) := ERef.ofG (by
  unfold dMul; simp only [List.length_map, map_rep])
theorem atI_map {B : Type} (f : A → B) (l : List A) (i : Int) : atI (l.map f) i = (atI l i).map f := by
  unfold atI; rw [List.length_map]
  cases ixN l.length i with
  | none => rfl
  | some j => show (l.map f)[j]? = (l[j]?).map f; rw [List.getElem?_map]
theorem op_at (e : A → D) (l : List A) (i : Int) : ERef Ow (ofV ((dIx (.lst (l.map e)) (.int i)).map .val) r) (R.at_ l i) (fun x => .val (e x)) (fun _ => r) := ERef.ofO (by
  show Option.map Rv.val (atI (l.map e) i) = _
  rw [atI_map]; cases atI l i <;> rfl)
theorem op_atT (e : A → D) (l : List A) (i : Int) : ERef Ow (ofV ((dIx (.tup (l.map e)) (.int i)).map .val) r) (R.at_ l i) (fun x => .val (e x)) (fun _ => r) := ERef.ofO (by
  show Option.map Rv.val (atI (l.map e) i) = _
  rw [atI_map]; cases atI l i <;> rfl)
theorem op_atC (l : List Int) (i : Int) : ERef Ow (ofV ((dIx (.scr l) (.int i)).map .val) r) (R.at_ l i) (fun x => .val (.int x)) (fun _ => r) := ERef.ofO (by
  show Option.map Rv.val ((atI l i).map .int) = _
  cases atI l i <;> rfl)
theorem op_atS (z : Str) (i : Int) : ERef Ow (ofV ((dIx (.str z) (.int i)).map .val) r) (R.atS z i) (fun x => .val (.str x)) (fun _ => r) := by
  refine ERef.grd fun hz => ERef.ofO ?_
  show Option.map Rv.val (if z.length ≤ sizeLine then (atI z.cps.toList i).map fun c => .str ⟨#[c]⟩ else none) = _
  rw [if_pos hz]; cases atI z.cps.toList i <;> rfl
theorem op_eq (d e : D) : ERef Ow (ofV (dEq d e) r) (R.eqD d e) (fun k => .val (.bl k)) (fun _ => r) := ERef.ofO (by unfold dEq; rfl)
theorem op_ne (d e : D) : ERef Ow (ofV (dNe d e) r) (R.eqD d e) (fun k => .val (.bl (!k))) (fun _ => r) := ERef.ofO (by unfold dNe; rfl)
theorem op_in (f : Bool → Bool) (d e : D) : ERef Ow (ofV (dInF f d e) r) (R.inD d e) (fun k => .val (.bl (f k))) (fun _ => r) := ERef.ofO (by unfold dInF; rfl)
theorem op_repr (d : D) : ERef Ow (ofV (dRepr [d]) r) (R.reprD d) (fun s => .val (.str s)) (fun _ => r) := ERef.ofO (by
  cases h : dRepr [d] with
  | none => rfl
  | some v =>
    unfold dRepr at h
    simp only at h
    split at h
    · split at h
      · cases h; rfl
      · cases h
    · cases h)
theorem op_str (i : Int) : ERef Ow (ofV (dStr [.int i]) r) (R.str i) (fun s => .val (.str s)) (fun _ => r) := ERef.ofG rfl
theorem op_fmtI (i : Int) : ERef Ow (qF1 (some (.int i)) r) (R.str i) (fun s => .dat (.str s)) (fun _ => r) := ERef.grd fun h => by rw [show qF1 (some (.int i)) r = _ from if_pos h]; exact rfl
theorem op_fmtS (s : Str) : ERef Ow (qF1 (some (.str s)) r) (R.fmtS s) (fun s => .dat (.str s)) (fun _ => r) := ERef.grd fun h => by rw [show qF1 (some (.str s)) r = _ from if_pos h]; exact rfl
theorem op_join1 {s acc : Str} {os : List (Ev Src)} (h : (acc ++ s).length ≤ sizeLine) : qJ1 (some (.str s)) os acc r = eJoin os (acc ++ s) r := if_pos h
theorem op_lenS (s : Str) : ERef Ow (ofV (dLen [.str s]) r) (R.lenS s) (fun i => .val (.int i)) (fun _ => r) := ERef.ofG rfl
theorem signs_chars (z : Str) : signs z = (R.chars z).map .str := by unfold signs R.chars; rw [List.map_map]; rfl
theorem op_listS (z : Str) : ERef Ow (ofV (dOr dListOf dListStr [.str z]) r) (R.listS z) (fun l => .new (.lst (l.map .str))) (fun _ => r) := ERef.ofG (by
  show (if z.length ≤ sizeLine then some (Rv.new (.lst (signs z))) else none) = _
  rw [signs_chars])
theorem op_intS (z : Str) : ERef Ow (ofV (dInt [.str z]) r) (R.intS z) (fun i => .val (.int i)) (fun _ => r) := by
  refine ERef.grd fun hz => ERef.ofO ?_
  show (if z.length ≤ 640 then (match PySem.intText? z with | some n => vI n | none => none) else none) = _
  rw [if_pos hz]; cases PySem.intText? z <;> rfl
theorem toStrs_map (l : List Str) : toStrs (l.map .str) = some l := by
  induction l with
  | nil => rfl
  | cons x l ih => rw [List.map_cons]; unfold toStrs; rw [ih]; rfl
theorem toBls_map (l : List Bool) : toBls (l.map .bl) = some l := by
  induction l with
  | nil => rfl
  | cons x l ih => rw [List.map_cons]; unfold toBls; rw [ih]; rfl
theorem toInts_map (l : List Int) : toInts (l.map .int) = some l := by
  induction l with
  | nil => rfl
  | cons x l ih => rw [List.map_cons]; unfold toInts; rw [ih]; rfl
theorem op_join (z : Str) (l : List Str) : ERef Ow (ofV (dJoin (.str z) [.lst (l.map D.str)]) r) (R.join z l) (fun s => .val (.str s)) (fun _ => r) := ERef.ofG (by
  show (match toStrs (l.map D.str) with | some ys => if (ys.map fun y : Str => y.length).sum + ys.length * z.length ≤ 16777216 then vS (Txt.join z ys) else none | none => none) = _
  rw [toStrs_map]; rfl)
theorem op_split (z y : Str) : ERef Ow (ofV (dSplit (.str z) [.str y]) r) (R.split z y) (fun l => .new (.lst (l.map .str))) (fun _ => r) := ERef.ofG rfl
theorem op_cutS (z : Str) (lo hi : Option Int) : ERef Ow (ofV (dSl (.str z) lo hi) r) (R.cutZ z lo hi) (fun s => .val (.str s)) (fun _ => r) := ERef.ofG rfl
theorem op_trS (z : Str) : ERef Ow (qTr2 (truD (.str z)) r) (R.trS z) id (fun _ => r) := ERef.grd fun h => by rw [show truD (.str z) = _ from if_pos h]; exact rfl
theorem op_rg1 (j : Int) : ERef Ow (qRg1 (some (.int j)) r) (R.range1 j) (fun l => l.map .int) (fun _ => r) := ERef.grd fun h => by
  rw [show qRg1 (some (.int j)) r = _ from if_pos h]
  have e1 : rangeD 0 j.toNat = List.map .int ((List.range j.toNat).map fun i => ((i : Nat) : Int)) := by unfold rangeD; rw [List.map_map]; apply List.map_congr_left; intro i _; simp only [Function.comp]; rw [Int.zero_add]
  rw [e1]; exact rfl
theorem op_rg2 (i j : Int) : ERef Ow (qRh2 (some (.int i)) (some (.int j)) r) (R.range2 i j) (fun l => l.map .int) (fun _ => r) := ERef.grd fun h => by
  rw [show qRh2 (some (.int i)) (some (.int j)) r = _ from if_pos h]
  have e1 : rangeD i (j - i).toNat = List.map .int ((List.range (j - i).toNat).map fun n => i + ((n : Nat) : Int)) := by unfold rangeD; rw [List.map_map]; rfl
  rw [e1]; exact rfl
theorem op_app (e : A → D) (i : Nat) (l : List A) (x : A) : ERef Ow (qApp2 (some (.own (.lst (l.map e)))) i (e x) r) (R.push l x) (fun _ => Rv.val .non) (fun l' => r.set i (.own (.lst (l'.map e)))) := ERef.grd fun h => by
  have h1 : (l.map e).length < sizeLine := by rw [List.length_map]; exact h
  show (if (l.map e).length < sizeLine then EO.ok (Rv.val .non) (r.set i (.own (.lst (l.map e ++ [e x])))) else .stuck) = EO.ok (Rv.val .non) (r.set i (.own (.lst ((l ++ [x]).map e))))
  rw [if_pos h1, List.map_append]; rfl
/-! dicts -/
theorem keys2 (a b : Int) : keysD [.int a, .int b] = some (k2I (a, b)) := rfl
theorem op_getT {K : Type} [DecidableEq K] {ek : K → List Key} (inj : ∀ a b, ek a = ek b → a = b) (e : A → D) (l : List (K × A)) {ks : List D} (k : K) (hk : keysD ks = some (ek k)) : ERef Ow (qG2 (some (.dT (eDT' ek e l))) (some (.tup ks)) r) (.ok (lkT l k)) (fun o => .val (eO e o)) (fun _ => r) := by
  show (match dGet (.dT (eDT' ek e l)) (.tup ks) with | some o => EO.ok (Rv.val (o.getD .non)) r | none => .stuck) = _
  have : dGet (.dT (eDT' ek e l)) (.tup ks) = some ((lkT l k).map e) := by unfold dGet; simp only; rw [hk]; show some (lkp _ _) = _; rw [lkT_map inj]
  rw [this]; cases lkT l k <;> rfl
theorem op_getK {K : Type} [DecidableEq K] {ek : K → Key} (inj : ∀ a b, ek a = ek b → a = b) (e : A → D) (l : List (K × A)) {kd : D} (k : K) (hk : keyD kd = some (ek k)) : ERef Ow (qG2 (some (.dK (eDK' ek e l))) (some kd) r) (.ok (lkT l k)) (fun o => .val (eO e o)) (fun _ => r) := by
  have : dGet (.dK (eDK' ek e l)) kd = some ((lkT l k).map e) := by
    have : dGet (.dK (eDK' ek e l)) kd = (keyD kd).map fun q => lkp (eDK' ek e l) q := by cases kd <;> rfl
    rw [this, hk]; show some (lkp _ _) = _; rw [lkT_map inj]
  show (match dGet (.dK (eDK' ek e l)) kd with | some o => EO.ok (Rv.val (o.getD .non)) r | none => .stuck) = _
  rw [this]; cases lkT l k <;> rfl
theorem op_ixT {K : Type} [DecidableEq K] {ek : K → List Key} (inj : ∀ a b, ek a = ek b → a = b) (e : A → D) (l : List (K × A)) {ks : List D} (k : K) (hk : keysD ks = some (ek k)) : ERef Ow (ofV ((dIx (.dT (eDT' ek e l)) (.tup ks)).map .val) r) (R.get l k) (fun x => .val (e x)) (fun _ => r) := ERef.ofO (by
  have : dGet (.dT (eDT' ek e l)) (.tup ks) = some ((lkT l k).map e) := by unfold dGet; simp only; rw [hk]; show some (lkp _ _) = _; rw [lkT_map inj]
  have : dIx (.dT (eDT' ek e l)) (.tup ks) = (match dGet (.dT (eDT' ek e l)) (.tup ks) with | some (some y) => some y | _ => none) := rfl
  rw [this]; simp only [*]; cases lkT l k <;> rfl)
theorem inD_T {K : Type} [DecidableEq K] {ek : K → List Key} (inj : ∀ a b, ek a = ek b → a = b) (e : A → D) (l : List (K × A)) {ks : List D} (k : K) (hk : keysD ks = some (ek k)) : R.inD (.tup ks) (.dT (eDT' ek e l)) = .ok (lkT l k).isSome := by
  have : dGet (.dT (eDT' ek e l)) (.tup ks) = some ((lkT l k).map e) := by unfold dGet; simp only; rw [hk]; show some (lkp _ _) = _; rw [lkT_map inj]
  unfold R.inD dInA; rw [this]; cases lkT l k <;> rfl
end
/-! comprehensions -/
section
variable {X Y A : Type} {Ow : Rho → Prop} {e : X → D} {eY : Y → D} {g : Tg} {t : Ev Bool} {ev : Ev Rv} {vs : List Nat} {r r0 r1 : Rho} {C : X → R Bool} {E : X → R Y} {ve : Y → Rv}
theorem lcR_ref (hd : ∀ y, (ve y).data = eY y) (h : ∀ x, ∃ r1, g (e x) r0 = some r1 ∧ ∃ fc : Bool → Rho, ERef Ow (t r1) (C x) id fc ∧ (wipeR (fc false) vs = r0) ∧ ∃ fe : Y → Rho, ERef Ow (ev (fc true)) (E x) ve fe ∧ ∀ y, wipeR (fe y) vs = r0) : ∀ xs : List X, ∀ ys, compR C E xs = .ok ys → lcL g t ev vs (xs.map e) r0 = .ok (ys.map eY) r0
  | [], ys, q => by cases q; rfl
  | x :: xs, ys, q => by
    obtain ⟨r1, h1, fc, h2, h3, fe, h4, h5⟩ := h x
    unfold compR at q
    rw [List.map_cons, lcL, h1]
    show (t r1).bind _ = _
    cases hC : C x with
    | stuck => rw [hC] at q; cases q
    | exc z => rw [hC] at q; cases q
    | ok k =>
      rw [hC] at q h2
      have h2 : t r1 = .ok k (fc k) := h2
      rw [h2]
      cases k with
      | false =>
        show lcL g t ev vs (xs.map e) (wipeR (fc false) vs) = _
        rw [h3]
        exact lcR_ref hd h xs ys q
      | true =>
        replace q : ((E x).bind fun y => (compR C E xs).bind fun ys => .ok (y :: ys)) = .ok ys := q
        show (ev (fc true)).bind _ = _
        cases hE : E x with
        | stuck => rw [hE] at q; cases q
        | exc z => rw [hE] at q; cases q
        | ok y =>
          rw [hE] at q h4
          have h4 : ev (fc true) = .ok (ve y) (fe y) := h4
          rw [h4]
          replace q : ((compR C E xs).bind fun ys => .ok (y :: ys)) = .ok ys := q
          cases hR : compR C E xs with
          | stuck => rw [hR] at q; cases q
          | exc z => rw [hR] at q; cases q
          | ok zs =>
            rw [hR] at q
            cases q
            show (lcL g t ev vs (xs.map e) (wipeR (fe y) vs)).bind _ = _
            rw [h5, lcR_ref hd h xs zs hR]
            show EO.ok _ _ = EO.ok _ _
            rw [hd, List.map_cons]
/-- exceptions don't come out of comprehensions here -/
def noX {A : Type} : R A → R A
  | .exc _ => .stuck
  | m => m
theorem op_comp (hd : ∀ y, (ve y).data = eY y) {xs : List X} (hw : wipeR r vs = r0) (hr : restore r r0 vs = r1) (h : ∀ x, ∃ r1, g (e x) r0 = some r1 ∧ ∃ fc : Bool → Rho, ERef Ow (t r1) (C x) id fc ∧ (wipeR (fc false) vs = r0) ∧ ∃ fe : Y → Rho, ERef Ow (ev (fc true)) (E x) ve fe ∧ ∀ y, wipeR (fe y) vs = r0) :
    ERef Ow (qComp g t ev vs (xs.map e) r) (R.grd (xs.length ≤ sizeLine) (noX (compR C E xs))) (fun ys => .new (.lst (ys.map eY))) (fun _ => r1) := by
  refine ERef.grd fun hz => ?_
  unfold qComp
  rw [List.length_map, if_pos hz, hw]
  cases hR : compR C E xs with
  | stuck => trivial
  | exc z => trivial
  | ok ys => rw [lcR_ref hd h xs ys hR, ← hr]; exact rfl
theorem noX_ok {A : Type} {a : A} : noX (.ok a) = .ok a := rfl
theorem compR_pure {c : X → Bool} {f : X → Y} (xs : List X) : compR (fun x => .ok (c x)) (fun x => .ok (f x)) xs = .ok ((xs.filter c).map f) := by
  induction xs with
  | nil => rfl
  | cons x xs ih =>
    unfold compR
    rw [R.ok_bind, List.filter_cons]
    cases c x with
    | false => rw [if_neg Bool.false_ne_true, if_neg Bool.false_ne_true]; exact ih
    | true => rw [if_pos rfl, if_pos rfl, R.ok_bind, ih, R.ok_bind, List.map_cons]
theorem compR_map {f : X → Y} (xs : List X) : compR (fun _ => .ok true) (fun x => .ok (f x)) xs = .ok (xs.map f) := by
  rw [compR_pure (c := fun _ => true)]; congr 1; congr 1; exact List.filter_eq_self.mpr fun _ _ => rfl
theorem compR_ok {c : X → Bool} {f : X → Y} (xs : List X) (hc : ∀ x ∈ xs, C x = .ok (c x)) (hf : ∀ x ∈ xs, c x = true → E x = .ok (f x)) : compR C E xs = .ok ((xs.filter c).map f) := by
  induction xs with
  | nil => rfl
  | cons x xs ih =>
    have ih := ih (fun y hy => hc y (List.mem_cons_of_mem _ hy)) (fun y hy => hf y (List.mem_cons_of_mem _ hy))
    unfold compR
    rw [hc x (List.mem_cons_self ..), R.ok_bind, List.filter_cons]
    cases hx : c x with
    | false => rw [if_neg Bool.false_ne_true, if_neg Bool.false_ne_true]; exact ih
    | true => rw [if_pos rfl, if_pos rfl, hf x (List.mem_cons_self ..) hx, R.ok_bind, ih, R.ok_bind, List.map_cons]
theorem forN_ok {S : Type} {B : S → X → R S} {f : S → X → S} (xs : List X) (h : ∀ s, ∀ x ∈ xs, B s x = .ok (f s x)) (s : S) : forN B xs s = .ok (xs.foldl f s) := by
  induction xs generalizing s with
  | nil => rfl
  | cons x xs ih => unfold forN; rw [h s x (List.mem_cons_self ..), R.ok_bind, ih (fun s y hy => h s y (List.mem_cons_of_mem _ hy)), List.foldl_cons]
end
/-! calls -/
section
variable {A J : Type} {Ow : Rho → Prop} {r : Rho} {i : Nat}
theorem op_call {e : A → Rv} {fo : FO} {t : R A} (ho : Ow r) (h : RefF e fo t) : ERef Ow (ofFO fo r) t e (fun _ => r) := by
  cases t with
  | stuck => trivial
  | exc x => have h : fo = .exc x := h; rw [h]; exact ⟨r, rfl, ho⟩
  | ok a => have h : fo = foR (e a) := h; rw [h]; show ofFO (foR (e a)) r = .ok (e a) r; cases e a <;> rfl
/-- of a def that raises nothing -/
theorem op_mut {o0 : Own} {e : A → Rv} {eo : J → Own} {p : FO × Own} {t : R (A × J)} (h : RefM o0 e eo p t) : ERef Ow (ofFO p.1 (qSet r i (.own p.2))) (noX t) (fun z => e z.1) (fun z => r.set i (.own (eo z.2))) := by
  cases t with
  | stuck => trivial
  | exc x => trivial
  | ok a => have h : p = (foR (e a.1), eo a.2) := h; rw [h]; show ofFO (foR (e a.1)) (r.set i (.own (eo a.2))) = .ok (e a.1) (r.set i (.own (eo a.2))); cases e a.1 <;> rfl
/-- a new instance -/
theorem op_make {o0 : Own} {eo : J → Own} {p : FO × Own} {t : R (Unit × J)} (ho : Ow r) (h : RefM o0 (fun (_ : Unit) => .val .non) eo p t) : ERef Ow (qMk3 p r) (t.bind fun z => .ok z.2) (fun j => .new (eo j)) (fun _ => r) := by
  cases t with
  | stuck => trivial
  | exc x => have h : p = (.exc x, o0) := h; rw [h]; exact ⟨r, rfl, ho⟩
  | ok a => have h : p = (.val .non, eo a.2) := h; rw [h]; rfl
/-- both ways of a test -/
theorem op_eif {c : Bool} {ea eb : Ev Rv} {TA TB : R A} {v : A → Rv} {f : A → Rho} (ha : ERef Ow (ea r) TA v f) (hb : ERef Ow (eb r) TB v f) : ERef Ow (qEIf ea eb c r) (if c then TA else TB) v f := by cases c with | true => exact ha | false => exact hb
theorem op_and {c : Bool} {tb : Ev Bool} {TB : R Bool} (hb : ERef Ow (tb r) TB id (fun _ => r)) : ERef Ow (qAnd tb c r) (if c then TB else .ok false) id (fun _ => r) := by cases c with | true => exact hb | false => rfl
theorem op_or {c : Bool} {tb : Ev Bool} {TB : R Bool} (hb : ERef Ow (tb r) TB id (fun _ => r)) : ERef Ow (qOr tb c r) (if c then .ok true else TB) id (fun _ => r) := by cases c with | true => rfl | false => exact hb
theorem op_andV {c d : Bool} {tb : Ev Bool} (hb : ERef Ow (tb r) (.ok d) id (fun _ => r)) : ERef Ow (qAnd tb c r) (.ok (c && d)) id (fun _ => r) := by cases c with | true => exact hb | false => rfl
theorem op_orV {c d : Bool} {tb : Ev Bool} (hb : ERef Ow (tb r) (.ok d) id (fun _ => r)) : ERef Ow (qOr tb c r) (.ok (c || d)) id (fun _ => r) := by cases c with | true => rfl | false => exact hb
theorem op_eand {c : Bool} {eb : Ev Rv} {TB : R Bool} (hb : ERef Ow (eb r) TB (fun k => .val (.bl k)) (fun _ => r)) : ERef Ow (qEAnd1 eb c r) (if c then TB else .ok false) (fun k => .val (.bl k)) (fun _ => r) := by cases c with | true => exact hb | false => rfl
theorem op_eor {c : Bool} {eb : Ev Rv} {TB : R Bool} (hb : ERef Ow (eb r) TB (fun k => .val (.bl k)) (fun _ => r)) : ERef Ow (qEOr1 eb c r) (if c then .ok true else TB) (fun k => .val (.bl k)) (fun _ => r) := by cases c with | true => rfl | false => exact hb
theorem op_eandV {c d : Bool} {eb : Ev Rv} (hb : ERef Ow (eb r) (.ok d) (fun k => .val (.bl k)) (fun _ => r)) : ERef Ow (qEAnd1 eb c r) (.ok (c && d)) (fun k => .val (.bl k)) (fun _ => r) := by cases c with | true => exact hb | false => rfl
theorem op_eorV {c d : Bool} {eb : Ev Rv} (hb : ERef Ow (eb r) (.ok d) (fun k => .val (.bl k)) (fun _ => r)) : ERef Ow (qEOr1 eb c r) (.ok (c || d)) (fun k => .val (.bl k)) (fun _ => r) := by cases c with | true => rfl | false => exact hb
theorem op_chain {c : Bool} {f2 : D → D → Option Rv} {oc : Ev Src} {y : Src} {TB : R Bool} (hb : ERef Ow ((oc r).bind (q2b f2 y)) TB (fun k => .val (.bl k)) (fun _ => r)) : ERef Ow (q3d f2 oc y c r) (if c then TB else .ok false) (fun k => .val (.bl k)) (fun _ => r) := by cases c with | true => exact hb | false => rfl
theorem op_chainV {c d : Bool} {f2 : D → D → Option Rv} {oc : Ev Src} {y : Src} (hb : ERef Ow ((oc r).bind (q2b f2 y)) (.ok d) (fun k => .val (.bl k)) (fun _ => r)) : ERef Ow (q3d f2 oc y c r) (.ok (c && d)) (fun k => .val (.bl k)) (fun _ => r) := by cases c with | true => exact hb | false => rfl
end
/-! ### what is reckoned at once -/
section
variable {A B : Type} {a b : Int} {s t : Str} {k m : Bool} {e : A → D} {ds es : List D} {l : List A}
theorem y_addI : dAdd (.int a) (.int b) = some (.val (.int (a + b))) := rfl
theorem y_subI : dSub (.int a) (.int b) = some (.val (.int (a - b))) := rfl
theorem y_negI : dNeg (.int a) = some (.val (.int (-a))) := rfl
theorem y_ltI : dLt (.int a) (.int b) = some (.val (.bl (decide (a < b)))) := rfl
theorem y_leI : dLe (.int a) (.int b) = some (.val (.bl (decide (a ≤ b)))) := rfl
theorem y_gtI : dGt (.int a) (.int b) = some (.val (.bl (decide (b < a)))) := rfl
theorem y_geI : dGe (.int a) (.int b) = some (.val (.bl (decide (b ≤ a)))) := rfl
theorem y_leO : dOr2 dLe dLeT (.int a) (.int b) = some (.val (.bl (decide (a ≤ b)))) := rfl
def dLeTo (o p : Option (List Int)) : Option Rv := match o, p with | some ns, some ms => some (.val (.bl (lexLe ns ms))) | _, _ => none
theorem y_leT : dOr2 dLe dLeT (.tup ds) (.tup es) = dLeTo (toInts ds) (toInts es) := by
  unfold dLeTo dOr2
  show (Option.orElse none fun _ => dLeT (.tup ds) (.tup es)) = _
  unfold dLeT; rfl
theorem y_leTo {n1 n2 : List Int} : dLeTo (some n1) (some n2) = some (.val (.bl (lexLe n1 n2))) := rfl
theorem y_toIntsN : toInts [] = some [] := rfl
theorem y_toIntsC : toInts (.int a :: ds) = (toInts ds).map (a :: ·) := rfl
theorem y_isN : dIsN .non .non = some (.val (.bl true)) := rfl
theorem y_isNi : dIsN (.int a) .non = some (.val (.bl false)) := rfl
theorem y_isNs : dIsN (.str s) .non = some (.val (.bl false)) := rfl
theorem y_isNt : dIsN (.tup ds) .non = some (.val (.bl false)) := rfl
theorem y_notN : dNotN .non .non = some (.val (.bl false)) := rfl
theorem y_notNi : dNotN (.int a) .non = some (.val (.bl true)) := rfl
theorem y_notNs : dNotN (.str s) .non = some (.val (.bl true)) := rfl
theorem y_isNo {o : Option A} (h : ∀ a, isNon (e a) = false) : dIsN (eO e o) .non = some (.val (.bl o.isNone)) := by cases o with | none => rfl | some a => show (if isNon D.non then vB (isNon (e a)) else none) = _; rw [h]; rfl
theorem y_notNo {o : Option A} (h : ∀ a, isNon (e a) = false) : dNotN (eO e o) .non = some (.val (.bl o.isSome)) := by cases o with | none => rfl | some a => show (if isNon D.non then vB (!isNon (e a)) else none) = _; rw [h]; rfl
theorem eqvI : PyData.eqv (.int a) (.int b) = decide (a = b) := by rw [Bool.eq_iff_iff]; simp [PyData.eqv]
theorem y_eqI : dEq (.int a) (.int b) = some (.val (.bl (decide (a = b)))) := by
  show Option.map _ (if SeqAt.shaped (.int a) && SeqAt.shaped (.int b) then some (PyData.eqv (.int a) (.int b)) else none) = _
  rw [if_pos (show (SeqAt.shaped (.int a) && SeqAt.shaped (.int b)) = true from rfl), eqvI]; rfl
theorem y_neI : dNe (.int a) (.int b) = some (.val (.bl (!decide (a = b)))) := by
  show Option.map _ (if SeqAt.shaped (.int a) && SeqAt.shaped (.int b) then some (PyData.eqv (.int a) (.int b)) else none) = _
  rw [if_pos (show (SeqAt.shaped (.int a) && SeqAt.shaped (.int b)) = true from rfl), eqvI]; rfl
end
end Mp
set_option Elab.async false
set_option linter.all false
set_option maxRecDepth 100000
namespace Mp
open PySem PySem.Spec PyProof.Rows L2 Evl
namespace R
def ltD (d e : D) : R Bool := R.ofO (match dLt d e with | some (.val (.bl k)) => some k | _ => none)
def leD (d e : D) : R Bool := R.ofO (match dOr2 dLe dLeT d e with | some (.val (.bl k)) => some k | _ => none)
def slD (d : D) (lo hi : Option Int) : R D := R.ofO (match dSl d lo hi with | some (.val x) => some x | _ => none)
def ixD (d k : D) : R D := R.ofO (dIx d k)
def lenD (d : D) : R Int := R.ofO (match dLen [d] with | some (.val (.int k)) => some k | _ => none)
def fldD (C : Addr) (n : Str) (d : D) : R D := R.ofO (match dFld C n d with | some (.val x) => some x | _ => none)
def un2 : D → R (D × D) | .tup [a, b] => .ok (a, b) | _ => .stuck
def un3 : D → R (D × D × D) | .tup [a, b, c] => .ok (a, b, c) | _ => .stuck
def lenO (m : R Int) : R Int := match m with | .ok i => R.grd (0 ≤ i ∧ i < 9223372036854775808) (.ok i) | _ => .stuck
def strO (m : R Str) : R Str := noX m
end R
section
variable {A B : Type} {Ow : Rho → Prop} {r : Rho} {C : Addr}
theorem op_isO {e : A → D} {o : Option A} (neg : Bool) (h : ∀ a, isNon (e a) = false) : ERef Ow (ofV (match neg with | false => dIsN (eO e o) .non | true => dNotN (eO e o) .non) r) (.ok (match neg with | false => o.isNone | true => o.isSome)) (fun k => .val (.bl k)) (fun _ => r) := by
  cases neg with
  | false => show ofV (dIsN (eO e o) .non) r = _; rw [y_isNo h]; rfl
  | true => show ofV (dNotN (eO e o) .non) r = _; rw [y_notNo h]; rfl
theorem lt_cases (d e : D) : dLt d e = none ∨ ∃ k, dLt d e = some (.val (.bl k)) := by
  cases h : dLt d e with
  | none => exact .inl rfl
  | some v =>
    unfold dLt at h
    split at h
    · exact .inr ⟨_, h.symm⟩
    · exact .inr ⟨_, h.symm⟩
    · split at h
      · exact .inr ⟨_, h.symm⟩
      · cases h
    · cases h
theorem le_cases (d e : D) : dOr2 dLe dLeT d e = none ∨ ∃ k, dOr2 dLe dLeT d e = some (.val (.bl k)) := by
  unfold dOr2
  cases h : dLe d e with
  | some v =>
    unfold dLe at h
    split at h
    · exact .inr ⟨_, h.symm⟩
    · cases h
  | none =>
    show dLeT d e = none ∨ ∃ k, dLeT d e = some (.val (.bl k))
    cases h : dLeT d e with
    | none => exact .inl rfl
    | some v =>
      unfold dLeT at h
      split at h
      · split at h
        · exact .inr ⟨_, h.symm⟩
        · cases h
      · cases h
theorem op_ltD (d e : D) : ERef Ow (ofV (dLt d e) r) (R.ltD d e) (fun k => .val (.bl k)) (fun _ => r) := ERef.ofO (by rcases lt_cases d e with h | ⟨k, h⟩ <;> rw [h] <;> rfl)
theorem op_leD (d e : D) : ERef Ow (ofV (dOr2 dLe dLeT d e) r) (R.leD d e) (fun k => .val (.bl k)) (fun _ => r) := ERef.ofO (by rcases le_cases d e with h | ⟨k, h⟩ <;> rw [h] <;> rfl)
theorem op_slD (d : D) (lo hi : Option Int) : ERef Ow (ofV (dSl d lo hi) r) (R.slD d lo hi) (fun x => .val x) (fun _ => r) := by
  unfold R.slD
  cases dSl d lo hi with
  | none => trivial
  | some z => cases z with
    | val x => exact rfl
    | new o => trivial
theorem op_ixD (d k : D) : ERef Ow (ofV ((dIx d k).map .val) r) (R.ixD d k) (fun x => .val x) (fun _ => r) := ERef.ofO rfl
theorem op_fldD (n : Str) (d : D) : ERef Ow (ofV (dFld C n d) r) (R.fldD C n d) (fun x => .val x) (fun _ => r) := ERef.ofO (by
  unfold dFld
  cases d with
  | ins C' l => show (if C' = C then (l.lookup n).map Rv.val else none) = Option.map _ (match (if C' = C then (l.lookup n).map Rv.val else none) with | some (.val x) => some x | _ => none); split
                · cases l.lookup n <;> rfl
                · rfl
  | _ => rfl)
theorem op_isB (o : Option Bool) : ERef Ow (ofV (Option.map (fun b => Rv.val (.bl b)) o) r) (R.ofO o) (fun k => .val (.bl k)) (fun _ => r) := ERef.ofO rfl
theorem op_lenD (d : D) : ERef Ow (ofV (dLen [d]) r) (R.lenD d) (fun k => .val (.int k)) (fun _ => r) := ERef.ofO (by
  cases d with
  | str z => show (if z.length ≤ sizeLine then vI z.length else none) = Option.map _ (match (if z.length ≤ sizeLine then vI z.length else none) with | some (.val (.int k)) => some k | _ => none); split <;> rfl
  | _ => rfl)
theorem ERef.needO {b c A : Type} {m : EO A} {o : Option c} {K : c → R b} {v : b → A} {f : b → Rho} (h : ∀ a, o = some a → ERef Ow m (K a) v f) : ERef Ow m ((R.ofO o).bind K) v f := by
  cases o with
  | none => trivial
  | some a => exact h a rfl
def R.allO {c : Type} : List (Option c) → R (List c)
  | [] => .ok []
  | some a :: l => (R.allO l).bind fun l' => .ok (a :: l')
  | none :: _ => .stuck
theorem allO_eq {c : Type} : ∀ {l : List (Option c)} {l' : List c}, R.allO l = .ok l' → l = l'.map some
  | [], l', h => by cases h; rfl
  | none :: l, l', h => by cases h
  | some a :: l, l', h => by
    unfold R.allO at h
    cases q : R.allO l with
    | stuck => rw [q] at h; cases h
    | exc x => rw [q] at h; cases h
    | ok l2 => rw [q] at h; cases h; rw [allO_eq q]; rfl
theorem R.allO_some {c : Type} (l : List c) : R.allO (l.map some) = .ok l := by
  induction l with
  | nil => rfl
  | cons a l ih => rw [List.map_cons]; unfold R.allO; rw [ih]; rfl
theorem R.allO_noX {c : Type} : ∀ (l : List (Option c)) (x : Exn), R.allO l ≠ .exc x
  | [], x, h => by cases h
  | none :: l, x, h => by cases h
  | some a :: l, x, h => by
    unfold R.allO at h
    cases q : R.allO l with
    | stuck => rw [q] at h; cases h
    | exc y => exact R.allO_noX l y q
    | ok l2 => rw [q] at h; cases h
theorem ERef.needL {b c A : Type} {m : EO A} {o : List (Option c)} {K : List c → R b} {v : b → A} {f : b → Rho} (h : ∀ a, o = a.map some → ERef Ow m (K a) v f) : ERef Ow m ((R.allO o).bind K) v f := by
  cases q : R.allO o with
  | stuck => trivial
  | exc x => exact absurd q (R.allO_noX o x)
  | ok a => exact h a (allO_eq q)
theorem y_eOm {c : Type} {e : c → D} {l : List c} : (l.map some).map (eO e) = l.map e := by rw [List.map_map]; rfl
theorem y_eOs {c : Type} {e : c → D} {a : c} : eO e (some a) = e a := rfl
theorem op_tupL (e : A → D) {l : List A} {ds : List D} (h : ds = l.map e) : ERef Ow (qTup ds r) (R.grd (l.length ≤ sizeLine) (.ok l)) (fun l => .val (.tup (l.map e))) (fun _ => r) := ERef.grd fun hz => by
  subst h; exact if_pos (by rw [List.length_map]; exact hz)
theorem op_lstL (e : A → D) {l : List A} {ds : List D} (h : ds = l.map e) : ERef Ow (qLst ds r) (R.grd (l.length ≤ sizeLine) (.ok l)) (fun l => .new (.lst (l.map e))) (fun _ => r) := ERef.grd fun hz => by
  subst h; exact if_pos (by rw [List.length_map]; exact hz)
theorem op_prop {e : A → Rv} {fo : FO} {t : R A} (h : RefF e fo t) : ERef Ow (ofFO0 fo r) (noX t) e (fun _ => r) := by
  cases t with
  | stuck => trivial
  | exc x => trivial
  | ok a => have h : fo = foR (e a) := h; rw [h]; show ofFO0 (foR (e a)) r = .ok (e a) r; cases e a <;> rfl
theorem op_mut1 {J : Type} {o0 : Own} {e : A → Rv} {eo : J → Own} {p : FO × Own} {t : R (A × J)} (h : RefM o0 e eo p t) : ERef Ow (ofFO p.1 r) (noX t) (fun z => e z.1) (fun _ => r) := by
  cases t with
  | stuck => trivial
  | exc x => trivial
  | ok a => have h : p = (foR (e a.1), eo a.2) := h; rw [h]; show ofFO (foR (e a.1)) r = .ok (e a.1) r; cases e a.1 <;> rfl
/-! own instances: ==, len, str, repr, truth -/
theorem op_eqO {F : List D → FO} {l : List (Str × D)} {d : D} {g : D → D → Option Rv} {t : R Bool} (ha : eqArg C d = true) (h : RefF (fun k => .val (.bl k)) (F [.ins C l, d]) t) : ERef Ow (ofV (dOr2 (dOwn2 C F false) g (.ins C l) d) r) (noX t) (fun k => .val (.bl k)) (fun _ => r) := by
  cases t with
  | stuck => trivial
  | exc x => trivial
  | ok k =>
    have h : F [.ins C l, d] = .val (.bl k) := h
    have e : dOwn2 C F false (.ins C l) d = some (.val (.bl k)) := by
      show (if C = C ∧ eqArg C d = true then (match F [.ins C l, d] with | .val (.bl k) => vB (k != _) | _ => none) else none) = _
      rw [if_pos ⟨rfl, ha⟩, h]; cases k <;> rfl
    show ofV ((dOwn2 C F false (.ins C l) d).orElse _) r = _
    rw [e]; rfl
theorem op_eqOn {F : List D → FO} {l : List (Str × D)} {d : D} {g : D → D → Option Rv} {t : R Bool} (ha : eqArg C d = true) (h : RefF (fun k => .val (.bl k)) (F [.ins C l, d]) t) : ERef Ow (ofV (dOr2 (dOwn2 C F true) g (.ins C l) d) r) (noX t) (fun k => .val (.bl (!k))) (fun _ => r) := by
  cases t with
  | stuck => trivial
  | exc x => trivial
  | ok k =>
    have h : F [.ins C l, d] = .val (.bl k) := h
    have e : dOwn2 C F true (.ins C l) d = some (.val (.bl (!k))) := by
      show (if C = C ∧ eqArg C d = true then (match F [.ins C l, d] with | .val (.bl k) => vB (k != _) | _ => none) else none) = _
      rw [if_pos ⟨rfl, ha⟩, h]; cases k <;> rfl
    show ofV ((dOwn2 C F true (.ins C l) d).orElse _) r = _
    rw [e]; rfl
theorem op_lenO {F : List D → FO} {l : List (Str × D)} {g : List D → Option Rv} {t : R Int} (h : RefF (fun k => .val (.int k)) (F [.ins C l]) t) : ERef Ow (ofV (dOr (dOwn1 C F isNat63) g [.ins C l]) r) (R.lenO t) (fun k => .val (.int k)) (fun _ => r) := by
  cases t with
  | stuck => trivial
  | exc x => trivial
  | ok k =>
    refine ERef.grd fun hk => ?_
    have h : F [.ins C l] = .val (.int k) := h
    have e : dOwn1 C F isNat63 [.ins C l] = some (.val (.int k)) := by
      show (if C = C then (match F [.ins C l] with | .val d => if isNat63 d then some (Rv.val d) else none | _ => none) else none) = _
      rw [if_pos rfl, h]; exact if_pos (by simp only [isNat63, Bool.and_eq_true, decide_eq_true_eq]; exact hk)
    show ofV ((dOwn1 C F isNat63 [.ins C l]).orElse _) r = _
    rw [e]; rfl
theorem op_strO {F : List D → FO} {l : List (Str × D)} {g : List D → Option Rv} {t : R Str} (h : RefF (fun k => .val (.str k)) (F [.ins C l]) t) : ERef Ow (ofV (dOr (dOwn1 C F isStrD) g [.ins C l]) r) (R.strO t) (fun k => .val (.str k)) (fun _ => r) := by
  cases t with
  | stuck => trivial
  | exc x => trivial
  | ok k =>
    have h : F [.ins C l] = .val (.str k) := h
    have e : dOwn1 C F isStrD [.ins C l] = some (.val (.str k)) := by
      show (if C = C then (match F [.ins C l] with | .val d => if isStrD d then some (Rv.val d) else none | _ => none) else none) = _
      rw [if_pos rfl, h]; rfl
    show ofV ((dOwn1 C F isStrD [.ins C l]).orElse _) r = _
    rw [e]; rfl
theorem op_truO {F : List D → FO} {l : List (Str × D)} {t : R Bool} (h : RefF (fun k => .val (.bl k)) (F [.ins C l]) t) : ERef Ow (qTr2 (dBool C F (.ins C l)) r) (noX t) id (fun _ => r) := by
  cases t with
  | stuck => trivial
  | exc x => trivial
  | ok k =>
    have h : F [.ins C l] = .val (.bl k) := h
    have e : dBool C F (.ins C l) = some k := by
      show (if C = C then (match F [.ins C l] with | .val (.bl k) => some k | _ => none) else none) = _
      rw [if_pos rfl, h]
    rw [e]; rfl
end
section
variable {S L P b : Type} {Ow : Rho → Prop} {F : S → Rho → Prop} {FL : L → Rho → Prop} {G : P → Rv → Rho → Prop} {r : Rho} {sb : Sv} {ev : Ev Rv} {la : Ev (List Rv)} {is : List Nat} {t : R b} {f : b → Rho}
theorem par_ {v : b → List Rv} (h : ERef Ow (la r) t v f) (hl : ∀ x, (v x).length = is.length) : SN Ow (fun x r' => r' = (is.zip (v x)).foldl (fun r p => r.set p.1 (cellOf p.2)) (f x)) (sPar is la r) t := by
  show SN _ _ ((la r).toS _) _
  cases t with
  | stuck => trivial
  | exc x => obtain ⟨r1, h, w⟩ := h; rw [h]; exact ⟨r1, rfl, w⟩
  | ok x =>
    have h : la r = .ok (v x) (f x) := h
    rw [h]
    refine ⟨_, if_pos (hl x), rfl⟩
theorem SN.par {v : b → List Rv} {K : b → R S} (h : ERef Ow (la r) t v f) (hl : ∀ x, (v x).length = is.length) (hk : ∀ x, SN Ow F (sb ((is.zip (v x)).foldl (fun r p => r.set p.1 (cellOf p.2)) (f x))) (K x)) : SN Ow F (sCons (sPar is la) sb r) (t.bind K) := SN.cons (par_ h hl) fun x r' e => e ▸ hk x
theorem SR.par {v : b → List Rv} {K : b → R (Ctl S L P)} (h : ERef Ow (la r) t v f) (hl : ∀ x, (v x).length = is.length) (hk : ∀ x, SR Ow F FL G (sb ((is.zip (v x)).foldl (fun r p => r.set p.1 (cellOf p.2)) (f x))) (K x)) : SR Ow F FL G (sCons (sPar is la) sb r) (t.bind K) := SR.cons (par_ h hl) fun x r' e => e ▸ hk x
theorem fld_ {C : Addr} {i : Nat} {n : Str} {l : List (Str × D)} {v : b → Rv} (h : ERef Ow (ev r) t v f) (hf : ∀ x, (f x)[i]? = some (.own (.ins C l))) (hl : l.length < 1000) : SN Ow (fun x r' => r' = (f x).set i (.own (.ins C (putFD n (v x).data l)))) (sFldC C i n ev r) t := by
  show SN _ _ ((ev r).toS _) _
  cases t with
  | stuck => trivial
  | exc x => obtain ⟨r1, h, w⟩ := h; rw [h]; exact ⟨r1, rfl, w⟩
  | ok x =>
    have h : ev r = .ok (v x) (f x) := h
    rw [h]
    refine ⟨_, ?_, rfl⟩
    show (match (f x)[i]? with | some (.own (.ins C' l)) => if C' = C ∧ l.length < 1000 then SO.nx ((f x).set i (.own (.ins C' (putFD n (v x).data l)))) else .stuck | _ => .stuck) = _
    rw [hf x]; exact if_pos ⟨rfl, hl⟩
theorem SR.fld {C : Addr} {i : Nat} {n : Str} {l : List (Str × D)} {v : b → Rv} {K : b → R (Ctl S L P)} (h : ERef Ow (ev r) t v f) (hf : ∀ x, (f x)[i]? = some (.own (.ins C l))) (hl : l.length < 1000) (hk : ∀ x, SR Ow F FL G (sb ((f x).set i (.own (.ins C (putFD n (v x).data l))))) (K x)) : SR Ow F FL G (sCons (sFldC C i n ev) sb r) (t.bind K) := SR.cons (fld_ h hf hl) fun x r' e => e ▸ hk x
theorem SR.retN {p : P} (h : G p (.val .non) r) : SR Ow F FL G (sRetN r) (.ok (.ret p)) := ⟨_, _, rfl, h⟩
end
section
variable {b c : Type} {Ow : Rho → Prop} {r : Rho} {ev : Ev Rv} {t : R b} {f : b → Rho}
/-- target = any value -/
theorem tgtD_ {g : Tg} {un : D → R c} {F1 : c → Rho → Prop} {d : b → D} (h : ERef Ow (ev r) t (fun x => .val (d x)) f) (hx : ∀ d x, un d ≠ .exc x) (hg : ∀ x z, un (d x) = .ok z → ∃ r', g (d x) (f x) = some r' ∧ F1 z r') : SN Ow F1 (sTgt g ev r) (t.bind fun x => un (d x)) := by
  show SN Ow _ ((ev r).toS _) _
  cases t with
  | stuck => trivial
  | exc x => obtain ⟨r1, h, w⟩ := h; rw [h]; exact ⟨r1, rfl, w⟩
  | ok x =>
    have h : ev r = .ok (.val (d x)) (f x) := h
    rw [h]
    show SN Ow F1 (match g (d x) (f x) with | some r' => .nx r' | none => .stuck) (un (d x))
    cases q : un (d x) with
    | stuck => trivial
    | exc y => exact absurd q (hx _ _)
    | ok z => obtain ⟨r', h1, h2⟩ := hg x z q; rw [h1]; exact ⟨r', rfl, h2⟩
theorem un3_eq {d : D} {z : D × D × D} (h : R.un3 d = .ok z) : d = .tup [z.1, z.2.1, z.2.2] := by
  unfold R.un3 at h; split at h <;> cases h; rfl
theorem un3_x (d : D) (x : Exn) : R.un3 d ≠ .exc x := by unfold R.un3; split <;> intro h <;> cases h
theorem un2_eq {d : D} {z : D × D} (h : R.un2 d = .ok z) : d = .tup [z.1, z.2] := by
  unfold R.un2 at h; split at h <;> cases h; rfl
theorem un2_x (d : D) (x : Exn) : R.un2 d ≠ .exc x := by unfold R.un2; split <;> intro h <;> cases h
end
def enumT {A : Type} (l : List A) : List (Int × A) := l.zipIdx.map fun p => ((p.2 : Nat), p.1)
theorem y_enum {A : Type} {e : A → D} {l : List A} : enumD (l.map e) = (enumT l).map (e2T D.int e) := by
  unfold enumD enumT
  rw [List.zipIdx_map, List.map_map, List.map_map]; rfl
abbrev eEn {A : Type} (e : A → D) : Int × A → D := e2T D.int e
def kvO (c : Option Cell) : Cell := match c with | some (.val d) => .val d | _ => .un
theorem x_keep {r : Rho} {v : Nat} : keepVal r v = kvO (r[v]?) := by unfold keepVal kvO; rfl
theorem x_kv {d : D} : kvO (some (.val d)) = .val d := rfl
theorem x_ku : kvO (some .un) = .un := rfl
theorem x_ko {o : Own} : kvO (some (.own o)) = .un := rfl
theorem x_resN {r0 r : Rho} : restore r0 r [] = r := rfl
theorem x_resC {r0 r : Rho} {v : Nat} {vs : List Nat} : restore r0 r (v :: vs) = (restore r0 r vs).set v (keepVal r0 v) := rfl
theorem x_wipN {r : Rho} : wipeR r [] = r := rfl
theorem x_wipC {r : Rho} {v : Nat} {vs : List Nat} : wipeR r (v :: vs) = (wipeR r vs).set v .un := rfl
theorem y_lenL {A : Type} {e : A → D} {l : List A} : dLen [.lst (l.map e)] = some (.val (.int l.length)) := by show some (Rv.val (.int ((l.map e).length : Nat))) = _; rw [List.length_map]
theorem y_lenT {A : Type} {e : A → D} {l : List A} : dLen [.tup (l.map e)] = some (.val (.int l.length)) := by show some (Rv.val (.int ((l.map e).length : Nat))) = _; rw [List.length_map]
theorem y_lenC {l : List Int} : dLen [.scr l] = some (.val (.int l.length)) := rfl
theorem y_listL {ds : List D} : dOr dListOf dListStr [.lst ds] = some (.new (.lst ds)) := rfl
theorem y_listT {ds : List D} : dOr dListOf dListStr [.tup ds] = some (.new (.lst ds)) := rfl
theorem y_tupL {ds : List D} : dTupOf [.lst ds] = some (.val (.tup ds)) := rfl
theorem y_tupT {ds : List D} : dTupOf [.tup ds] = some (.val (.tup ds)) := rfl
theorem y_all {l : List Bool} : dAll [.lst (l.map D.bl)] = some (.val (.bl (l.all id))) := by unfold dAll; simp only; rw [toBls_map]; rfl
theorem y_min {a b : Int} : dMin [.int a, .int b] = some (.val (.int (if b < a then b else a))) := rfl
theorem y_max {a b : Int} : dMax [.int a, .int b] = some (.val (.int (if b > a then b else a))) := rfl
theorem y_abs {a : Int} : dAbs [.int a] = some (.val (.int (if a < 0 then -a else a))) := rfl
theorem y_intI {a : Int} : dInt [.int a] = some (.val (.int a)) := rfl
theorem y_cutM {A B : Type} {e : A → B} {l : List A} {lo hi : Option Int} : cutD (l.map e) lo hi = (cutD l lo hi).map e := by unfold cutD; rw [List.length_map, List.map_take, List.map_drop]
theorem y_slL {ds : List D} {lo hi : Option Int} : dSl (.lst ds) lo hi = some (.new (.lst (cutD ds lo hi))) := rfl
theorem y_slT {ds : List D} {lo hi : Option Int} : dSl (.tup ds) lo hi = some (.val (.tup (cutD ds lo hi))) := rfl
theorem y_slC {l : List Int} {lo hi : Option Int} : dSl (.scr l) lo hi = some (.new (.lst ((cutD l lo hi).map .int))) := rfl
theorem y_truB {k : Bool} : truD (.bl k) = some k := rfl
theorem y_truI {k : Int} : truD (.int k) = some (k != 0) := rfl
theorem y_truL {A : Type} {e : A → D} {l : List A} : truD (.lst (l.map e)) = some (!l.isEmpty) := by show some (!(l.map e).isEmpty) = _; cases l <;> rfl
theorem y_truT {A : Type} {e : A → D} {l : List A} : truD (.tup (l.map e)) = some (!l.isEmpty) := by show some (!(l.map e).isEmpty) = _; cases l <;> rfl
theorem y_isi {f : D → Option Bool} {d : D} : dIsi f d = (f d).map fun b => .val (.bl b) := rfl
theorem y_orE {f1 f2 : List D → Option Rv} {d : List D} (h : f1 d = none) : dOr f1 f2 d = f2 d := by unfold dOr; rw [h]; rfl
theorem y_isC {C : Addr} {l : List (Str × D)} : isC C (.ins C l) = some true := if_pos rfl
theorem y_fldC {C : Addr} {n : Str} {l : List (Str × D)} : dFld C n (.ins C l) = (l.lookup n).map .val := if_pos rfl
theorem y_ow1_non  {C : Addr} {F : List D → FO} {ok : D → Bool} {g : List D → Option Rv} : dOr (dOwn1 C F ok) g [.non] = g [.non] := rfl
theorem y_ow2_non  {C : Addr} {F : List D → FO} {n : Bool} {g : D → D → Option Rv} {e : D} : dOr2 (dOwn2 C F n) g (.non) e = g (.non) e := rfl
theorem y_ow1_bl {k : Bool} {C : Addr} {F : List D → FO} {ok : D → Bool} {g : List D → Option Rv} : dOr (dOwn1 C F ok) g [.bl k] = g [.bl k] := rfl
theorem y_ow2_bl {k : Bool} {C : Addr} {F : List D → FO} {n : Bool} {g : D → D → Option Rv} {e : D} : dOr2 (dOwn2 C F n) g (.bl k) e = g (.bl k) e := rfl
theorem y_ow1_int {i : Int} {C : Addr} {F : List D → FO} {ok : D → Bool} {g : List D → Option Rv} : dOr (dOwn1 C F ok) g [.int i] = g [.int i] := rfl
theorem y_ow2_int {i : Int} {C : Addr} {F : List D → FO} {n : Bool} {g : D → D → Option Rv} {e : D} : dOr2 (dOwn2 C F n) g (.int i) e = g (.int i) e := rfl
theorem y_ow1_str {s : Str} {C : Addr} {F : List D → FO} {ok : D → Bool} {g : List D → Option Rv} : dOr (dOwn1 C F ok) g [.str s] = g [.str s] := rfl
theorem y_ow2_str {s : Str} {C : Addr} {F : List D → FO} {n : Bool} {g : D → D → Option Rv} {e : D} : dOr2 (dOwn2 C F n) g (.str s) e = g (.str s) e := rfl
theorem y_ow1_tup {l : List D} {C : Addr} {F : List D → FO} {ok : D → Bool} {g : List D → Option Rv} : dOr (dOwn1 C F ok) g [.tup l] = g [.tup l] := rfl
theorem y_ow2_tup {l : List D} {C : Addr} {F : List D → FO} {n : Bool} {g : D → D → Option Rv} {e : D} : dOr2 (dOwn2 C F n) g (.tup l) e = g (.tup l) e := rfl
theorem y_ow1_lst {l : List D} {C : Addr} {F : List D → FO} {ok : D → Bool} {g : List D → Option Rv} : dOr (dOwn1 C F ok) g [.lst l] = g [.lst l] := rfl
theorem y_ow2_lst {l : List D} {C : Addr} {F : List D → FO} {n : Bool} {g : D → D → Option Rv} {e : D} : dOr2 (dOwn2 C F n) g (.lst l) e = g (.lst l) e := rfl
theorem y_ow1_dT {l : List (List Key × D)} {C : Addr} {F : List D → FO} {ok : D → Bool} {g : List D → Option Rv} : dOr (dOwn1 C F ok) g [.dT l] = g [.dT l] := rfl
theorem y_ow2_dT {l : List (List Key × D)} {C : Addr} {F : List D → FO} {n : Bool} {g : D → D → Option Rv} {e : D} : dOr2 (dOwn2 C F n) g (.dT l) e = g (.dT l) e := rfl
theorem y_ow1_dK {l : List (Key × D)} {C : Addr} {F : List D → FO} {ok : D → Bool} {g : List D → Option Rv} : dOr (dOwn1 C F ok) g [.dK l] = g [.dK l] := rfl
theorem y_ow2_dK {l : List (Key × D)} {C : Addr} {F : List D → FO} {n : Bool} {g : D → D → Option Rv} {e : D} : dOr2 (dOwn2 C F n) g (.dK l) e = g (.dK l) e := rfl
theorem y_ow1_scr {l : List Int} {C : Addr} {F : List D → FO} {ok : D → Bool} {g : List D → Option Rv} : dOr (dOwn1 C F ok) g [.scr l] = g [.scr l] := rfl
theorem y_ow2_scr {l : List Int} {C : Addr} {F : List D → FO} {n : Bool} {g : D → D → Option Rv} {e : D} : dOr2 (dOwn2 C F n) g (.scr l) e = g (.scr l) e := rfl
theorem y_ix2_0 {a0 a1 : D} : dIx (.tup [a0, a1]) (.int 0) = some a0 := rfl
theorem y_iy2_0 {a0 a1 : D} : dIx (.lst [a0, a1]) (.int 0) = some a0 := rfl
theorem y_ix2_1 {a0 a1 : D} : dIx (.tup [a0, a1]) (.int 1) = some a1 := rfl
theorem y_iy2_1 {a0 a1 : D} : dIx (.lst [a0, a1]) (.int 1) = some a1 := rfl
theorem y_ix3_0 {a0 a1 a2 : D} : dIx (.tup [a0, a1, a2]) (.int 0) = some a0 := rfl
theorem y_iy3_0 {a0 a1 a2 : D} : dIx (.lst [a0, a1, a2]) (.int 0) = some a0 := rfl
theorem y_ix3_1 {a0 a1 a2 : D} : dIx (.tup [a0, a1, a2]) (.int 1) = some a1 := rfl
theorem y_iy3_1 {a0 a1 a2 : D} : dIx (.lst [a0, a1, a2]) (.int 1) = some a1 := rfl
theorem y_ix3_2 {a0 a1 a2 : D} : dIx (.tup [a0, a1, a2]) (.int 2) = some a2 := rfl
theorem y_iy3_2 {a0 a1 a2 : D} : dIx (.lst [a0, a1, a2]) (.int 2) = some a2 := rfl
theorem y_ix4_0 {a0 a1 a2 a3 : D} : dIx (.tup [a0, a1, a2, a3]) (.int 0) = some a0 := rfl
theorem y_iy4_0 {a0 a1 a2 a3 : D} : dIx (.lst [a0, a1, a2, a3]) (.int 0) = some a0 := rfl
theorem y_ix4_1 {a0 a1 a2 a3 : D} : dIx (.tup [a0, a1, a2, a3]) (.int 1) = some a1 := rfl
theorem y_iy4_1 {a0 a1 a2 a3 : D} : dIx (.lst [a0, a1, a2, a3]) (.int 1) = some a1 := rfl
theorem y_ix4_2 {a0 a1 a2 a3 : D} : dIx (.tup [a0, a1, a2, a3]) (.int 2) = some a2 := rfl
theorem y_iy4_2 {a0 a1 a2 a3 : D} : dIx (.lst [a0, a1, a2, a3]) (.int 2) = some a2 := rfl
theorem y_ix4_3 {a0 a1 a2 a3 : D} : dIx (.tup [a0, a1, a2, a3]) (.int 3) = some a3 := rfl
theorem y_iy4_3 {a0 a1 a2 a3 : D} : dIx (.lst [a0, a1, a2, a3]) (.int 3) = some a3 := rfl
theorem y_ix5_0 {a0 a1 a2 a3 a4 : D} : dIx (.tup [a0, a1, a2, a3, a4]) (.int 0) = some a0 := rfl
theorem y_iy5_0 {a0 a1 a2 a3 a4 : D} : dIx (.lst [a0, a1, a2, a3, a4]) (.int 0) = some a0 := rfl
theorem y_ix5_1 {a0 a1 a2 a3 a4 : D} : dIx (.tup [a0, a1, a2, a3, a4]) (.int 1) = some a1 := rfl
theorem y_iy5_1 {a0 a1 a2 a3 a4 : D} : dIx (.lst [a0, a1, a2, a3, a4]) (.int 1) = some a1 := rfl
theorem y_ix5_2 {a0 a1 a2 a3 a4 : D} : dIx (.tup [a0, a1, a2, a3, a4]) (.int 2) = some a2 := rfl
theorem y_iy5_2 {a0 a1 a2 a3 a4 : D} : dIx (.lst [a0, a1, a2, a3, a4]) (.int 2) = some a2 := rfl
theorem y_ix5_3 {a0 a1 a2 a3 a4 : D} : dIx (.tup [a0, a1, a2, a3, a4]) (.int 3) = some a3 := rfl
theorem y_iy5_3 {a0 a1 a2 a3 a4 : D} : dIx (.lst [a0, a1, a2, a3, a4]) (.int 3) = some a3 := rfl
theorem y_ix5_4 {a0 a1 a2 a3 a4 : D} : dIx (.tup [a0, a1, a2, a3, a4]) (.int 4) = some a4 := rfl
theorem y_iy5_4 {a0 a1 a2 a3 a4 : D} : dIx (.lst [a0, a1, a2, a3, a4]) (.int 4) = some a4 := rfl
theorem y_tup0 {r : Rho} : qTup [] r = .ok (.val (.tup [])) r := qTup_of (show 0 ≤ 1000 by decide)
theorem y_tup1 {a0 : D} {r : Rho} : qTup [a0] r = .ok (.val (.tup [a0])) r := qTup_of (show 1 ≤ 1000 by decide)
theorem y_tup2 {a0 a1 : D} {r : Rho} : qTup [a0, a1] r = .ok (.val (.tup [a0, a1])) r := qTup_of (show 2 ≤ 1000 by decide)
theorem y_tup3 {a0 a1 a2 : D} {r : Rho} : qTup [a0, a1, a2] r = .ok (.val (.tup [a0, a1, a2])) r := qTup_of (show 3 ≤ 1000 by decide)
theorem y_tup4 {a0 a1 a2 a3 : D} {r : Rho} : qTup [a0, a1, a2, a3] r = .ok (.val (.tup [a0, a1, a2, a3])) r := qTup_of (show 4 ≤ 1000 by decide)
theorem y_tup5 {a0 a1 a2 a3 a4 : D} {r : Rho} : qTup [a0, a1, a2, a3, a4] r = .ok (.val (.tup [a0, a1, a2, a3, a4])) r := qTup_of (show 5 ≤ 1000 by decide)
theorem y_tup6 {a0 a1 a2 a3 a4 a5 : D} {r : Rho} : qTup [a0, a1, a2, a3, a4, a5] r = .ok (.val (.tup [a0, a1, a2, a3, a4, a5])) r := qTup_of (show 6 ≤ 1000 by decide)
theorem y_tup7 {a0 a1 a2 a3 a4 a5 a6 : D} {r : Rho} : qTup [a0, a1, a2, a3, a4, a5, a6] r = .ok (.val (.tup [a0, a1, a2, a3, a4, a5, a6])) r := qTup_of (show 7 ≤ 1000 by decide)
theorem y_tup8 {a0 a1 a2 a3 a4 a5 a6 a7 : D} {r : Rho} : qTup [a0, a1, a2, a3, a4, a5, a6, a7] r = .ok (.val (.tup [a0, a1, a2, a3, a4, a5, a6, a7])) r := qTup_of (show 8 ≤ 1000 by decide)
theorem y_tup9 {a0 a1 a2 a3 a4 a5 a6 a7 a8 : D} {r : Rho} : qTup [a0, a1, a2, a3, a4, a5, a6, a7, a8] r = .ok (.val (.tup [a0, a1, a2, a3, a4, a5, a6, a7, a8])) r := qTup_of (show 9 ≤ 1000 by decide)
theorem y_tup10 {a0 a1 a2 a3 a4 a5 a6 a7 a8 a9 : D} {r : Rho} : qTup [a0, a1, a2, a3, a4, a5, a6, a7, a8, a9] r = .ok (.val (.tup [a0, a1, a2, a3, a4, a5, a6, a7, a8, a9])) r := qTup_of (show 10 ≤ 1000 by decide)
theorem y_tup11 {a0 a1 a2 a3 a4 a5 a6 a7 a8 a9 a10 : D} {r : Rho} : qTup [a0, a1, a2, a3, a4, a5, a6, a7, a8, a9, a10] r = .ok (.val (.tup [a0, a1, a2, a3, a4, a5, a6, a7, a8, a9, a10])) r := qTup_of (show 11 ≤ 1000 by decide)
theorem y_tup12 {a0 a1 a2 a3 a4 a5 a6 a7 a8 a9 a10 a11 : D} {r : Rho} : qTup [a0, a1, a2, a3, a4, a5, a6, a7, a8, a9, a10, a11] r = .ok (.val (.tup [a0, a1, a2, a3, a4, a5, a6, a7, a8, a9, a10, a11])) r := qTup_of (show 12 ≤ 1000 by decide)
theorem y_lst0 {r : Rho} : qLst [] r = .ok (.new (.lst [])) r := qLst_of (show 0 ≤ 1000 by decide)
theorem y_len0 : dLen [.lst []] = some (.val (.int 0)) := rfl
theorem y_lenq0 : dLen [.tup []] = some (.val (.int 0)) := rfl
theorem y_lst1 {a0 : D} {r : Rho} : qLst [a0] r = .ok (.new (.lst [a0])) r := qLst_of (show 1 ≤ 1000 by decide)
theorem y_len1 {a0 : D} : dLen [.lst [a0]] = some (.val (.int 1)) := rfl
theorem y_lenq1 {a0 : D} : dLen [.tup [a0]] = some (.val (.int 1)) := rfl
theorem y_lst2 {a0 a1 : D} {r : Rho} : qLst [a0, a1] r = .ok (.new (.lst [a0, a1])) r := qLst_of (show 2 ≤ 1000 by decide)
theorem y_len2 {a0 a1 : D} : dLen [.lst [a0, a1]] = some (.val (.int 2)) := rfl
theorem y_lenq2 {a0 a1 : D} : dLen [.tup [a0, a1]] = some (.val (.int 2)) := rfl
theorem y_lst3 {a0 a1 a2 : D} {r : Rho} : qLst [a0, a1, a2] r = .ok (.new (.lst [a0, a1, a2])) r := qLst_of (show 3 ≤ 1000 by decide)
theorem y_len3 {a0 a1 a2 : D} : dLen [.lst [a0, a1, a2]] = some (.val (.int 3)) := rfl
theorem y_lenq3 {a0 a1 a2 : D} : dLen [.tup [a0, a1, a2]] = some (.val (.int 3)) := rfl
theorem y_lst4 {a0 a1 a2 a3 : D} {r : Rho} : qLst [a0, a1, a2, a3] r = .ok (.new (.lst [a0, a1, a2, a3])) r := qLst_of (show 4 ≤ 1000 by decide)
theorem y_len4 {a0 a1 a2 a3 : D} : dLen [.lst [a0, a1, a2, a3]] = some (.val (.int 4)) := rfl
theorem y_lenq4 {a0 a1 a2 a3 : D} : dLen [.tup [a0, a1, a2, a3]] = some (.val (.int 4)) := rfl
theorem y_lst5 {a0 a1 a2 a3 a4 : D} {r : Rho} : qLst [a0, a1, a2, a3, a4] r = .ok (.new (.lst [a0, a1, a2, a3, a4])) r := qLst_of (show 5 ≤ 1000 by decide)
theorem y_len5 {a0 a1 a2 a3 a4 : D} : dLen [.lst [a0, a1, a2, a3, a4]] = some (.val (.int 5)) := rfl
theorem y_lenq5 {a0 a1 a2 a3 a4 : D} : dLen [.tup [a0, a1, a2, a3, a4]] = some (.val (.int 5)) := rfl
theorem y_lst6 {a0 a1 a2 a3 a4 a5 : D} {r : Rho} : qLst [a0, a1, a2, a3, a4, a5] r = .ok (.new (.lst [a0, a1, a2, a3, a4, a5])) r := qLst_of (show 6 ≤ 1000 by decide)
theorem y_len6 {a0 a1 a2 a3 a4 a5 : D} : dLen [.lst [a0, a1, a2, a3, a4, a5]] = some (.val (.int 6)) := rfl
theorem y_lenq6 {a0 a1 a2 a3 a4 a5 : D} : dLen [.tup [a0, a1, a2, a3, a4, a5]] = some (.val (.int 6)) := rfl
theorem y_lst7 {a0 a1 a2 a3 a4 a5 a6 : D} {r : Rho} : qLst [a0, a1, a2, a3, a4, a5, a6] r = .ok (.new (.lst [a0, a1, a2, a3, a4, a5, a6])) r := qLst_of (show 7 ≤ 1000 by decide)
theorem y_len7 {a0 a1 a2 a3 a4 a5 a6 : D} : dLen [.lst [a0, a1, a2, a3, a4, a5, a6]] = some (.val (.int 7)) := rfl
theorem y_lenq7 {a0 a1 a2 a3 a4 a5 a6 : D} : dLen [.tup [a0, a1, a2, a3, a4, a5, a6]] = some (.val (.int 7)) := rfl
theorem y_lst8 {a0 a1 a2 a3 a4 a5 a6 a7 : D} {r : Rho} : qLst [a0, a1, a2, a3, a4, a5, a6, a7] r = .ok (.new (.lst [a0, a1, a2, a3, a4, a5, a6, a7])) r := qLst_of (show 8 ≤ 1000 by decide)
theorem y_lst9 {a0 a1 a2 a3 a4 a5 a6 a7 a8 : D} {r : Rho} : qLst [a0, a1, a2, a3, a4, a5, a6, a7, a8] r = .ok (.new (.lst [a0, a1, a2, a3, a4, a5, a6, a7, a8])) r := qLst_of (show 9 ≤ 1000 by decide)
theorem y_lst10 {a0 a1 a2 a3 a4 a5 a6 a7 a8 a9 : D} {r : Rho} : qLst [a0, a1, a2, a3, a4, a5, a6, a7, a8, a9] r = .ok (.new (.lst [a0, a1, a2, a3, a4, a5, a6, a7, a8, a9])) r := qLst_of (show 10 ≤ 1000 by decide)
theorem y_lst11 {a0 a1 a2 a3 a4 a5 a6 a7 a8 a9 a10 : D} {r : Rho} : qLst [a0, a1, a2, a3, a4, a5, a6, a7, a8, a9, a10] r = .ok (.new (.lst [a0, a1, a2, a3, a4, a5, a6, a7, a8, a9, a10])) r := qLst_of (show 11 ≤ 1000 by decide)
theorem y_lst12 {a0 a1 a2 a3 a4 a5 a6 a7 a8 a9 a10 a11 : D} {r : Rho} : qLst [a0, a1, a2, a3, a4, a5, a6, a7, a8, a9, a10, a11] r = .ok (.new (.lst [a0, a1, a2, a3, a4, a5, a6, a7, a8, a9, a10, a11])) r := qLst_of (show 12 ≤ 1000 by decide)
theorem y_lst13 {a0 a1 a2 a3 a4 a5 a6 a7 a8 a9 a10 a11 a12 : D} {r : Rho} : qLst [a0, a1, a2, a3, a4, a5, a6, a7, a8, a9, a10, a11, a12] r = .ok (.new (.lst [a0, a1, a2, a3, a4, a5, a6, a7, a8, a9, a10, a11, a12])) r := qLst_of (show 13 ≤ 1000 by decide)
theorem y_lst14 {a0 a1 a2 a3 a4 a5 a6 a7 a8 a9 a10 a11 a12 a13 : D} {r : Rho} : qLst [a0, a1, a2, a3, a4, a5, a6, a7, a8, a9, a10, a11, a12, a13] r = .ok (.new (.lst [a0, a1, a2, a3, a4, a5, a6, a7, a8, a9, a10, a11, a12, a13])) r := qLst_of (show 14 ≤ 1000 by decide)
theorem y_lst15 {a0 a1 a2 a3 a4 a5 a6 a7 a8 a9 a10 a11 a12 a13 a14 : D} {r : Rho} : qLst [a0, a1, a2, a3, a4, a5, a6, a7, a8, a9, a10, a11, a12, a13, a14] r = .ok (.new (.lst [a0, a1, a2, a3, a4, a5, a6, a7, a8, a9, a10, a11, a12, a13, a14])) r := qLst_of (show 15 ≤ 1000 by decide)
theorem y_lst16 {a0 a1 a2 a3 a4 a5 a6 a7 a8 a9 a10 a11 a12 a13 a14 a15 : D} {r : Rho} : qLst [a0, a1, a2, a3, a4, a5, a6, a7, a8, a9, a10, a11, a12, a13, a14, a15] r = .ok (.new (.lst [a0, a1, a2, a3, a4, a5, a6, a7, a8, a9, a10, a11, a12, a13, a14, a15])) r := qLst_of (show 16 ≤ 1000 by decide)
theorem y_lst17 {a0 a1 a2 a3 a4 a5 a6 a7 a8 a9 a10 a11 a12 a13 a14 a15 a16 : D} {r : Rho} : qLst [a0, a1, a2, a3, a4, a5, a6, a7, a8, a9, a10, a11, a12, a13, a14, a15, a16] r = .ok (.new (.lst [a0, a1, a2, a3, a4, a5, a6, a7, a8, a9, a10, a11, a12, a13, a14, a15, a16])) r := qLst_of (show 17 ≤ 1000 by decide)
theorem y_lst18 {a0 a1 a2 a3 a4 a5 a6 a7 a8 a9 a10 a11 a12 a13 a14 a15 a16 a17 : D} {r : Rho} : qLst [a0, a1, a2, a3, a4, a5, a6, a7, a8, a9, a10, a11, a12, a13, a14, a15, a16, a17] r = .ok (.new (.lst [a0, a1, a2, a3, a4, a5, a6, a7, a8, a9, a10, a11, a12, a13, a14, a15, a16, a17])) r := qLst_of (show 18 ≤ 1000 by decide)
theorem y_lst19 {a0 a1 a2 a3 a4 a5 a6 a7 a8 a9 a10 a11 a12 a13 a14 a15 a16 a17 a18 : D} {r : Rho} : qLst [a0, a1, a2, a3, a4, a5, a6, a7, a8, a9, a10, a11, a12, a13, a14, a15, a16, a17, a18] r = .ok (.new (.lst [a0, a1, a2, a3, a4, a5, a6, a7, a8, a9, a10, a11, a12, a13, a14, a15, a16, a17, a18])) r := qLst_of (show 19 ≤ 1000 by decide)
theorem y_lst20 {a0 a1 a2 a3 a4 a5 a6 a7 a8 a9 a10 a11 a12 a13 a14 a15 a16 a17 a18 a19 : D} {r : Rho} : qLst [a0, a1, a2, a3, a4, a5, a6, a7, a8, a9, a10, a11, a12, a13, a14, a15, a16, a17, a18, a19] r = .ok (.new (.lst [a0, a1, a2, a3, a4, a5, a6, a7, a8, a9, a10, a11, a12, a13, a14, a15, a16, a17, a18, a19])) r := qLst_of (show 20 ≤ 1000 by decide)
theorem y_lst21 {a0 a1 a2 a3 a4 a5 a6 a7 a8 a9 a10 a11 a12 a13 a14 a15 a16 a17 a18 a19 a20 : D} {r : Rho} : qLst [a0, a1, a2, a3, a4, a5, a6, a7, a8, a9, a10, a11, a12, a13, a14, a15, a16, a17, a18, a19, a20] r = .ok (.new (.lst [a0, a1, a2, a3, a4, a5, a6, a7, a8, a9, a10, a11, a12, a13, a14, a15, a16, a17, a18, a19, a20])) r := qLst_of (show 21 ≤ 1000 by decide)
theorem y_lst22 {a0 a1 a2 a3 a4 a5 a6 a7 a8 a9 a10 a11 a12 a13 a14 a15 a16 a17 a18 a19 a20 a21 : D} {r : Rho} : qLst [a0, a1, a2, a3, a4, a5, a6, a7, a8, a9, a10, a11, a12, a13, a14, a15, a16, a17, a18, a19, a20, a21] r = .ok (.new (.lst [a0, a1, a2, a3, a4, a5, a6, a7, a8, a9, a10, a11, a12, a13, a14, a15, a16, a17, a18, a19, a20, a21])) r := qLst_of (show 22 ≤ 1000 by decide)
theorem y_lst23 {a0 a1 a2 a3 a4 a5 a6 a7 a8 a9 a10 a11 a12 a13 a14 a15 a16 a17 a18 a19 a20 a21 a22 : D} {r : Rho} : qLst [a0, a1, a2, a3, a4, a5, a6, a7, a8, a9, a10, a11, a12, a13, a14, a15, a16, a17, a18, a19, a20, a21, a22] r = .ok (.new (.lst [a0, a1, a2, a3, a4, a5, a6, a7, a8, a9, a10, a11, a12, a13, a14, a15, a16, a17, a18, a19, a20, a21, a22])) r := qLst_of (show 23 ≤ 1000 by decide)
theorem y_lst24 {a0 a1 a2 a3 a4 a5 a6 a7 a8 a9 a10 a11 a12 a13 a14 a15 a16 a17 a18 a19 a20 a21 a22 a23 : D} {r : Rho} : qLst [a0, a1, a2, a3, a4, a5, a6, a7, a8, a9, a10, a11, a12, a13, a14, a15, a16, a17, a18, a19, a20, a21, a22, a23] r = .ok (.new (.lst [a0, a1, a2, a3, a4, a5, a6, a7, a8, a9, a10, a11, a12, a13, a14, a15, a16, a17, a18, a19, a20, a21, a22, a23])) r := qLst_of (show 24 ≤ 1000 by decide)
theorem y_lst25 {a0 a1 a2 a3 a4 a5 a6 a7 a8 a9 a10 a11 a12 a13 a14 a15 a16 a17 a18 a19 a20 a21 a22 a23 a24 : D} {r : Rho} : qLst [a0, a1, a2, a3, a4, a5, a6, a7, a8, a9, a10, a11, a12, a13, a14, a15, a16, a17, a18, a19, a20, a21, a22, a23, a24] r = .ok (.new (.lst [a0, a1, a2, a3, a4, a5, a6, a7, a8, a9, a10, a11, a12, a13, a14, a15, a16, a17, a18, a19, a20, a21, a22, a23, a24])) r := qLst_of (show 25 ≤ 1000 by decide)
theorem y_lst26 {a0 a1 a2 a3 a4 a5 a6 a7 a8 a9 a10 a11 a12 a13 a14 a15 a16 a17 a18 a19 a20 a21 a22 a23 a24 a25 : D} {r : Rho} : qLst [a0, a1, a2, a3, a4, a5, a6, a7, a8, a9, a10, a11, a12, a13, a14, a15, a16, a17, a18, a19, a20, a21, a22, a23, a24, a25] r = .ok (.new (.lst [a0, a1, a2, a3, a4, a5, a6, a7, a8, a9, a10, a11, a12, a13, a14, a15, a16, a17, a18, a19, a20, a21, a22, a23, a24, a25])) r := qLst_of (show 26 ≤ 1000 by decide)
theorem y_lst27 {a0 a1 a2 a3 a4 a5 a6 a7 a8 a9 a10 a11 a12 a13 a14 a15 a16 a17 a18 a19 a20 a21 a22 a23 a24 a25 a26 : D} {r : Rho} : qLst [a0, a1, a2, a3, a4, a5, a6, a7, a8, a9, a10, a11, a12, a13, a14, a15, a16, a17, a18, a19, a20, a21, a22, a23, a24, a25, a26] r = .ok (.new (.lst [a0, a1, a2, a3, a4, a5, a6, a7, a8, a9, a10, a11, a12, a13, a14, a15, a16, a17, a18, a19, a20, a21, a22, a23, a24, a25, a26])) r := qLst_of (show 27 ≤ 1000 by decide)
theorem y_isT_int_non  : isT "int" false (.non) = some false := rfl
theorem y_isT_int_bl {k : Bool} : isT "int" false (.bl k) = some true := rfl
theorem y_isT_int_int {i : Int} : isT "int" false (.int i) = some true := rfl
theorem y_isT_int_str {s : Str} : isT "int" false (.str s) = some false := rfl
theorem y_isT_int_tup {l : List D} : isT "int" false (.tup l) = some false := rfl
theorem y_isT_int_lst {l : List D} : isT "int" false (.lst l) = some false := rfl
theorem y_isT_str_non  : isT "str" false (.non) = some false := rfl
theorem y_isT_str_bl {k : Bool} : isT "str" false (.bl k) = some false := rfl
theorem y_isT_str_int {i : Int} : isT "str" false (.int i) = some false := rfl
theorem y_isT_str_str {s : Str} : isT "str" false (.str s) = some true := rfl
theorem y_isT_str_tup {l : List D} : isT "str" false (.tup l) = some false := rfl
theorem y_isT_str_lst {l : List D} : isT "str" false (.lst l) = some false := rfl
theorem y_isT_list_non  : isT "list" false (.non) = some false := rfl
theorem y_isT_list_bl {k : Bool} : isT "list" false (.bl k) = some false := rfl
theorem y_isT_list_int {i : Int} : isT "list" false (.int i) = some false := rfl
theorem y_isT_list_str {s : Str} : isT "list" false (.str s) = some false := rfl
theorem y_isT_list_tup {l : List D} : isT "list" false (.tup l) = some false := rfl
theorem y_isT_list_lst {l : List D} : isT "list" false (.lst l) = some true := rfl
theorem y_isT_tuple_non  : isT "tuple" false (.non) = some false := rfl
theorem y_isT_tuple_bl {k : Bool} : isT "tuple" false (.bl k) = some false := rfl
theorem y_isT_tuple_int {i : Int} : isT "tuple" false (.int i) = some false := rfl
theorem y_isT_tuple_str {s : Str} : isT "tuple" false (.str s) = some false := rfl
theorem y_isT_tuple_tup {l : List D} : isT "tuple" false (.tup l) = some true := rfl
theorem y_isT_tuple_lst {l : List D} : isT "tuple" false (.lst l) = some false := rfl
theorem y_isT_bool_non  : isT "bool" false (.non) = some false := rfl
theorem y_isT_bool_bl {k : Bool} : isT "bool" false (.bl k) = some true := rfl
theorem y_isT_bool_int {i : Int} : isT "bool" false (.int i) = some false := rfl
theorem y_isT_bool_str {s : Str} : isT "bool" false (.str s) = some false := rfl
theorem y_isT_bool_tup {l : List D} : isT "bool" false (.tup l) = some false := rfl
theorem y_isT_bool_lst {l : List D} : isT "bool" false (.lst l) = some false := rfl
end Mp
set_option Elab.async false
set_option linter.all false
set_option maxRecDepth 100000
namespace Mp
open PySem PySem.Spec PyProof.Rows L2 Evl
section
variable {S L P b c A : Type} {Ow : Rho → Prop} {F : S → Rho → Prop} {FL : L → Rho → Prop} {G : P → Rv → Rho → Prop} {r : Rho} {sb : Sv} {ev : Ev Rv} {oi : Ev Src} {i : Nat} {t : R b} {v : b → Rv} {f : b → Rho} {t2 : b → R c} {v2 : b → c → Src} {f2 : b → c → Rho}
theorem setix_ {e : A → D} {l : List A} {w : b → A} {k : c → Int} (h1 : ERef Ow (ev r) t v f) (hf : ∀ x, ∃ o, (f x)[i]? = some (.own o)) (h2 : ∀ x, ERef Ow (oi (f x)) (t2 x) (v2 x) (f2 x)) (hl : ∀ x y, (f2 x y)[i]? = some (.own (.lst (l.map e)))) (hw : ∀ x, (v x).data = e (w x)) (hk : ∀ x y, (v2 x y).rd (f2 x y) = some (.int (k y))) (hc : ∀ x y, f2 x y = r) :
    SN Ow (fun l' r' => r' = r.set i (.own (.lst (l'.map e)))) (sSetIx i ev oi r) (t.bind fun x => (t2 x).bind fun y => R.setI l (k y) (w x)) := by
  show SN Ow _ ((ev r).toS _) _
  cases t with
  | stuck => trivial
  | exc x => obtain ⟨r1, h, w⟩ := h1; rw [h]; exact ⟨r1, rfl, w⟩
  | ok x =>
    have h1 : ev r = .ok (v x) (f x) := h1
    obtain ⟨o, ho⟩ := hf x
    have h2 := h2 x
    rw [h1]
    show SN Ow _ (match (f x)[i]? with | some (.own _) => (oi (f x)).toS _ | _ => .stuck) ((t2 x).bind fun y => R.setI l (k y) (w x))
    rw [ho]
    show SN Ow _ ((oi (f x)).toS _) _
    cases ht : t2 x with
    | stuck => trivial
    | exc y => rw [ht] at h2; obtain ⟨r1, h, w⟩ := h2; rw [h]; exact ⟨r1, rfl, w⟩
    | ok y =>
      rw [ht] at h2
      have h2 : oi (f x) = .ok (v2 x y) (f2 x y) := h2
      rw [h2]
      show SN Ow _ (match (f2 x y)[i]?, (v2 x y).rd (f2 x y) with
        | some (.own (.lst l)), some (.int k) => (match ixN l.length k with
          | some j => SO.nx ((f2 x y).set i (.own (.lst (l.set j (v x).data))))
          | none => .stuck)
        | _, _ => .stuck) (R.ofO ((ixN l.length (k y)).map fun j => l.set j (w x)))
      rw [hl x y, hk x y]
      show SN Ow _ (match ixN (l.map e).length (k y) with | some j => SO.nx ((f2 x y).set i (.own (.lst ((l.map e).set j (v x).data)))) | none => .stuck) _
      rw [List.length_map]
      cases ixN l.length (k y) with
      | none => trivial
      | some j => exact ⟨_, rfl, by rw [hw x, hc x y]; show _ = r.set i (.own (.lst ((l.set j (w x)).map e))); rw [List.map_set]⟩
theorem dputT_ {K : Type} [DecidableEq K] {ek : K → List Key} (inj : ∀ a b, ek a = ek b → a = b) {e : A → D} {l : List (K × A)} {w : b → A} {k : c → K} {kd : c → List D} (h1 : ERef Ow (ev r) t v f) (hf : ∀ x, ∃ o, (f x)[i]? = some (.own o)) (h2 : ∀ x, ERef Ow (oi (f x)) (t2 x) (v2 x) (f2 x)) (hl : ∀ x y, (f2 x y)[i]? = some (.own (.dT (eDT' ek e l)))) (hw : ∀ x, (v x).data = e (w x)) (hk : ∀ x y, (v2 x y).rd (f2 x y) = some (.tup (kd y))) (hkd : ∀ y, keysD (kd y) = some (ek (k y))) (hc : ∀ x y, f2 x y = r) :
    SN Ow (fun l' r' => r' = r.set i (.own (.dT (eDT' ek e l')))) (sDput i ev oi r) (t.bind fun x => (t2 x).bind fun y => R.put l (k y) (w x)) := by
  show SN Ow _ ((ev r).toS _) _
  cases t with
  | stuck => trivial
  | exc x => obtain ⟨r1, h, w⟩ := h1; rw [h]; exact ⟨r1, rfl, w⟩
  | ok x =>
    have h1 : ev r = .ok (v x) (f x) := h1
    obtain ⟨o, ho⟩ := hf x
    have h2 := h2 x
    rw [h1]
    show SN Ow _ (match (f x)[i]? with | some (.own _) => (oi (f x)).toS _ | _ => .stuck) ((t2 x).bind fun y => R.put l (k y) (w x))
    rw [ho]
    show SN Ow _ ((oi (f x)).toS _) _
    cases ht : t2 x with
    | stuck => trivial
    | exc y => rw [ht] at h2; obtain ⟨r1, h, w⟩ := h2; rw [h]; exact ⟨r1, rfl, w⟩
    | ok y =>
      rw [ht] at h2
      have h2 : oi (f x) = .ok (v2 x y) (f2 x y) := h2
      rw [h2]
      show SN Ow _ (match (f2 x y)[i]?, (v2 x y).rd (f2 x y) with
        | some (.own (.dT l)), some (.tup ks) => (match keysD ks with
          | some k => if l.length < sizeLine then SO.nx ((f2 x y).set i (.own (.dT (putD l k (v x).data)))) else .stuck
          | none => .stuck)
        | some (.own (.dK l)), some kd => (match keyD kd with
          | some k => if l.length < sizeLine then SO.nx ((f2 x y).set i (.own (.dK (putD l k (v x).data)))) else .stuck
          | none => .stuck)
        | _, _ => .stuck) (R.grd (l.length < sizeLine) (.ok (putT l (k y) (w x))))
      rw [hl x y, hk x y]
      show SN Ow _ (match keysD (kd y) with | some k => if (eDT' ek e l).length < sizeLine then SO.nx ((f2 x y).set i (.own (.dT (putD (eDT' ek e l) k (v x).data)))) else .stuck | none => .stuck) _
      rw [hkd y]
      show SN Ow _ (if (eDT' ek e l).length < sizeLine then SO.nx ((f2 x y).set i (.own (.dT (putD (eDT' ek e l) (ek (k y)) (v x).data)))) else .stuck) _
      rw [List.length_map]
      unfold R.grd
      split
      · exact ⟨_, rfl, by rw [hw x, hc x y, putT_map inj]⟩
      · trivial
theorem dputK_ {K : Type} [DecidableEq K] {ek : K → Key} (inj : ∀ a b, ek a = ek b → a = b) {e : A → D} {l : List (K × A)} {w : b → A} {k : c → K} {kd : c → D} (h1 : ERef Ow (ev r) t v f) (hf : ∀ x, ∃ o, (f x)[i]? = some (.own o)) (h2 : ∀ x, ERef Ow (oi (f x)) (t2 x) (v2 x) (f2 x)) (hl : ∀ x y, (f2 x y)[i]? = some (.own (.dK (eDK' ek e l)))) (hw : ∀ x, (v x).data = e (w x)) (hk : ∀ x y, (v2 x y).rd (f2 x y) = some (kd y)) (hkd : ∀ y, keyD (kd y) = some (ek (k y))) (hc : ∀ x y, f2 x y = r) :
    SN Ow (fun l' r' => r' = r.set i (.own (.dK (eDK' ek e l')))) (sDput i ev oi r) (t.bind fun x => (t2 x).bind fun y => R.put l (k y) (w x)) := by
  show SN Ow _ ((ev r).toS _) _
  cases t with
  | stuck => trivial
  | exc x => obtain ⟨r1, h, w⟩ := h1; rw [h]; exact ⟨r1, rfl, w⟩
  | ok x =>
    have h1 : ev r = .ok (v x) (f x) := h1
    obtain ⟨o, ho⟩ := hf x
    have h2 := h2 x
    rw [h1]
    show SN Ow _ (match (f x)[i]? with | some (.own _) => (oi (f x)).toS _ | _ => .stuck) ((t2 x).bind fun y => R.put l (k y) (w x))
    rw [ho]
    show SN Ow _ ((oi (f x)).toS _) _
    cases ht : t2 x with
    | stuck => trivial
    | exc y => rw [ht] at h2; obtain ⟨r1, h, w⟩ := h2; rw [h]; exact ⟨r1, rfl, w⟩
    | ok y =>
      rw [ht] at h2
      have h2 : oi (f x) = .ok (v2 x y) (f2 x y) := h2
      rw [h2]
      have go : ∀ d : D, keyD d = some (ek (k y)) → (match (some (.own (.dK (eDK' ek e l))) : Option Cell), some d with
        | some (.own (.dT l)), some (.tup ks) => (match keysD ks with
          | some k => if l.length < sizeLine then SO.nx ((f2 x y).set i (.own (.dT (putD l k (v x).data)))) else .stuck
          | none => .stuck)
        | some (.own (.dK l)), some kd => (match keyD kd with
          | some k => if l.length < sizeLine then SO.nx ((f2 x y).set i (.own (.dK (putD l k (v x).data)))) else .stuck
          | none => .stuck)
        | _, _ => .stuck) = if (eDK' ek e l).length < sizeLine then SO.nx ((f2 x y).set i (.own (.dK (putD (eDK' ek e l) (ek (k y)) (v x).data)))) else .stuck := fun d hd => by
        show (match keyD d with | some k => if (eDK' ek e l).length < sizeLine then SO.nx ((f2 x y).set i (.own (.dK (putD (eDK' ek e l) k (v x).data)))) else .stuck | none => .stuck) = _
        rw [hd]
      show SN Ow _ (match (f2 x y)[i]?, (v2 x y).rd (f2 x y) with
        | some (.own (.dT l)), some (.tup ks) => (match keysD ks with
          | some k => if l.length < sizeLine then SO.nx ((f2 x y).set i (.own (.dT (putD l k (v x).data)))) else .stuck
          | none => .stuck)
        | some (.own (.dK l)), some kd => (match keyD kd with
          | some k => if l.length < sizeLine then SO.nx ((f2 x y).set i (.own (.dK (putD l k (v x).data)))) else .stuck
          | none => .stuck)
        | _, _ => .stuck) (R.grd (l.length < sizeLine) (.ok (putT l (k y) (w x))))
      rw [hl x y, hk x y, go _ (hkd y)]
      rw [List.length_map]
      unfold R.grd
      split
      · exact ⟨_, rfl, by rw [hw x, hc x y, putT_map inj]⟩
      · trivial
end
/-! dict comprehensions -/
def dcR {X K A : Type} [DecidableEq K] (C : X → R Bool) (Kf : X → R K) (Vf : X → R A) : List X → List (K × A) → R (List (K × A))
  | [], l => .ok l
  | x :: xs, l => (C x).bind fun k => if k then (Kf x).bind fun q => (Vf x).bind fun y => dcR C Kf Vf xs (putT l q y) else dcR C Kf Vf xs l
section
variable {X K A : Type} [DecidableEq K] {Ow : Rho → Prop} {e : X → D} {eA : A → D} {ek : K → List Key} {g : Tg} {t : Ev Bool} {ky ev : Ev Rv} {vs : List Nat} {r r0 r1 : Rho} {C : X → R Bool} {Kf : X → R K} {Vf : X → R A} {vk : K → Rv} {ve : A → Rv} {kd : K → List D}
theorem dcR_ref (inj : ∀ a b, ek a = ek b → a = b) (hk : ∀ q, (vk q).data = .tup (kd q)) (hkd : ∀ q, keysD (kd q) = some (ek q)) (hd : ∀ y, (ve y).data = eA y)
    (h : ∀ x, ∃ r1, g (e x) r0 = some r1 ∧ ∃ fc : Bool → Rho, ERef Ow (t r1) (C x) id fc ∧ (wipeR (fc false) vs = r0) ∧ ∃ fk : K → Rho, ERef Ow (ky (fc true)) (Kf x) vk fk ∧ ∀ q, ∃ fe : A → Rho, ERef Ow (ev (fk q)) (Vf x) ve fe ∧ ∀ y, wipeR (fe y) vs = r0) : ∀ xs : List X, ∀ l m, dcR C Kf Vf xs l = .ok m → dcL g t ky ev vs (xs.map e) (eDT' ek eA l) r0 = .ok (eDT' ek eA m) r0
  | [], l, m, q => by cases q; rfl
  | x :: xs, l, m, q => by
    obtain ⟨r1, h1, fc, h2, h3, fk, h4, h5⟩ := h x
    unfold dcR at q
    rw [List.map_cons, dcL, h1]
    show (t r1).bind _ = _
    cases hC : C x with
    | stuck => rw [hC] at q; cases q
    | exc z => rw [hC] at q; cases q
    | ok k =>
      rw [hC] at q h2
      have h2 : t r1 = .ok k (fc k) := h2
      rw [h2]
      cases k with
      | false =>
        show dcL g t ky ev vs (xs.map e) (eDT' ek eA l) (wipeR (fc false) vs) = _
        rw [h3]
        exact dcR_ref inj hk hkd hd h xs l m q
      | true =>
        replace q : ((Kf x).bind fun z => (Vf x).bind fun y => dcR C Kf Vf xs (putT l z y)) = .ok m := q
        show (ky (fc true)).bind _ = _
        cases hK : Kf x with
        | stuck => rw [hK] at q; cases q
        | exc z => rw [hK] at q; cases q
        | ok z =>
          rw [hK] at q h4
          have h4 : ky (fc true) = .ok (vk z) (fk z) := h4
          rw [h4]
          obtain ⟨fe, h6, h7⟩ := h5 z
          replace q : ((Vf x).bind fun y => dcR C Kf Vf xs (putT l z y)) = .ok m := q
          show (ev (fk z)).bind _ = _
          cases hV : Vf x with
          | stuck => rw [hV] at q; cases q
          | exc z => rw [hV] at q; cases q
          | ok y =>
            rw [hV] at q h6
            have h6 : ev (fk z) = .ok (ve y) (fe y) := h6
            rw [h6]
            replace q : dcR C Kf Vf xs (putT l z y) = .ok m := q
            show (match (vk z).data with | .tup ks => (match keysD ks with | some key => dcL g t ky ev vs (xs.map e) (putD (eDT' ek eA l) key (ve y).data) (wipeR (fe y) vs) | none => .stuck) | _ => .stuck) = _
            rw [hk z]
            show (match keysD (kd z) with | some key => dcL g t ky ev vs (xs.map e) (putD (eDT' ek eA l) key (ve y).data) (wipeR (fe y) vs) | none => .stuck) = _
            rw [hkd z, hd y, h7 y]
            show dcL g t ky ev vs (xs.map e) (putD (eDT' ek eA l) (ek z) (eA y)) r0 = _
            rw [putT_map inj]
            exact dcR_ref inj hk hkd hd h xs _ m q
theorem op_dcomp (inj : ∀ a b, ek a = ek b → a = b) (hk : ∀ q, (vk q).data = .tup (kd q)) (hkd : ∀ q, keysD (kd q) = some (ek q)) (hd : ∀ y, (ve y).data = eA y) {xs : List X} (hw : wipeR r vs = r0) (hr : restore r r0 vs = r1)
    (h : ∀ x, ∃ r1, g (e x) r0 = some r1 ∧ ∃ fc : Bool → Rho, ERef Ow (t r1) (C x) id fc ∧ (wipeR (fc false) vs = r0) ∧ ∃ fk : K → Rho, ERef Ow (ky (fc true)) (Kf x) vk fk ∧ ∀ q, ∃ fe : A → Rho, ERef Ow (ev (fk q)) (Vf x) ve fe ∧ ∀ y, wipeR (fe y) vs = r0) :
    ERef Ow (qDc g t ky ev vs (xs.map e) r) (R.grd (xs.length ≤ sizeLine) (noX (dcR C Kf Vf xs []))) (fun m => .new (.dT (eDT' ek eA m))) (fun _ => r1) := by
  refine ERef.grd fun hz => ?_
  unfold qDc
  rw [List.length_map, if_pos hz, hw]
  cases hR : dcR C Kf Vf xs [] with
  | stuck => trivial
  | exc z => trivial
  | ok ys =>
    have q := dcR_ref inj hk hkd hd h xs [] ys hR
    rw [show eDT' ek eA ([] : List (K × A)) = [] from rfl] at q
    rw [q, ← hr]; exact rfl
theorem dcR_pure {c : X → Bool} {kf : X → K} {f : X → A} (xs : List X) (l : List (K × A)) : dcR (fun x => .ok (c x)) (fun x => .ok (kf x)) (fun x => .ok (f x)) xs l = .ok ((xs.filter c).foldl (fun l x => putT l (kf x) (f x)) l) := by
  induction xs generalizing l with
  | nil => rfl
  | cons x xs ih =>
    unfold dcR
    rw [R.ok_bind, List.filter_cons]
    cases c x with
    | false => rw [if_neg Bool.false_ne_true, if_neg Bool.false_ne_true]; exact ih l
    | true => rw [if_pos rfl, if_pos rfl, R.ok_bind, R.ok_bind, ih, List.foldl_cons]
end
end Mp
set_option Elab.async false
set_option linter.all false
set_option maxRecDepth 100000
namespace Mp
open PySem PySem.Spec PyProof.Rows L2 Evl
/-! chains of three -/
def q4f (f3 : D → D → Option Rv) (od : Ev Src) (w : Src) (k : Bool) (r : Rho) : EO Rv := if k then (od r).bind (q2b f3 w) else .ok (.val (.bl false)) r
def q4e (f3 : D → D → Option Rv) (od : Ev Src) (w : Src) (z : Rv) (r : Rho) : EO Rv := match z with
  | .val (.bl k) => q4f f3 od w k r
  | _ => .stuck
def q4d (f2 f3 : D → D → Option Rv) (od : Ev Src) (y w : Src) (r : Rho) : EO Rv := (two f2 y w r).bind (q4e f3 od w)
def q4c (f2 f3 : D → D → Option Rv) (oc od : Ev Src) (y : Src) (k : Bool) (r : Rho) : EO Rv := if k then (oc r).bind (q4d f2 f3 od y) else .ok (.val (.bl false)) r
def q4b (f2 f3 : D → D → Option Rv) (oc od : Ev Src) (y : Src) (z : Rv) (r : Rho) : EO Rv := match z with
  | .val (.bl k) => q4c f2 f3 oc od y k r
  | _ => .stuck
def q4a (f f2 f3 : D → D → Option Rv) (oc od : Ev Src) (x y : Src) (r : Rho) : EO Rv := (two f x y r).bind (q4b f2 f3 oc od y)
def q4 (f f2 f3 : D → D → Option Rv) (ob oc od : Ev Src) (x : Src) (r : Rho) : EO Rv := (ob r).bind (q4a f f2 f3 oc od x)
section
variable {f f2 f3 : D → D → Option Rv} {oa ob oc od : Ev Src} {x y w : Src} {z : Rv} {k : Bool} {r : Rho} {Ow : Rho → Prop}
theorem x_e4 : e4 f f2 f3 oa ob oc od r = (oa r).bind (q4 f f2 f3 ob oc od) := by
  show EO.bind _ _ = EO.bind _ _
  congr 1; funext x r1
  show EO.bind _ _ = EO.bind _ _
  congr 1; funext y r2
  show EO.bind _ _ = EO.bind _ _
  congr 1; funext z r3
  unfold q4b q4c
  cases z with
  | new o => rfl
  | val d => cases d with
    | bl k => cases k with
      | false => rfl
      | true =>
        show EO.bind _ _ = EO.bind _ _
        congr 1; funext w r4
        show EO.bind _ _ = EO.bind _ _
        congr 1; funext z r5
        unfold q4e q4f
        cases z with
        | new o => rfl
        | val d => cases d with
          | bl k => cases k <;> rfl
          | _ => rfl
    | _ => rfl
theorem x_q4 : q4 f f2 f3 ob oc od x r = (ob r).bind (q4a f f2 f3 oc od x) := nd rfl
theorem x_q4a : q4a f f2 f3 oc od x y r = (two f x y r).bind (q4b f2 f3 oc od y) := nd rfl
theorem x_q4b : q4b f2 f3 oc od y (.val (.bl k)) r = q4c f2 f3 oc od y k r := nd rfl
theorem x_q4d : q4d f2 f3 od y w r = (two f2 y w r).bind (q4e f3 od w) := nd rfl
theorem x_q4e : q4e f3 od w (.val (.bl k)) r = q4f f3 od w k r := nd rfl
theorem op_chain4 {c : Bool} {TB : R Bool} (hb : ERef Ow ((oc r).bind (q4d f2 f3 od y)) TB (fun k => .val (.bl k)) (fun _ => r)) : ERef Ow (q4c f2 f3 oc od y c r) (if c then TB else .ok false) (fun k => .val (.bl k)) (fun _ => r) := by cases c with | true => exact hb | false => rfl
theorem op_chain4V {c d : Bool} (hb : ERef Ow ((oc r).bind (q4d f2 f3 od y)) (.ok d) (fun k => .val (.bl k)) (fun _ => r)) : ERef Ow (q4c f2 f3 oc od y c r) (.ok (c && d)) (fun k => .val (.bl k)) (fun _ => r) := by cases c with | true => exact hb | false => rfl
theorem op_chain4e {c : Bool} {TB : R Bool} (hb : ERef Ow ((od r).bind (q2b f3 w)) TB (fun k => .val (.bl k)) (fun _ => r)) : ERef Ow (q4f f3 od w c r) (if c then TB else .ok false) (fun k => .val (.bl k)) (fun _ => r) := by cases c with | true => exact hb | false => rfl
theorem op_chain4eV {c d : Bool} (hb : ERef Ow ((od r).bind (q2b f3 w)) (.ok d) (fun k => .val (.bl k)) (fun _ => r)) : ERef Ow (q4f f3 od w c r) (.ok (c && d)) (fun k => .val (.bl k)) (fun _ => r) := by cases c with | true => exact hb | false => rfl
/-! reversed slices, repr -/
theorem x_eSlR {k : Nat} : eSlR k oa = e1 (dSlR k) oa := nd rfl
theorem y_slR {A : Type} {e : A → D} {l : List A} {k : Nat} : dSlR k (.lst (l.map e)) = some (.new (.lst ((l.drop (k + 1)).reverse.map e))) := by rw [List.map_reverse, List.map_drop]; rfl
def R.reprs (d : D) : R Str := match dOr dRepr dReprE [d] with
  | some (.val (.str s)) => .ok s
  | _ => .stuck
theorem reprs_str (d : D) (v : Rv) (h : dOr dRepr dReprE [d] = some v) : ∃ s, v = .val (.str s) := by
  unfold dOr at h
  cases h1 : dRepr [d] with
  | none =>
    rw [h1] at h
    have h : dReprE [d] = some v := h
    unfold dReprE at h
    split at h
    · cases h; exact ⟨_, rfl⟩
    · cases h; exact ⟨_, rfl⟩
    · cases h
  | some u =>
    rw [h1] at h
    cases h
    unfold dRepr at h1
    simp only at h1
    split at h1
    · split at h1
      · cases h1; exact ⟨_, rfl⟩
      · cases h1
    · cases h1
theorem op_reprs (d : D) : ERef Ow (ofV (dOr dRepr dReprE [d]) r) (R.reprs d) (fun s => .val (.str s)) (fun _ => r) := by
  unfold R.reprs
  cases h : dOr dRepr dReprE [d] with
  | none => trivial
  | some v => obtain ⟨s, rfl⟩ := reprs_str d v h; rfl
end
/-! raise, try -/
def R.tryX {S L P : Type} (C : Nat → Addr) (tab : List (Nat × Bool)) (f : Str) (m : R (Ctl S L P)) (h : D → R (Ctl S L P)) : R (Ctl S L P) := match m with
  | .exc x => if x.cls = C x.tag then (match tab.lookup x.tag with
    | some true => (match x.fld with
      | some (g, y) => if g = f then h y else .stuck
      | none => .stuck)
    | some false => .exc x
    | none => .stuck) else .stuck
  | m => m
section
variable {S L P b : Type} {Ow : Rho → Prop} {F : S → Rho → Prop} {FL : L → Rho → Prop} {G : P → Rv → Rho → Prop} {r : Rho} {sv : Sv} {i : Nat} {f : Str} {C : Nat → Addr} {tab : List (Nat × Bool)} {ev : Ev Rv} {t : R b} {v : b → Rv} {fr : b → Rho}
theorem SR.raise {tag : Nat} {a : Addr} {e : b → D} (h : ERef Ow (ev r) t v fr) (hd : ∀ x, (v x).data = e x) (ho : ∀ x, Ow (fr x)) : SR Ow F FL G (sRaiseX tag a f ev r) (t.bind fun x => .exc ⟨tag, a, some (f, e x)⟩) := by
  show SR Ow F FL G ((ev r).toS _) _
  cases t with
  | stuck => trivial
  | ok x => have h : ev r = .ok (v x) (fr x) := h; rw [h]; exact ⟨_, by rw [← hd x]; rfl, ho x⟩
  | exc x => obtain ⟨r1, h, w⟩ := h; rw [h]; exact ⟨r1, rfl, w⟩
theorem SN.raise {tag : Nat} {a : Addr} {e : b → D} (h : ERef Ow (ev r) t v fr) (hd : ∀ x, (v x).data = e x) (ho : ∀ x, Ow (fr x)) : SN Ow F (sRaiseX tag a f ev r) (t.bind fun x => .exc ⟨tag, a, some (f, e x)⟩) := by
  show SN Ow F ((ev r).toS _) _
  cases t with
  | stuck => trivial
  | ok x => have h : ev r = .ok (v x) (fr x) := h; rw [h]; exact ⟨_, by rw [← hd x]; rfl, ho x⟩
  | exc x => obtain ⟨r1, h, w⟩ := h; rw [h]; exact ⟨r1, rfl, w⟩
theorem SR.tryAs {m : R (Ctl S L P)} {h : D → R (Ctl S L P)} {hd : D → Sv} (hb : SR (fun r => i < r.length) F FL G (sv r) m) (hh : ∀ y r, SR (fun _ => True) F FL G (unI i (hd y r)) (h y)) :
    SR (fun _ => True) F FL G (sTryAs C tab i f sv hd r) (R.tryX C tab f m h) := by
  unfold sTryAs R.tryX
  cases m with
  | stuck => trivial
  | ok c =>
    cases c with
    | nx s => obtain ⟨r1, h1, h2⟩ := hb; rw [h1]; exact ⟨r1, rfl, h2⟩
    | bk s => obtain ⟨r1, h1, h2⟩ := hb; rw [h1]; exact ⟨r1, rfl, h2⟩
    | ct s => obtain ⟨r1, h1, h2⟩ := hb; rw [h1]; exact ⟨r1, rfl, h2⟩
    | ret p => obtain ⟨v1, r1, h1, h2⟩ := hb; rw [h1]; exact ⟨v1, r1, rfl, h2⟩
  | exc x =>
    obtain ⟨r1, h1, hl⟩ := hb
    rw [h1]
    by_cases hc : x.cls = C x.tag
    · simp only [if_pos hc]
      cases hl2 : tab.lookup x.tag with
      | none => trivial
      | some k =>
        cases k with
        | false => exact ⟨r1, rfl, trivial⟩
        | true =>
          cases hfl : x.fld with
          | none => trivial
          | some gy =>
            obtain ⟨g, y⟩ := gy
            by_cases hg : g = f
            · simp only [if_pos hg, if_pos (show g = f ∧ i < r1.length from ⟨hg, hl⟩)]
              exact hh _ _
            · simp only [if_neg hg]
              trivial
    · simp only [if_neg hc]
      trivial
theorem SR.hRepr {G : List Str → Rv → Rho → Prop} {k : Str} {y : D} {i : Nat} (hG : ∀ s r, G [k, s] (.new (.lst [.str k, .str s])) r) : SR (P := List Str) (fun _ => True) F FL G (unI i (hRepr k (dOr dRepr dReprE) y r)) ((R.reprs y).bind fun s => .ok (.ret [k, s])) := by
  unfold Mp.hRepr R.reprs
  cases h : dOr dRepr dReprE [y] with
  | none => trivial
  | some v => obtain ⟨s, rfl⟩ := reprs_str y v h; exact ⟨_, _, rfl, hG _ _⟩
end
end Mp
set_option Elab.async false
set_option linter.all false
set_option maxRecDepth 100000
namespace Mp
open PySem PySem.Spec PyProof.Rows L2 Evl
abbrev tp (i : Nat) : Stmt := PySem.Challenge.pw_hueturns_k03_whole_texts_of_nets.main.body.getD i (.Pass ⟨0, 0, 0, 0⟩)
abbrev st_l_dip : Stmt := tp 25
abbrev N_l_dip : List Str := ["_law_jar_here", "_law_top", "_law_digit"]
abbrev ps_l_dip : List Str := ["_law_jar_here", "_law_top"]
theorem sc_l_dip : FnScope N_l_dip ps_l_dip (defScope st_l_dip) := ⟨rfl, rfl, rfl, by decide +kernel, rfl, by decide +kernel, by decide +kernel⟩
abbrev st_l_one_of : Stmt := tp 26
abbrev N_l_one_of : List Str := ["_law_jar_here", "_law_some"]
abbrev ps_l_one_of : List Str := ["_law_jar_here", "_law_some"]
theorem sc_l_one_of : FnScope N_l_one_of ps_l_one_of (defScope st_l_one_of) := ⟨rfl, rfl, rfl, by decide +kernel, rfl, by decide +kernel, by decide +kernel⟩
abbrev st_l_text : Stmt := tp 27
abbrev N_l_text : List Str := ["_law_size", "_law_own", "_law_i", "_law_j", "_law_hue"]
abbrev ps_l_text : List Str := ["_law_size", "_law_own"]
theorem sc_l_text : FnScope N_l_text ps_l_text (defScope st_l_text) := ⟨rfl, rfl, rfl, by decide +kernel, rfl, by decide +kernel, by decide +kernel⟩
abbrev st_l_roads : Stmt := tp 28
abbrev N_l_roads : List Str := ["_law_jar_here", "_law_size", "_law_thick", "_law_few", "_law_found", "_law_i", "_law_j"]
abbrev ps_l_roads : List Str := ["_law_jar_here", "_law_size"]
theorem sc_l_roads : FnScope N_l_roads ps_l_roads (defScope st_l_roads) := ⟨rfl, rfl, rfl, by decide +kernel, rfl, by decide +kernel, by decide +kernel⟩
abbrev st_l_bent : Stmt := tp 32
abbrev N_l_bent : List Str := ["_law_jar_here", "_law_page", "_law_words", "_law_way", "_law_at", "_law_k", "_law_sign"]
abbrev ps_l_bent : List Str := ["_law_jar_here", "_law_page"]
theorem sc_l_bent : FnScope N_l_bent ps_l_bent (defScope st_l_bent) := ⟨rfl, rfl, rfl, by decide +kernel, rfl, by decide +kernel, by decide +kernel⟩
abbrev st_l_number : Stmt := tp 30
abbrev N_l_number : List Str := ["_law_word", "_law_sign"]
abbrev ps_l_number : List Str := ["_law_word"]
theorem sc_l_number : FnScope N_l_number ps_l_number (defScope st_l_number) := ⟨rfl, rfl, rfl, by decide +kernel, rfl, by decide +kernel, by decide +kernel⟩
abbrev st_l_is_page : Stmt := tp 31
abbrev N_l_is_page : List Str := ["_law_page", "_law_words", "_law_size", "_law_last", "_law_word", "_law_ends", "_law_part"]
abbrev ps_l_is_page : List Str := ["_law_page"]
theorem sc_l_is_page : FnScope N_l_is_page ps_l_is_page (defScope st_l_is_page) := ⟨rfl, rfl, rfl, by decide +kernel, rfl, by decide +kernel, by decide +kernel⟩
abbrev st_size_in : Stmt := tp 21
abbrev N_size_in : List Str := ["word"]
abbrev ps_size_in : List Str := ["word"]
theorem sc_size_in : FnScope N_size_in ps_size_in (defScope st_size_in) := ⟨rfl, rfl, rfl, by decide +kernel, rfl, by decide +kernel, by decide +kernel⟩
abbrev st_road_in : Stmt := tp 22
abbrev N_road_in : List Str := ["word"]
abbrev ps_road_in : List Str := ["word"]
theorem sc_road_in : FnScope N_road_in ps_road_in (defScope st_road_in) := ⟨rfl, rfl, rfl, by decide +kernel, rfl, by decide +kernel, by decide +kernel⟩
abbrev st_is_integer : Stmt := tp 10
abbrev N_is_integer : List Str := ["value"]
abbrev ps_is_integer : List Str := ["value"]
theorem sc_is_integer : FnScope N_is_integer ps_is_integer (defScope st_is_integer) := ⟨rfl, rfl, rfl, by decide +kernel, rfl, by decide +kernel, by decide +kernel⟩
abbrev st_is_integer_from : Stmt := tp 11
abbrev N_is_integer_from : List Str := ["value", "least", "most"]
abbrev ps_is_integer_from : List Str := ["value", "least", "most"]
theorem sc_is_integer_from : FnScope N_is_integer_from ps_is_integer_from (defScope st_is_integer_from) := ⟨rfl, rfl, rfl, by decide +kernel, rfl, by decide +kernel, by decide +kernel⟩
abbrev st_is_size : Stmt := tp 12
abbrev N_is_size : List Str := ["value"]
abbrev ps_is_size : List Str := ["value"]
theorem sc_is_size : FnScope N_is_size ps_is_size (defScope st_is_size) := ⟨rfl, rfl, rfl, by decide +kernel, rfl, by decide +kernel, by decide +kernel⟩
abbrev st_is_place : Stmt := tp 13
abbrev N_is_place : List Str := ["value", "size"]
abbrev ps_is_place : List Str := ["value", "size"]
theorem sc_is_place : FnScope N_is_place ps_is_place (defScope st_is_place) := ⟨rfl, rfl, rfl, by decide +kernel, rfl, by decide +kernel, by decide +kernel⟩
abbrev st_is_hue : Stmt := tp 14
abbrev N_is_hue : List Str := ["value"]
abbrev ps_is_hue : List Str := ["value"]
theorem sc_is_hue : FnScope N_is_hue ps_is_hue (defScope st_is_hue) := ⟨rfl, rfl, rfl, by decide +kernel, rfl, by decide +kernel, by decide +kernel⟩
abbrev st_is_road : Stmt := tp 19
abbrev N_is_road : List Str := ["value", "size", "low", "high", "hue"]
abbrev ps_is_road : List Str := ["value", "size"]
theorem sc_is_road : FnScope N_is_road ps_is_road (defScope st_is_road) := ⟨rfl, rfl, rfl, by decide +kernel, rfl, by decide +kernel, by decide +kernel⟩
abbrev st_first_wrong_road : Stmt := tp 20
abbrev N_first_wrong_road : List Str := ["roads", "size", "index", "road"]
abbrev ps_first_wrong_road : List Str := ["roads", "size"]
theorem sc_first_wrong_road : FnScope N_first_wrong_road ps_first_wrong_road (defScope st_first_wrong_road) := ⟨rfl, rfl, rfl, by decide +kernel, rfl, by decide +kernel, by decide +kernel⟩
abbrev st_NetD_initD : Stmt := inClass (tp 18) 0
abbrev N_NetD_initD : List Str := ["self", "size", "roads", "wrong", "low", "high", "hue"]
abbrev ps_NetD_initD : List Str := ["self", "size", "roads"]
theorem sc_NetD_initD : FnScope N_NetD_initD ps_NetD_initD (defScope st_NetD_initD) := ⟨rfl, rfl, rfl, by decide +kernel, rfl, by decide +kernel, by decide +kernel⟩
abbrev st_Net_read : Stmt := inClass (tp 18) 1
abbrev N_Net_read : List Str := ["text", "words", "size", "roads", "word"]
abbrev ps_Net_read : List Str := ["text"]
theorem sc_Net_read : FnScope N_Net_read ps_Net_read (defScope st_Net_read) := ⟨rfl, rfl, rfl, by decide +kernel, rfl, by decide +kernel, by decide +kernel⟩
abbrev st_NetD_strD : Stmt := inClass (tp 18) 12
abbrev N_NetD_strD : List Str := ["self", "words", "low", "high", "hue"]
abbrev ps_NetD_strD : List Str := ["self"]
theorem sc_NetD_strD : FnScope N_NetD_strD ps_NetD_strD (defScope st_NetD_strD) := ⟨rfl, rfl, rfl, by decide +kernel, rfl, by decide +kernel, by decide +kernel⟩
abbrev st_l_read : Stmt := tp 33
abbrev N_l_read : List Str := ["_law_page", "_law_named", "e", "_law_found"]
abbrev ps_l_read : List Str := ["_law_page", "_law_named"]
theorem sc_l_read : FnScope N_l_read ps_l_read (defScope st_l_read) := ⟨rfl, rfl, rfl, by decide +kernel, rfl, by decide +kernel, by decide +kernel⟩
abbrev st_l_right : Stmt := tp 34
abbrev N_l_right : List Str := ["_law_jar_here", "_law_turn", "_law_size", "_law_page", "_law_again", "_law_due", "_law_odd"]
abbrev ps_l_right : List Str := ["_law_jar_here"]
theorem sc_l_right : FnScope N_l_right ps_l_right (defScope st_l_right) := ⟨rfl, rfl, rfl, by decide +kernel, rfl, by decide +kernel, by decide +kernel⟩
abbrev st_l_jar : Stmt := tp 29
abbrev N_l_jar : List Str := ["_law_cells", "_law_turn", "_law_cell", "_law_mixed", "_law_each"]
abbrev ps_l_jar : List Str := ["_law_cells", "_law_turn"]
theorem sc_l_jar : FnScope N_l_jar ps_l_jar (defScope st_l_jar) := ⟨rfl, rfl, rfl, by decide +kernel, rfl, by decide +kernel, by decide +kernel⟩
abbrev st_law : Stmt := tp 35
abbrev N_law : List Str := ["_law_cells", "_law_turn"]
abbrev ps_law : List Str := ["_law_cells"]
theorem sc_law : FnScope N_law ps_law (defScope st_law) := ⟨rfl, rfl, rfl, by decide +kernel, rfl, by decide +kernel, by decide +kernel⟩
abbrev stx_InvalidNumber : Stmt := inClass (tp 4) 0
theorem scx_InvalidNumber : FnScope ["self", "given"] ["self", "given"] (defScope stx_InvalidNumber) := ⟨rfl, rfl, rfl, by decide +kernel, rfl, by decide +kernel, by decide +kernel⟩
abbrev stx_InvalidRoads : Stmt := inClass (tp 6) 0
theorem scx_InvalidRoads : FnScope ["self", "index"] ["self", "index"] (defScope stx_InvalidRoads) := ⟨rfl, rfl, rfl, by decide +kernel, rfl, by decide +kernel, by decide +kernel⟩
abbrev stx_InvalidText : Stmt := inClass (tp 3) 0
theorem scx_InvalidText : FnScope ["self", "given"] ["self", "given"] (defScope stx_InvalidText) := ⟨rfl, rfl, rfl, by decide +kernel, rfl, by decide +kernel, by decide +kernel⟩
def sv_l_dip (C : Nat → Addr) : Sv := (sCons (sSetIx 0 (e2 dAdd (oE (eIx (oN 0) (oC (.int 2)))) (oC (.int 1))) (oC (.int 2))) (sCons (sIf (tv (e2 dGt (oE (eIx (oN 0) (oC (.int 0)))) (oC (.int 0)))) (sCons (sTgt (gT [(gIx 0 fun _ => some 0), (gN 2)]) (eCB dDivmod (aCons (oE (eIx (oN 0) (oC (.int 0)))) (aCons (oN 1) aNil)))) (sRet (eN 2))) sNil) (sCons (sSetIx 0 (e2 dMod (oE (eCB dInt (aCons (oE (e2 dAdd (oE (e2 dMul (oE (eIx (oN 0) (oC (.int 1)))) (oC (.int 48271)))) (oE (e2 dMul (oC (.int 60013)) (oE (eIx (oN 0) (oC (.int 2)))))))) aNil))) (oC (.int 2147483399))) (oC (.int 1))) (sRet (e2 dMod (oE (eCB dInt (aCons (oE (e2 dDiv (oE (eIx (oN 0) (oC (.int 1)))) (oC (.int 512)))) aNil))) (oN 1))))))
def F_l_dip (C : Nat → Addr) : Own → List D → FO × Own := runM 3 (sv_l_dip C)
def sv_l_one_of (C : Nat → Addr) : Sv := (sRet (eIx (oN 1) (oE (eMut 0 (F_l_dip C) (vCons (eCB dLen (aCons (oN 1) aNil)) vNil)))))
def F_l_one_of (C : Nat → Addr) : Own → List D → FO × Own := runM 2 (sv_l_one_of C)
def ce0_l_text (C : Nat → Addr) : Ev Rv := (e2 dAdd (oE (e2 dAdd (oE (e2 dAdd (oE (eCB dStr (aCons (oN 2) aNil))) (oC (.str "-")))) (oE (eCB dStr (aCons (oN 3) aNil))))) (oN 4))
def sv_l_text (C : Nat → Addr) : Sv := (sRet (eMt "str" dJoin (oC (.str " ")) (aCons (oE (e2 dAdd (oE (eLst (vCons (e2 dAdd (oE (eCB dStr (aCons (oN 0) aNil))) (oC (.str ":"))) vNil))) (oE (eComp (iSeq (eN 1)) (gT [(gN 2), (gN 3), (gN 4)]) tT (ce0_l_text C) [2, 3, 4])))) aNil)))
def F_l_text (C : Nat → Addr) : List D → FO := runP 5 (sv_l_text C)
def lb0_l_roads (C : Nat → Addr) : Sv := (sIf (tv (e2 dLt (oE (eMut 0 (F_l_dip C) (vCons (eC (.int 6)) vNil))) (oN 2))) (sDrop (eApp 4 (eTup (vCons (eN 5) (vCons (eN 6) (vCons (eMut 0 (F_l_one_of C) (vCons (eCB (dOr dListOf dListStr) (aCons (oN 3) aNil)) vNil)) vNil)))))) sNil)
def lb1_l_roads (C : Nat → Addr) : Sv := (sFor (iRange2 (oE (e2 dAdd (oN 5) (oC (.int 1)))) (oN 1)) (gN 6) (lb0_l_roads C))
def sv_l_roads (C : Nat → Addr) : Sv := (sCons (sPar [2, 3, 4] (lCons (eMut 0 (F_l_one_of C) (vCons (eLst (vCons (eC (.int 2)) (vCons (eC (.int 3)) (vCons (eC (.int 4)) (vCons (eC (.int 5)) vNil))))) vNil)) (lCons (eMut 0 (F_l_one_of C) (vCons (eLst (vCons (eC (.str "ab")) (vCons (eC (.str "ab")) (vCons (eC (.str "abc")) (vCons (eC (.str "abcdef")) vNil))))) vNil)) (lCons (eLst vNil) lNil)))) (sCons (sFor (iRange1 (oN 1)) (gN 5) (lb1_l_roads C)) (sRet (eCB dTupOf (aCons (oN 4) aNil)))))
def F_l_roads (C : Nat → Addr) : Own → List D → FO × Own := runM 7 (sv_l_roads C)
def sv_l_bent (C : Nat → Addr) : Sv := (sCons (sPar [2, 3, 4] (lCons (eMt "str" dSplit (oN 1) (aCons (oC (.str " ")) aNil)) (lCons (eMut 0 (F_l_dip C) (vCons (eC (.int 6)) vNil)) (lCons (eMut 0 (F_l_dip C) (vCons (e2 dAdd (oE (eCB dLen (aCons (oN 1) aNil))) (oC (.int 1))) vNil)) lNil)))) (sCons (sSet 5 (eMut 0 (F_l_dip C) (vCons (eCB dLen (aCons (oN 2) aNil)) vNil))) (sCons (sSet 6 (eMut 0 (F_l_one_of C) (vCons (e2 dAdd (oE (eCB (dOr dListOf dListStr) (aCons (oC (.str "0123456789 -:abfgx")) aNil))) (oE (eLst (vCons (eC (.str " 0-1a")) (vCons (eC (.str "\n")) (vCons (eC (.str "--")) (vCons (eC (.str "ab")) (vCons (eC (.str "9:")) vNil)))))))) vNil))) (sCons (sIf (tv (e2 dLt (oN 3) (oC (.int 3)))) (sRet (e2 dAdd (oE (e2 dAdd (oE (eSl (oN 1) pNone (pSome (oN 4)))) (oE (eIx (oE (eLst (vCons (eC (.str "")) (vCons (eN 6) (vCons (eN 6) vNil))))) (oN 3))))) (oE (eSl (oN 1) (pSome (oE (e2 dAdd (oN 4) (oE (eIx (oE (eLst (vCons (eC (.int 1)) (vCons (eC (.int 0)) (vCons (eC (.int 1)) vNil))))) (oN 3)))))) pNone)))) sNil) (sCons (sIf (tv (e2 dEq (oN 3) (oC (.int 3)))) (sRet (eMt "str" dJoin (oC (.str " ")) (aCons (oE (e2 dAdd (oE (eSl (oN 2) pNone (pSome (oN 5)))) (oE (eSl (oN 2) (pSome (oE (e2 dAdd (oN 5) (oC (.int 1))))) pNone)))) aNil))) sNil) (sCons (sIf (tv (e2 dEq (oN 3) (oC (.int 4)))) (sRet (eMt "str" dJoin (oC (.str " ")) (aCons (oE (e2 dAdd (oE (e2 dAdd (oE (eSl (oN 2) pNone (pSome (oN 5)))) (oE (eLst (vCons (eIx (oN 2) (oN 5)) vNil))))) (oE (eSl (oN 2) (pSome (oN 5)) pNone)))) aNil))) sNil) (sRet (eMt "str" dJoin (oC (.str " ")) (aCons (oE (e2 dAdd (oE (eSl (oN 2) pNone (pSome (oC (.int 1))))) (oE (eSlR 0 (oN 2))))) aNil)))))))))
def F_l_bent (C : Nat → Addr) : Own → List D → FO × Own := runM 7 (sv_l_bent C)
def ce0_l_number (C : Nat → Addr) : Ev Rv := (eN 1)
def ct1_l_number (C : Nat → Addr) : Ev Bool := (tv (e2 (dInF (!·)) (oN 1) (oC (.str "0123456789"))))
def sv_l_number (C : Nat → Addr) : Sv := (sCons (sIf (tOrE (tv (e2 dEq (oN 0) (oC (.str "")))) (tOrE (tv (e2 dNe (oE (eComp (iSeq (eN 0)) (gN 1) (ct1_l_number C) (ce0_l_number C) [1])) (oE (eLst vNil)))) (tAndE (tv (e2 dEq (oE (eIx (oN 0) (oC (.int 0)))) (oC (.str "0")))) (tv (e2 dNe (oN 0) (oC (.str "0"))))))) (sRet (e1 dNeg (oC (.int 1)))) sNil) (sRet (eCB dInt (aCons (oN 0) aNil))))
def F_l_number (C : Nat → Addr) : List D → FO := runP 2 (sv_l_number C)
def ce0_l_is_page (C : Nat → Addr) : Ev Rv := (eCall (F_l_number C) [0] (vCons (eN 6) vNil) vNil)
def lb1_l_is_page (C : Nat → Addr) : Sv := (sCons (sSet 5 (eComp (iSeq (eMt "str" dSplit (oE (eSl (oN 4) pNone (pSome (oE (e1 dNeg (oC (.int 1))))))) (aCons (oC (.str "-")) aNil))) (gN 6) tT (ce0_l_is_page C) [6])) (sCons (sIf (tOrE (tv (e2 (dInF (!·)) (oE (eSl (oN 4) (pSome (oE (e1 dNeg (oC (.int 1))))) pNone)) (oE (eCB (dOr dListOf dListStr) (aCons (oC (.str "abcdef")) aNil))))) (tOrE (tv (e2 dNe (oE (eCB dLen (aCons (oN 5) aNil))) (oC (.int 2)))) (tNotE (tv (e4 (dOr2 dLe dLeT) dLt dLt (oC (.int 0)) (oE (eIx (oN 5) (oC (.int 0)))) (oE (eIx (oN 5) (oC (.int 1)))) (oN 2)))))) (sRet (eC (.bl false))) sNil) (sCons (sIf (tNotE (tv (e2 dLt (oN 3) (oE (eTup (vCons (eIx (oN 5) (oC (.int 0))) (vCons (eIx (oN 5) (oC (.int 1))) vNil))))))) (sRet (eC (.bl false))) sNil) (sSet 3 (eTup (vCons (eIx (oN 5) (oC (.int 0))) (vCons (eIx (oN 5) (oC (.int 1))) vNil)))))))
def sv_l_is_page (C : Nat → Addr) : Sv := (sCons (sIf (tOrE (tNotE (tTr (oE (e1 (dIsi (isT "str" false)) (oN 0))))) (tv (e2 dEq (oN 0) (oC (.str ""))))) (sRet (eC (.bl false))) sNil) (sCons (sSet 1 (eMt "str" dSplit (oN 0) (aCons (oC (.str " ")) aNil))) (sCons (sPar [2, 3] (lCons (eCall (F_l_number C) [0] (vCons (eSl (oE (eIx (oN 1) (oC (.int 0)))) pNone (pSome (oE (e1 dNeg (oC (.int 1)))))) vNil) vNil) (lCons (eTup (vCons (e1 dNeg (oC (.int 1))) (vCons (e1 dNeg (oC (.int 1))) vNil))) lNil))) (sCons (sIf (tOrE (tv (e2 dNe (oE (eSl (oE (eIx (oN 1) (oC (.int 0)))) (pSome (oE (e1 dNeg (oC (.int 1))))) pNone)) (oC (.str ":")))) (tNotE (tv (e3 dLt dLt (oC (.int 0)) (oN 2) (oC (.int 10)))))) (sRet (eC (.bl false))) sNil) (sCons (sFor (iSeq (eSl (oN 1) (pSome (oC (.int 1))) pNone)) (gN 4) (lb1_l_is_page C)) (sRet (eC (.bl true))))))))
def F_l_is_page (C : Nat → Addr) : List D → FO := runP 7 (sv_l_is_page C)
def sv_size_in (C : Nat → Addr) : Sv := (sCons (sIf (tOrE (tv (e2 dNe (oE (eCB dLen (aCons (oN 0) aNil))) (oC (.int 2)))) (tOrE (tv (e2 (dInF (!·)) (oE (eIx (oN 0) (oC (.int 0)))) (oC (.str "0123456789")))) (tv (e2 dNe (oE (eIx (oN 0) (oC (.int 1)))) (oC (.str ":")))))) (sRet (eC .non)) sNil) (sRet (eCB dInt (aCons (oE (eIx (oN 0) (oC (.int 0)))) aNil))))
def F_size_in (C : Nat → Addr) : List D → FO := runP 1 (sv_size_in C)
def sv_road_in (C : Nat → Addr) : Sv := (sCons (sIf (tOrE (tv (e2 dNe (oE (eCB dLen (aCons (oN 0) aNil))) (oC (.int 4)))) (tOrE (tv (e2 (dInF (!·)) (oE (eIx (oN 0) (oC (.int 0)))) (oC (.str "0123456789")))) (tOrE (tv (e2 dNe (oE (eIx (oN 0) (oC (.int 1)))) (oC (.str "-")))) (tv (e2 (dInF (!·)) (oE (eIx (oN 0) (oC (.int 2)))) (oC (.str "0123456789"))))))) (sRet (eC .non)) sNil) (sRet (eTup (vCons (eCB dInt (aCons (oE (eIx (oN 0) (oC (.int 0)))) aNil)) (vCons (eCB dInt (aCons (oE (eIx (oN 0) (oC (.int 2)))) aNil)) (vCons (eIx (oN 0) (oC (.int 3))) vNil))))))
def F_road_in (C : Nat → Addr) : List D → FO := runP 1 (sv_road_in C)
def sv_is_integer (C : Nat → Addr) : Sv := (sRet (eAnd (e1 (dIsi (isT "int" false)) (oN 0)) (eNot (e1 (dIsi (isT "bool" false)) (oN 0)))))
def F_is_integer (C : Nat → Addr) : List D → FO := runP 1 (sv_is_integer C)
def sv_is_integer_from (C : Nat → Addr) : Sv := (sRet (eAnd (eCall (F_is_integer C) [0] (vCons (eN 0) vNil) vNil) (e3 (dOr2 dLe dLeT) (dOr2 dLe dLeT) (oN 1) (oN 0) (oN 2))))
def F_is_integer_from (C : Nat → Addr) : List D → FO := runP 3 (sv_is_integer_from C)
def sv_is_size (C : Nat → Addr) : Sv := (sRet (eCall (F_is_integer_from C) [0, 1, 2] (vCons (eN 0) (vCons (eC (.int 1)) (vCons (eC (.int 9)) vNil))) vNil))
def F_is_size (C : Nat → Addr) : List D → FO := runP 1 (sv_is_size C)
def sv_is_place (C : Nat → Addr) : Sv := (sRet (eCall (F_is_integer_from C) [0, 1, 2] (vCons (eN 0) (vCons (eC (.int 0)) (vCons (e2 dSub (oN 1) (oC (.int 1))) vNil))) vNil))
def F_is_place (C : Nat → Addr) : List D → FO := runP 2 (sv_is_place C)
def sv_is_hue (C : Nat → Addr) : Sv := (sRet (eAnd (e1 (dIsi (isT "str" false)) (oN 0)) (eAnd (e2 dEq (oE (eCB dLen (aCons (oN 0) aNil))) (oC (.int 1))) (e2 (dInF id) (oN 0) (oC (.str "abcdef"))))))
def F_is_hue (C : Nat → Addr) : List D → FO := runP 1 (sv_is_hue C)
def sv_is_road (C : Nat → Addr) : Sv := (sCons (sIf (tOrE (tNotE (tTr (oE (e1 (dIsi (isT "tuple" false)) (oN 0))))) (tv (e2 dNe (oE (eCB dLen (aCons (oN 0) aNil))) (oC (.int 3))))) (sRet (eC (.bl false))) sNil) (sCons (sTgt (gT [(gN 2), (gN 3), (gN 4)]) (eN 0)) (sRet (eAnd (eCall (F_is_place C) [0, 1] (vCons (eN 2) (vCons (eN 1) vNil)) vNil) (eAnd (eCall (F_is_place C) [0, 1] (vCons (eN 3) (vCons (eN 1) vNil)) vNil) (eAnd (e2 dLt (oN 2) (oN 3)) (eCall (F_is_hue C) [0] (vCons (eN 4) vNil) vNil)))))))
def F_is_road (C : Nat → Addr) : List D → FO := runP 5 (sv_is_road C)
def lb0_first_wrong_road (C : Nat → Addr) : Sv := (sCons (sIf (tNotE (tTr (oE (eCall (F_is_road C) [0, 1] (vCons (eN 3) (vCons (eN 1) vNil)) vNil)))) (sRet (eN 2)) sNil) (sIf (tAndE (tv (e2 dGt (oN 2) (oC (.int 0)))) (tv (e2 (dOr2 dLe dLeT) (oE (eSl (oN 3) pNone (pSome (oC (.int 2))))) (oE (eSl (oE (eIx (oN 0) (oE (e2 dSub (oN 2) (oC (.int 1)))))) pNone (pSome (oC (.int 2)))))))) (sRet (eN 2)) sNil))
def sv_first_wrong_road (C : Nat → Addr) : Sv := (sCons (sFor (iEn (eN 0)) (gT [(gN 2), (gN 3)]) (lb0_first_wrong_road C)) (sRet (eC .non)))
def F_first_wrong_road (C : Nat → Addr) : List D → FO := runP 4 (sv_first_wrong_road C)
def ce0_NetD_initD (C : Nat → Addr) : Ev Rv := (eN 6)
def ck1_NetD_initD (C : Nat → Addr) : Ev Rv := (eTup (vCons (eN 4) (vCons (eN 5) vNil)))
def sv_NetD_initD (C : Nat → Addr) : Sv := (sCons (sIf (tNotE (tTr (oE (eCall (F_is_size C) [0] (vCons (eN 1) vNil) vNil)))) (sRaiseX 2 (C 2) "given" (eN 1)) sNil) (sCons (sIf (tNotE (tTr (oE (e1 (dIsi (isT "tuple" false)) (oN 2))))) (sRaiseX 4 (C 4) "index" (eC .non)) sNil) (sCons (sSet 3 (eCall (F_first_wrong_road C) [0, 1] (vCons (eN 2) (vCons (eN 1) vNil)) vNil)) (sCons (sIf (tv (e2 dNotN (oN 3) (oC .non))) (sRaiseX 4 (C 4) "index" (eN 3)) sNil) (sCons (sFldC (C 0) 0 "_size" (eN 1)) (sCons (sFldC (C 0) 0 "_roads" (eN 2)) (sFldC (C 0) 0 "_hues" (eDc (iSeq (eN 2)) (gT [(gN 4), (gN 5), (gN 6)]) tT (ck1_NetD_initD C) (ce0_NetD_initD C) [4, 5, 6]))))))))
def F_NetD_initD (C : Nat → Addr) : Own → List D → FO × Own := runM 7 (sv_NetD_initD C)
def ce0_Net_read (C : Nat → Addr) : Ev Rv := (eCall (F_road_in C) [0] (vCons (eN 4) vNil) vNil)
def sv_Net_read (C : Nat → Addr) : Sv := (sCons (sIf (tNotE (tTr (oE (e1 (dIsi (isT "str" false)) (oN 0))))) (sRaiseX 1 (C 1) "given" (eN 0)) sNil) (sCons (sSet 1 (eMt "str" dSplit (oN 0) (aCons (oC (.str " ")) aNil))) (sCons (sSet 2 (eCall (F_size_in C) [0] (vCons (eIx (oN 1) (oC (.int 0))) vNil) vNil)) (sCons (sSet 3 (eCB dTupOf (aCons (oE (eComp (iSeq (eSl (oN 1) (pSome (oC (.int 1))) pNone)) (gN 4) tT (ce0_Net_read C) [4])) aNil))) (sCons (sIf (tOrE (tNotE (tTr (oE (eCall (F_is_size C) [0] (vCons (eN 2) vNil) vNil)))) (tv (e2 dNotN (oE (eCall (F_first_wrong_road C) [0, 1] (vCons (eN 3) (vCons (eN 2) vNil)) vNil)) (oC .non)))) (sRaiseX 1 (C 1) "given" (eN 0)) sNil) (sRet (eMake (C 0) (F_NetD_initD C) [0, 1] (vCons (eN 2) (vCons (eN 3) vNil)) vNil)))))))
def F_Net_read (C : Nat → Addr) : List D → FO := runP 5 (sv_Net_read C)
def ce0_NetD_strD (C : Nat → Addr) : Ev Rv := (eJs [oFmt (oN 2), oC (.str "-"), oFmt (oN 3), oFmt (oN 4)])
def sv_NetD_strD (C : Nat → Addr) : Sv := (sCons (sSet 1 (eComp (iSeq (e1 (dFld (C 0) "_roads") (oN 0))) (gT [(gN 2), (gN 3), (gN 4)]) tT (ce0_NetD_strD C) [2, 3, 4])) (sRet (eMt "str" dJoin (oC (.str " ")) (aCons (oE (eLst (vCons (eJs [oFmt (oE (e1 (dFld (C 0) "_size") (oN 0))), oC (.str ":")]) (vStar (eN 1) vNil)))) aNil))))
def F_NetD_strD (C : Nat → Addr) : List D → FO := runP 5 (sv_NetD_strD C)
def tb0_l_read (C : Nat → Addr) : Sv := (sSet 3 (eIf (tTr (oN 1)) (eCall (F_Net_read C) [0] vNil (vCons (eN 0) vNil)) (eCall (F_Net_read C) [0] (vCons (eN 0) vNil) vNil)))
def sv_l_read (C : Nat → Addr) : Sv := (sCons (sTryAs C [(1, true)] 2 "given" (tb0_l_read C) (hRepr "refused" (dOr dRepr dReprE))) (sRet (eLst (vCons (eC (.str "read")) (vCons (eCB (dOr dRepr dReprE) (aCons (oE (eCB (dOr (dOwn1 (C 0) (F_NetD_strD C) isStrD) dStr) (aCons (oN 3) aNil))) aNil)) vNil)))))
def F_l_read (C : Nat → Addr) : List D → FO := runP 4 (sv_l_read C)
def lb0_l_right (C : Nat → Addr) : Sv := (sSet 3 (eMut 0 (F_l_bent C) (vCons (eN 3) vNil)))
def lb1_l_right (C : Nat → Addr) : Sv := (sCons (sSet 2 (eMut 0 (F_l_one_of C) (vCons (eLst (vCons (eC (.int 1)) (vCons (eC (.int 2)) (vCons (eC (.int 3)) (vCons (eC (.int 5)) (vCons (eC (.int 9)) vNil)))))) vNil))) (sCons (sSet 3 (eCall (F_l_text C) [0, 1] (vCons (eN 2) (vCons (eSl (oE (eMut 0 (F_l_roads C) (vCons (eN 2) vNil))) pNone (pSome (oC (.int 9)))) vNil)) vNil)) (sCons (sFor (iRange1 (oE (eMut 0 (F_l_dip C) (vCons (eC (.int 4)) vNil)))) (gN 4) (lb0_l_right C)) (sCons (sIf (tv (e2 dEq (oE (eMut 0 (F_l_dip C) (vCons (eC (.int 6)) vNil))) (oC (.int 0)))) (sCons (sSet 6 (eLst (vCons (eC .non) (vCons (eC (.int 5)) (vCons (eC (.bl true)) (vCons (eTup vNil) (vCons (eLst (vCons (eN 3) vNil)) (vCons (eTup (vCons (eN 3) vNil)) (vCons eDT (vCons (eC (.str "")) (vCons (eC (.str ":")) (vCons (eC (.str "1")) (vCons (eC (.str "1:")) (vCons (eC (.str "0:")) (vCons (eC (.str "9:")) (vCons (eC (.str "10:")) (vCons (eC (.str "01:")) vNil))))))))))))))))) (sCons (sSet 6 (e2 dAdd (oN 6) (oE (eLst (vCons (eC (.str "9: 0-8a")) (vCons (eC (.str "9: 0-9a")) (vCons (eC (.str " 1:")) (vCons (eC (.str "1: ")) (vCons (eC (.str "2: 0-1a 0-1b")) (vCons (eC (.str "3: 1-2a 0-1a")) (vCons (eC (.str "2: 1-0a")) (vCons (eC (.str "2: 0-1")) vNil)))))))))))) (sSet 3 (eMut 0 (F_l_one_of C) (vCons (e2 dAdd (oN 6) (oE (eLst (vCons (eC (.str "2: 0-1A")) (vCons (eC (.str "2: 0-1aa")) (vCons (eC (.str "2: a")) (vCons (eC (.str "2: 0-1g")) (vCons (eC (.str "3: 00-1a")) vNil)))))))) vNil))))) sNil) (sCons (sSet 5 (eLst (vCons (eIf (tTr (oE (eCall (F_l_is_page C) [0] (vCons (eN 3) vNil) vNil))) (eC (.str "read")) (eC (.str "refused"))) (vCons (eCB (dOr dRepr dReprE) (aCons (oN 3) aNil)) vNil)))) (sIf (tv (e2 dNe (oE (eLst (vCons (eCall (F_l_read C) [0, 1] (vCons (eN 3) (vCons (eC (.bl false)) vNil)) vNil) (vCons (eCall (F_l_read C) [0, 1] (vCons (eN 3) (vCons (eC (.bl true)) vNil)) vNil) vNil)))) (oE (eLst (vCons (eN 5) (vCons (eN 5) vNil)))))) (sRet (eC (.bl false))) sNil))))))
def sv_l_right (C : Nat → Addr) : Sv := (sCons (sFor (iRange1 (oC (.int 12))) (gN 1) (lb1_l_right C)) (sRet (eC (.bl true))))
def F_l_right (C : Nat → Addr) : Own → List D → FO × Own := runM 7 (sv_l_right C)
def lb0_l_jar (C : Nat → Addr) : Sv := (sSet 3 (e2 dMod (oE (eCB dInt (aCons (oE (e2 dAdd (oE (e2 dMul (oN 3) (oC (.int 20011)))) (oN 4))) aNil))) (oC (.int 2147482763))))
def sv_l_jar (C : Nat → Addr) : Sv := (sCons (sSet 2 (eIf (tv (e2 dLt (oN 1) (oE (eCB dLen (aCons (oN 0) aNil))))) (eIx (oN 0) (oN 1)) (e2 dAdd (oE (e2 dMul (oC (.int 37)) (oN 1))) (oC (.int 3))))) (sCons (sSet 3 (e2 dAdd (oC (.int 70003)) (oE (e2 dMul (oC (.int 9001)) (oN 1))))) (sCons (sFor (iSeq (e2 dAdd (oE (eSl (oN 0) pNone (pSome (oC (.int 5))))) (oE (eLst (vCons (eN 2) vNil))))) (gN 4) (lb0_l_jar C)) (sRet (eLst (vCons (eIf (tOrE (tv (e2 dLt (oN 2) (oC (.int 0)))) (tv (e2 dGe (oN 2) (oE (e2 dPow (oC (.int 10)) (oC (.int 18))))))) (eCB dAbs (aCons (oN 2) aNil)) (eC (.int 0))) (vCons (eN 3) (vCons (eC (.int 0)) vNil))))))))
def F_l_jar (C : Nat → Addr) : List D → FO := runP 5 (sv_l_jar C)
def ce0_law (C : Nat → Addr) : Ev Rv := (eMut1 (F_l_right C) (eCall (F_l_jar C) [0, 1] (vCons (eN 0) (vCons (eN 1) vNil)) vNil))
def sv_law (C : Nat → Addr) : Sv := (sRet (eCB dAll (aCons (oE (eComp (iRange1 (oE (eCB dMax (aCons (oC (.int 2)) (aCons (oE (eCB dMin (aCons (oE (eCB dLen (aCons (oN 0) aNil))) (aCons (oC (.int 6)) aNil)))) aNil))))) (gN 1) tT (ce0_law C) [1])) aNil)))
def F_law (C : Nat → Addr) : List D → FO := runP 2 (sv_law C)
structure Tp (K : PySem.W.Frag) (mg : Str → Option Value) where
  C : Nat → Addr
  a_l_dip : Addr
  fd_l_dip : FuncData
  F_l_dip : Fun K "_law_dip" "_law_dip" st_l_dip a_l_dip fd_l_dip
  g_l_dip : mg "_law_dip" = some (.ref a_l_dip)
  a_l_one_of : Addr
  fd_l_one_of : FuncData
  F_l_one_of : Fun K "_law_one_of" "_law_one_of" st_l_one_of a_l_one_of fd_l_one_of
  g_l_one_of : mg "_law_one_of" = some (.ref a_l_one_of)
  a_l_text : Addr
  fd_l_text : FuncData
  F_l_text : Fun K "_law_text" "_law_text" st_l_text a_l_text fd_l_text
  g_l_text : mg "_law_text" = some (.ref a_l_text)
  a_l_roads : Addr
  fd_l_roads : FuncData
  F_l_roads : Fun K "_law_roads" "_law_roads" st_l_roads a_l_roads fd_l_roads
  g_l_roads : mg "_law_roads" = some (.ref a_l_roads)
  a_l_bent : Addr
  fd_l_bent : FuncData
  F_l_bent : Fun K "_law_bent" "_law_bent" st_l_bent a_l_bent fd_l_bent
  g_l_bent : mg "_law_bent" = some (.ref a_l_bent)
  a_l_number : Addr
  fd_l_number : FuncData
  F_l_number : Fun K "_law_number" "_law_number" st_l_number a_l_number fd_l_number
  g_l_number : mg "_law_number" = some (.ref a_l_number)
  a_l_is_page : Addr
  fd_l_is_page : FuncData
  F_l_is_page : Fun K "_law_is_page" "_law_is_page" st_l_is_page a_l_is_page fd_l_is_page
  g_l_is_page : mg "_law_is_page" = some (.ref a_l_is_page)
  a_size_in : Addr
  fd_size_in : FuncData
  F_size_in : Fun K "size_in" "size_in" st_size_in a_size_in fd_size_in
  g_size_in : mg "size_in" = some (.ref a_size_in)
  a_road_in : Addr
  fd_road_in : FuncData
  F_road_in : Fun K "road_in" "road_in" st_road_in a_road_in fd_road_in
  g_road_in : mg "road_in" = some (.ref a_road_in)
  a_is_integer : Addr
  fd_is_integer : FuncData
  F_is_integer : Fun K "is_integer" "is_integer" st_is_integer a_is_integer fd_is_integer
  g_is_integer : mg "is_integer" = some (.ref a_is_integer)
  a_is_integer_from : Addr
  fd_is_integer_from : FuncData
  F_is_integer_from : Fun K "is_integer_from" "is_integer_from" st_is_integer_from a_is_integer_from fd_is_integer_from
  g_is_integer_from : mg "is_integer_from" = some (.ref a_is_integer_from)
  a_is_size : Addr
  fd_is_size : FuncData
  F_is_size : Fun K "is_size" "is_size" st_is_size a_is_size fd_is_size
  g_is_size : mg "is_size" = some (.ref a_is_size)
  a_is_place : Addr
  fd_is_place : FuncData
  F_is_place : Fun K "is_place" "is_place" st_is_place a_is_place fd_is_place
  g_is_place : mg "is_place" = some (.ref a_is_place)
  a_is_hue : Addr
  fd_is_hue : FuncData
  F_is_hue : Fun K "is_hue" "is_hue" st_is_hue a_is_hue fd_is_hue
  g_is_hue : mg "is_hue" = some (.ref a_is_hue)
  a_is_road : Addr
  fd_is_road : FuncData
  F_is_road : Fun K "is_road" "is_road" st_is_road a_is_road fd_is_road
  g_is_road : mg "is_road" = some (.ref a_is_road)
  a_first_wrong_road : Addr
  fd_first_wrong_road : FuncData
  F_first_wrong_road : Fun K "first_wrong_road" "first_wrong_road" st_first_wrong_road a_first_wrong_road fd_first_wrong_road
  g_first_wrong_road : mg "first_wrong_road" = some (.ref a_first_wrong_road)
  a_NetD_initD : Addr
  fd_NetD_initD : FuncData
  F_NetD_initD : Fun K "__init__" "Net.__init__" st_NetD_initD a_NetD_initD fd_NetD_initD
  at_NetD_initD : PySem.W.findIn K (.ref (C 0)) "__init__" = some (some (.ref a_NetD_initD))
  fn_NetD_initD : PySem.W.isFn K (.ref a_NetD_initD) = true
  a_Net_read : Addr
  fd_Net_read : FuncData
  F_Net_read : Fun K "read" "Net.read" st_Net_read a_Net_read fd_Net_read
  p_Net_read : Addr
  sta_Net_read : StaC K (C 0) "read" p_Net_read a_Net_read
  a_NetD_strD : Addr
  fd_NetD_strD : FuncData
  F_NetD_strD : Fun K "__str__" "Net.__str__" st_NetD_strD a_NetD_strD fd_NetD_strD
  at_NetD_strD : PySem.W.findIn K (.ref (C 0)) "__str__" = some (some (.ref a_NetD_strD))
  fn_NetD_strD : PySem.W.isFn K (.ref a_NetD_strD) = true
  a_l_read : Addr
  fd_l_read : FuncData
  F_l_read : Fun K "_law_read" "_law_read" st_l_read a_l_read fd_l_read
  g_l_read : mg "_law_read" = some (.ref a_l_read)
  a_l_right : Addr
  fd_l_right : FuncData
  F_l_right : Fun K "_law_right" "_law_right" st_l_right a_l_right fd_l_right
  g_l_right : mg "_law_right" = some (.ref a_l_right)
  a_l_jar : Addr
  fd_l_jar : FuncData
  F_l_jar : Fun K "_law_jar" "_law_jar" st_l_jar a_l_jar fd_l_jar
  g_l_jar : mg "_law_jar" = some (.ref a_l_jar)
  a_law : Addr
  fd_law : FuncData
  F_law : Fun K "law" "law" st_law a_law fd_law
  g_law : mg "law" = some (.ref a_law)
  g_Net : mg "Net" = some (.ref (C 0))
  ins : InsK K (C 0)
  makes : PySem.W.makesIn K (C 0) = true
  kpNet : PySem.W.keepIn K (.ref (C 0)) = true
  nf : ∀ T ∈ ["NoneType", "bool", "int", "str", "tuple", "list", "dict"], PySem.W.notFirst K (C 0) (.type T) = true
  kit_C : ∀ n ∈ ["NoneType", "bool", "int", "str", "tuple", "list", "dict"], PySem.W.kitOne K (.type n) (.ref (C 0)) = some false
  ne_Net : PySem.W.findIn K (.ref (C 0)) "__ne__" = some (some (.builtin "object.__ne__"))
  ax_InvalidNumber : Addr
  fx_InvalidNumber : FuncData
  g_InvalidNumber : mg "InvalidNumber" = some (.ref (C 2))
  oex_InvalidNumber : OexC K (C 2)
  xf_InvalidNumber : XfC K (C 2)
  no_InvalidNumber : PySem.W.findIn K (.ref (C 2)) "given" = some none
  Fx_InvalidNumber : Fun K "__init__" "InvalidNumber.__init__" stx_InvalidNumber ax_InvalidNumber fx_InvalidNumber
  ix_InvalidNumber : PySem.W.findIn K (.ref (C 2)) "__init__" = some (some (.ref ax_InvalidNumber))
  tx_InvalidNumber : PySem.W.typeIn K (.ref ax_InvalidNumber) = some (.type "function")
  ax_InvalidRoads : Addr
  fx_InvalidRoads : FuncData
  g_InvalidRoads : mg "InvalidRoads" = some (.ref (C 4))
  oex_InvalidRoads : OexC K (C 4)
  xf_InvalidRoads : XfC K (C 4)
  no_InvalidRoads : PySem.W.findIn K (.ref (C 4)) "index" = some none
  Fx_InvalidRoads : Fun K "__init__" "InvalidRoads.__init__" stx_InvalidRoads ax_InvalidRoads fx_InvalidRoads
  ix_InvalidRoads : PySem.W.findIn K (.ref (C 4)) "__init__" = some (some (.ref ax_InvalidRoads))
  tx_InvalidRoads : PySem.W.typeIn K (.ref ax_InvalidRoads) = some (.type "function")
  ax_InvalidText : Addr
  fx_InvalidText : FuncData
  g_InvalidText : mg "InvalidText" = some (.ref (C 1))
  oex_InvalidText : OexC K (C 1)
  xf_InvalidText : XfC K (C 1)
  no_InvalidText : PySem.W.findIn K (.ref (C 1)) "given" = some none
  Fx_InvalidText : Fun K "__init__" "InvalidText.__init__" stx_InvalidText ax_InvalidText fx_InvalidText
  ix_InvalidText : PySem.W.findIn K (.ref (C 1)) "__init__" = some (some (.ref ax_InvalidText))
  tx_InvalidText : PySem.W.typeIn K (.ref ax_InvalidText) = some (.type "function")
  exm_InvalidText_InvalidText : PySem.W.exmOne K (.ref (C 1)) (.ref (C 1)) = some true
  c_DIGITS : ∃ t, mg "DIGITS" = some (.str "0123456789" t)
  c_HUES : ∃ t, mg "HUES" = some (.str "abcdef" t)
  c_MOST_PLACES : ∃ t, mg "MOST_PLACES" = some (.int 9 t)
  na__hues : NoAttr K (C 0) "_hues"
  na__roads : NoAttr K (C 0) "_roads"
  na__size : NoAttr K (C 0) "_size"
  n_abs : mg "abs" = none
  n_all : mg "all" = none
  n_bool : mg "bool" = none
  n_divmod : mg "divmod" = none
  n_enumerate : mg "enumerate" = none
  n_int : mg "int" = none
  n_isinstance : mg "isinstance" = none
  n_len : mg "len" = none
  n_list : mg "list" = none
  n_max : mg "max" = none
  n_min : mg "min" = none
  n_range : mg "range" = none
  n_repr : mg "repr" = none
  n_str : mg "str" = none
  n_tuple : mg "tuple" = none
section
variable {P : Program} {w : World} {K : PySem.W.Frag} {mg : Str → Option Value} {base : Heap}
theorem Tp.kp_l_dip (T : Tp K mg) : PySem.W.keepIn K (.ref T.a_l_dip) = true := T.F_l_dip.kp
theorem Tp.kp_l_one_of (T : Tp K mg) : PySem.W.keepIn K (.ref T.a_l_one_of) = true := T.F_l_one_of.kp
theorem Tp.kp_l_text (T : Tp K mg) : PySem.W.keepIn K (.ref T.a_l_text) = true := T.F_l_text.kp
theorem Tp.kp_l_roads (T : Tp K mg) : PySem.W.keepIn K (.ref T.a_l_roads) = true := T.F_l_roads.kp
theorem Tp.kp_l_bent (T : Tp K mg) : PySem.W.keepIn K (.ref T.a_l_bent) = true := T.F_l_bent.kp
theorem Tp.kp_l_number (T : Tp K mg) : PySem.W.keepIn K (.ref T.a_l_number) = true := T.F_l_number.kp
theorem Tp.kp_l_is_page (T : Tp K mg) : PySem.W.keepIn K (.ref T.a_l_is_page) = true := T.F_l_is_page.kp
theorem Tp.kp_size_in (T : Tp K mg) : PySem.W.keepIn K (.ref T.a_size_in) = true := T.F_size_in.kp
theorem Tp.kp_road_in (T : Tp K mg) : PySem.W.keepIn K (.ref T.a_road_in) = true := T.F_road_in.kp
theorem Tp.kp_is_integer (T : Tp K mg) : PySem.W.keepIn K (.ref T.a_is_integer) = true := T.F_is_integer.kp
theorem Tp.kp_is_integer_from (T : Tp K mg) : PySem.W.keepIn K (.ref T.a_is_integer_from) = true := T.F_is_integer_from.kp
theorem Tp.kp_is_size (T : Tp K mg) : PySem.W.keepIn K (.ref T.a_is_size) = true := T.F_is_size.kp
theorem Tp.kp_is_place (T : Tp K mg) : PySem.W.keepIn K (.ref T.a_is_place) = true := T.F_is_place.kp
theorem Tp.kp_is_hue (T : Tp K mg) : PySem.W.keepIn K (.ref T.a_is_hue) = true := T.F_is_hue.kp
theorem Tp.kp_is_road (T : Tp K mg) : PySem.W.keepIn K (.ref T.a_is_road) = true := T.F_is_road.kp
theorem Tp.kp_first_wrong_road (T : Tp K mg) : PySem.W.keepIn K (.ref T.a_first_wrong_road) = true := T.F_first_wrong_road.kp
theorem Tp.me_NetD_initD (T : Tp K mg) : Meth K (T.C 0) "__init__" T.a_NetD_initD := ⟨T.at_NetD_initD, T.fn_NetD_initD, T.F_NetD_initD.kp⟩
theorem Tp.kp_NetD_initD (T : Tp K mg) : PySem.W.keepIn K (.ref T.a_NetD_initD) = true := T.F_NetD_initD.kp
theorem Tp.mkN (T : Tp K mg) : Mk K (T.C 0) T.a_NetD_initD := ⟨T.makes, T.at_NetD_initD, T.fn_NetD_initD, T.kpNet⟩
theorem Tp.kp_Net_read (T : Tp K mg) : PySem.W.keepIn K (.ref T.a_Net_read) = true := T.F_Net_read.kp
theorem Tp.me_NetD_strD (T : Tp K mg) : Meth K (T.C 0) "__str__" T.a_NetD_strD := ⟨T.at_NetD_strD, T.fn_NetD_strD, T.F_NetD_strD.kp⟩
theorem Tp.kp_NetD_strD (T : Tp K mg) : PySem.W.keepIn K (.ref T.a_NetD_strD) = true := T.F_NetD_strD.kp
theorem Tp.kp_l_read (T : Tp K mg) : PySem.W.keepIn K (.ref T.a_l_read) = true := T.F_l_read.kp
theorem Tp.kp_l_right (T : Tp K mg) : PySem.W.keepIn K (.ref T.a_l_right) = true := T.F_l_right.kp
theorem Tp.kp_l_jar (T : Tp K mg) : PySem.W.keepIn K (.ref T.a_l_jar) = true := T.F_l_jar.kp
theorem Tp.kp_law (T : Tp K mg) : PySem.W.keepIn K (.ref T.a_law) = true := T.F_law.kp
theorem x_InvalidNumber (T : Tp K mg) : XInit P w K mg base "InvalidNumber" (T.C 2) "given" := ⟨T.g_InvalidNumber, T.oex_InvalidNumber, T.xf_InvalidNumber, T.no_InvalidNumber, _, _, _, T.ix_InvalidNumber, T.tx_InvalidNumber, init_fn (p0 := _) (p1 := _) (p' := _) (pos := _) T.Fx_InvalidNumber scx_InvalidNumber rfl T.oex_InvalidNumber T.no_InvalidNumber (by first | exact Or.inl rfl | exact Or.inr rfl) (by first | exact Or.inl rfl | exact Or.inr rfl) (by decide) (by decide) (fun _ => rfl), binds_of T.Fx_InvalidNumber fun _ _ _ _ _ _ us h => match us, h with | [_, _], _ => rfl⟩
theorem x_InvalidRoads (T : Tp K mg) : XInit P w K mg base "InvalidRoads" (T.C 4) "index" := ⟨T.g_InvalidRoads, T.oex_InvalidRoads, T.xf_InvalidRoads, T.no_InvalidRoads, _, _, _, T.ix_InvalidRoads, T.tx_InvalidRoads, init_fn (p0 := _) (p1 := _) (p' := _) (pos := _) T.Fx_InvalidRoads scx_InvalidRoads rfl T.oex_InvalidRoads T.no_InvalidRoads (by first | exact Or.inl rfl | exact Or.inr rfl) (by first | exact Or.inl rfl | exact Or.inr rfl) (by decide) (by decide) (fun _ => rfl), binds_of T.Fx_InvalidRoads fun _ _ _ _ _ _ us h => match us, h with | [_, _], _ => rfl⟩
theorem x_InvalidText (T : Tp K mg) : XInit P w K mg base "InvalidText" (T.C 1) "given" := ⟨T.g_InvalidText, T.oex_InvalidText, T.xf_InvalidText, T.no_InvalidText, _, _, _, T.ix_InvalidText, T.tx_InvalidText, init_fn (p0 := _) (p1 := _) (p' := _) (pos := _) T.Fx_InvalidText scx_InvalidText rfl T.oex_InvalidText T.no_InvalidText (by first | exact Or.inl rfl | exact Or.inr rfl) (by first | exact Or.inl rfl | exact Or.inr rfl) (by decide) (by decide) (fun _ => rfl), binds_of T.Fx_InvalidText fun _ _ _ _ _ _ us h => match us, h with | [_, _], _ => rfl⟩
theorem kb_NetD_initD (T : Tp K mg) : KB K T.fd_NetD_initD ps_NetD_initD 3 [] [0, 1, 2] := kb_of T.F_NetD_initD fun _ _ _ _ _ _ us ws h1 h2 => match us, ws, h1, h2 with | [_, _, _], [], _, _ => rfl
theorem kb_NetD_strD (T : Tp K mg) : KB K T.fd_NetD_strD ps_NetD_strD 1 [] [0] := kb_of T.F_NetD_strD fun _ _ _ _ _ _ us ws h1 h2 => match us, ws, h1, h2 with | [_], [], _, _ => rfl
theorem kb_Net_read (T : Tp K mg) : KB K T.fd_Net_read ps_Net_read 1 [] [0] := kb_of T.F_Net_read fun _ _ _ _ _ _ us ws h1 h2 => match us, ws, h1, h2 with | [_], [], _, _ => rfl
theorem kb_Net_read_0_text (T : Tp K mg) : KB K T.fd_Net_read ps_Net_read 0 ["text"] [0] := kb_of T.F_Net_read fun _ _ _ _ _ _ us ws h1 h2 => match us, ws, h1, h2 with | [], [_], _, _ => rfl
theorem kb_first_wrong_road (T : Tp K mg) : KB K T.fd_first_wrong_road ps_first_wrong_road 2 [] [0, 1] := kb_of T.F_first_wrong_road fun _ _ _ _ _ _ us ws h1 h2 => match us, ws, h1, h2 with | [_, _], [], _, _ => rfl
theorem kb_is_hue (T : Tp K mg) : KB K T.fd_is_hue ps_is_hue 1 [] [0] := kb_of T.F_is_hue fun _ _ _ _ _ _ us ws h1 h2 => match us, ws, h1, h2 with | [_], [], _, _ => rfl
theorem kb_is_integer (T : Tp K mg) : KB K T.fd_is_integer ps_is_integer 1 [] [0] := kb_of T.F_is_integer fun _ _ _ _ _ _ us ws h1 h2 => match us, ws, h1, h2 with | [_], [], _, _ => rfl
theorem kb_is_integer_from (T : Tp K mg) : KB K T.fd_is_integer_from ps_is_integer_from 3 [] [0, 1, 2] := kb_of T.F_is_integer_from fun _ _ _ _ _ _ us ws h1 h2 => match us, ws, h1, h2 with | [_, _, _], [], _, _ => rfl
theorem kb_is_place (T : Tp K mg) : KB K T.fd_is_place ps_is_place 2 [] [0, 1] := kb_of T.F_is_place fun _ _ _ _ _ _ us ws h1 h2 => match us, ws, h1, h2 with | [_, _], [], _, _ => rfl
theorem kb_is_road (T : Tp K mg) : KB K T.fd_is_road ps_is_road 2 [] [0, 1] := kb_of T.F_is_road fun _ _ _ _ _ _ us ws h1 h2 => match us, ws, h1, h2 with | [_, _], [], _, _ => rfl
theorem kb_is_size (T : Tp K mg) : KB K T.fd_is_size ps_is_size 1 [] [0] := kb_of T.F_is_size fun _ _ _ _ _ _ us ws h1 h2 => match us, ws, h1, h2 with | [_], [], _, _ => rfl
theorem kb_l_bent (T : Tp K mg) : KB K T.fd_l_bent ps_l_bent 2 [] [0, 1] := kb_of T.F_l_bent fun _ _ _ _ _ _ us ws h1 h2 => match us, ws, h1, h2 with | [_, _], [], _, _ => rfl
theorem kb_l_dip (T : Tp K mg) : KB K T.fd_l_dip ps_l_dip 2 [] [0, 1] := kb_of T.F_l_dip fun _ _ _ _ _ _ us ws h1 h2 => match us, ws, h1, h2 with | [_, _], [], _, _ => rfl
theorem kb_l_is_page (T : Tp K mg) : KB K T.fd_l_is_page ps_l_is_page 1 [] [0] := kb_of T.F_l_is_page fun _ _ _ _ _ _ us ws h1 h2 => match us, ws, h1, h2 with | [_], [], _, _ => rfl
theorem kb_l_jar (T : Tp K mg) : KB K T.fd_l_jar ps_l_jar 2 [] [0, 1] := kb_of T.F_l_jar fun _ _ _ _ _ _ us ws h1 h2 => match us, ws, h1, h2 with | [_, _], [], _, _ => rfl
theorem kb_l_number (T : Tp K mg) : KB K T.fd_l_number ps_l_number 1 [] [0] := kb_of T.F_l_number fun _ _ _ _ _ _ us ws h1 h2 => match us, ws, h1, h2 with | [_], [], _, _ => rfl
theorem kb_l_one_of (T : Tp K mg) : KB K T.fd_l_one_of ps_l_one_of 2 [] [0, 1] := kb_of T.F_l_one_of fun _ _ _ _ _ _ us ws h1 h2 => match us, ws, h1, h2 with | [_, _], [], _, _ => rfl
theorem kb_l_read (T : Tp K mg) : KB K T.fd_l_read ps_l_read 2 [] [0, 1] := kb_of T.F_l_read fun _ _ _ _ _ _ us ws h1 h2 => match us, ws, h1, h2 with | [_, _], [], _, _ => rfl
theorem kb_l_right (T : Tp K mg) : KB K T.fd_l_right ps_l_right 1 [] [0] := kb_of T.F_l_right fun _ _ _ _ _ _ us ws h1 h2 => match us, ws, h1, h2 with | [_], [], _, _ => rfl
theorem kb_l_roads (T : Tp K mg) : KB K T.fd_l_roads ps_l_roads 2 [] [0, 1] := kb_of T.F_l_roads fun _ _ _ _ _ _ us ws h1 h2 => match us, ws, h1, h2 with | [_, _], [], _, _ => rfl
theorem kb_l_text (T : Tp K mg) : KB K T.fd_l_text ps_l_text 2 [] [0, 1] := kb_of T.F_l_text fun _ _ _ _ _ _ us ws h1 h2 => match us, ws, h1, h2 with | [_, _], [], _, _ => rfl
theorem kb_law (T : Tp K mg) : KB K T.fd_law ps_law 1 [] [0] := kb_of T.F_law fun _ _ _ _ _ _ us ws h1 h2 => match us, ws, h1, h2 with | [_], [], _, _ => rfl
theorem kb_road_in (T : Tp K mg) : KB K T.fd_road_in ps_road_in 1 [] [0] := kb_of T.F_road_in fun _ _ _ _ _ _ us ws h1 h2 => match us, ws, h1, h2 with | [_], [], _, _ => rfl
theorem kb_size_in (T : Tp K mg) : KB K T.fd_size_in ps_size_in 1 [] [0] := kb_of T.F_size_in fun _ _ _ _ _ _ us ws h1 h2 => match us, ws, h1, h2 with | [_], [], _, _ => rfl
theorem G_l_dip (T : Tp K mg) : FnG P w K mg base 1 T.a_l_dip T.fd_l_dip ps_l_dip (spM K 2 (F_l_dip T.C)) :=
  fn_mut T.F_l_dip sc_l_dip (by decide) fun cdv A outer s H E room gd => by
    unfold sv_l_dip
    exact (sns_cons (sns_setix (pv 0) (snd_bin ok_add (sno_e (snd_ix (rm_of room) (sno_n (pv 0)) sno_int (fun _ _ => rfl))) sno_int) sno_int (fun _ => rfl)) (sns_cons (sns_if (snt_cmp ok_gt (sno_e (snd_ix (rm_of room) (sno_n (pv 0)) sno_int (fun _ _ => rfl))) sno_int (by rfl)) (sns_cons (sns_tgt (snd_cb ok_divmod (sna_cons (sno_e (snd_ix (rm_of room) (sno_n (pv 0)) sno_int (fun _ _ => rfl))) (sna_cons (sno_n (pv 1)) sna_nil)) rfl T.n_divmod rfl) (sng_t rfl (sngs_cons (sng_ix (k := 0) (pv 0) pe_int (fun _ => rfl)) (sngs_cons (sng_n (pg_name (i := 2) sc_l_dip.nd rfl (by first | exact Or.inl rfl | exact Or.inr rfl))) sngs_nil))) (fun _ => by decide)) (sns_one (sns_ret (snd_n (pv 2))))) sns_nil) (sns_cons (sns_setix (pv 0) (snd_bin ok_mod (sno_e (snd_ct ok_int (sna_cons (sno_e (snd_bin ok_add (sno_e (snd_bin ok_mul (sno_e (snd_ix (rm_of room) (sno_n (pv 0)) sno_int (fun _ _ => rfl))) sno_int)) (sno_e (snd_bin ok_mul sno_int (sno_e (snd_ix (rm_of room) (sno_n (pv 0)) sno_int (fun _ _ => rfl))))))) sna_nil) rfl T.n_int rfl)) sno_int) sno_int (fun _ => rfl)) (sns_one (sns_ret (snd_bin ok_mod (sno_e (snd_ct ok_int (sna_cons (sno_e (snd_bin ok_div (sno_e (snd_ix (rm_of room) (sno_n (pv 0)) sno_int (fun _ _ => rfl))) sno_int)) sna_nil) rfl T.n_int rfl)) (sno_n (pv 1))))))))
theorem G_l_one_of (T : Tp K mg) : FnG P w K mg base 4 T.a_l_one_of T.fd_l_one_of ps_l_one_of (spM K 2 (F_l_one_of T.C)) :=
  fn_mut T.F_l_one_of sc_l_one_of (by decide) fun cdv A outer s H E room gd => by
    unfold sv_l_one_of
    exact (sns_one (sns_ret (snd_ix (rm_of room) (sno_n (pv 1)) (sno_e (snd_mut (mut_at (G_l_dip T) (room.mono (by decide)) gd (kb_l_dip T) (takes_of rfl rfl rfl rfl) (fun l h => by match l, h with | [_, _], _ => rfl)) (pv 0) (snv_cons (snd_cb ok_len (sna_cons (sno_n (pv 1)) sna_nil) rfl T.n_len rfl) snv_nil) lenV1 rfl T.g_l_dip T.kp_l_dip)) (fun _ _ => rfl))))
theorem G_l_text (T : Tp K mg) : FnG P w K mg base 1 T.a_l_text T.fd_l_text ps_l_text (spP K 2 (F_l_text T.C)) :=
  fn_pure T.F_l_text sc_l_text (by decide) fun cdv A outer s H E room gd => by
    unfold sv_l_text
    exact (sns_one (sns_ret (snd_mt ok_join sno_str (sna_cons (sno_e (snd_bin ok_add (sno_e (snd_lst (snv_cons (snd_bin ok_add (sno_e (snd_ct ok_str (sna_cons (sno_n (pv 0)) sna_nil) rfl T.n_str rfl)) sno_str) snv_nil))) (sno_e (snd_lc (own := [("_law_i", 2), ("_law_j", 3), ("_law_hue", 4)]) rfl sc_l_text.nd (blkOk_by (N := N_l_text) (sc := defScope st_l_text) (by decide +kernel)) (sni_seq (snd_n (pv 1))) (fun _ _ _ _ _ => (sng_t rfl (sngs_cons (sng_n (pg_name (i := 2) sc_l_text.nd rfl (by first | exact Or.inl rfl | exact Or.inr rfl))) (sngs_cons (sng_n (pg_name (i := 3) sc_l_text.nd rfl (by first | exact Or.inl rfl | exact Or.inr rfl))) (sngs_cons (sng_n (pg_name (i := 4) sc_l_text.nd rfl (by first | exact Or.inl rfl | exact Or.inr rfl))) sngs_nil))))) (fun _ _ _ _ _ => snts_nil) (fun _ _ _ _ _ => (snd_bin ok_add (sno_e (snd_bin ok_add (sno_e (snd_bin ok_add (sno_e (snd_ct ok_str (sna_cons (sno_n (pv 2)) sna_nil) rfl T.n_str rfl)) sno_str)) (sno_e (snd_ct ok_str (sna_cons (sno_n (pv 3)) sna_nil) rfl T.n_str rfl)))) (sno_n (pv 4)))) (by decide))))) sna_nil) (by decide) PySem.F.plainAttrs_str PySem.F.slot_str_join PySem.F.type_str_join)))
theorem G_l_roads (T : Tp K mg) : FnG P w K mg base 7 T.a_l_roads T.fd_l_roads ps_l_roads (spM K 2 (F_l_roads T.C)) :=
  fn_mut T.F_l_roads sc_l_roads (by decide) fun cdv A outer s H E room gd => by
    unfold sv_l_roads
    exact (sns_cons (by first | exact sns_par3 (i := 2) (j := 3) (l := 4) (snl_cons (snd_mut (mut_at (G_l_one_of T) (room.mono (by decide)) gd (kb_l_one_of T) (takes_of rfl rfl rfl rfl) (fun l h => by match l, h with | [_, _], _ => rfl)) (pv 0) (snv_cons (snd_lst (snv_cons snd_int (snv_cons snd_int (snv_cons snd_int (snv_cons snd_int snv_nil))))) snv_nil) lenV1 rfl T.g_l_one_of T.kp_l_one_of) (snl_cons (snd_mut (mut_at (G_l_one_of T) (room.mono (by decide)) gd (kb_l_one_of T) (takes_of rfl rfl rfl rfl) (fun l h => by match l, h with | [_, _], _ => rfl)) (pv 0) (snv_cons (snd_lst (snv_cons snd_str (snv_cons snd_str (snv_cons snd_str (snv_cons snd_str snv_nil))))) snv_nil) lenV1 rfl T.g_l_one_of T.kp_l_one_of) (snl_cons (snd_lst snv_nil) snl_nil))) (fun _ => by decide) rfl sc_l_roads.nd rfl rfl rfl (by decide) (by decide) (by decide) rfl rfl rfl rfl | exact sns_parT (snl_cons (snd_mut (mut_at (G_l_one_of T) (room.mono (by decide)) gd (kb_l_one_of T) (takes_of rfl rfl rfl rfl) (fun l h => by match l, h with | [_, _], _ => rfl)) (pv 0) (snv_cons (snd_lst (snv_cons snd_int (snv_cons snd_int (snv_cons snd_int (snv_cons snd_int snv_nil))))) snv_nil) lenV1 rfl T.g_l_one_of T.kp_l_one_of) (snl_cons (snd_mut (mut_at (G_l_one_of T) (room.mono (by decide)) gd (kb_l_one_of T) (takes_of rfl rfl rfl rfl) (fun l h => by match l, h with | [_, _], _ => rfl)) (pv 0) (snv_cons (snd_lst (snv_cons snd_str (snv_cons snd_str (snv_cons snd_str (snv_cons snd_str snv_nil))))) snv_nil) lenV1 rfl T.g_l_one_of T.kp_l_one_of) (snl_cons (snd_lst snv_nil) snl_nil))) (fun _ => by decide) rfl (NmOk.cons (i := 2) (pg_name sc_l_roads.nd rfl (by first | exact Or.inl rfl | exact Or.inr rfl)) rfl (NmOk.cons (i := 3) (pg_name sc_l_roads.nd rfl (by first | exact Or.inl rfl | exact Or.inr rfl)) rfl (NmOk.cons (i := 4) (pg_name sc_l_roads.nd rfl (by first | exact Or.inl rfl | exact Or.inr rfl)) rfl NmOk.nil)))) (sns_cons (sns_for (passes_of rfl) rfl (sni_range1 (sno_n (pv 1)) rfl T.n_range) (sng_n (pg_name (i := 5) sc_l_roads.nd rfl (by first | exact Or.inl rfl | exact Or.inr rfl))) (fun _ => by decide) (sns_one (sns_for (passes_of rfl) rfl (sni_range2 (sno_e (snd_bin ok_add (sno_n (pv 5)) sno_int)) (sno_n (pv 1)) rfl T.n_range) (sng_n (pg_name (i := 6) sc_l_roads.nd rfl (by first | exact Or.inl rfl | exact Or.inr rfl))) (fun _ => by decide) (sns_one (sns_if (snt_cmp (ok_lt (rm_of room)) (sno_e (snd_mut (mut_at (G_l_dip T) (room.mono (by decide)) gd (kb_l_dip T) (takes_of rfl rfl rfl rfl) (fun l h => by match l, h with | [_, _], _ => rfl)) (pv 0) (snv_cons snd_int snv_nil) lenV1 rfl T.g_l_dip T.kp_l_dip)) (sno_n (pv 2)) (by rfl)) (sns_one (sns_expr (snd_app (pv 4) (snd_tup (snv_cons (snd_n (pv 5)) (snv_cons (snd_n (pv 6)) (snv_cons (snd_mut (mut_at (G_l_one_of T) (room.mono (by decide)) gd (kb_l_one_of T) (takes_of rfl rfl rfl rfl) (fun l h => by match l, h with | [_, _], _ => rfl)) (pv 0) (snv_cons (snd_ct (cok_or2 ok_list (ok_listS (rm_of room))) (sna_cons (sno_n (pv 3)) sna_nil) rfl T.n_list rfl) snv_nil) lenV1 rfl T.g_l_one_of T.kp_l_one_of) snv_nil))))))) sns_nil))))) (sns_one (sns_ret (snd_ct ok_tuple (sna_cons (sno_n (pv 4)) sna_nil) rfl T.n_tuple rfl)))))
theorem G_l_bent (T : Tp K mg) : FnG P w K mg base 7 T.a_l_bent T.fd_l_bent ps_l_bent (spM K 2 (F_l_bent T.C)) :=
  fn_mut T.F_l_bent sc_l_bent (by decide) fun cdv A outer s H E room gd => by
    unfold sv_l_bent
    exact (sns_cons (by first | exact sns_par3 (i := 2) (j := 3) (l := 4) (snl_cons (snd_mt ok_split (sno_n (pv 1)) (sna_cons sno_str sna_nil) (by decide) PySem.F.plainAttrs_str PySem.F.slot_str_split PySem.F.type_str_split) (snl_cons (snd_mut (mut_at (G_l_dip T) (room.mono (by decide)) gd (kb_l_dip T) (takes_of rfl rfl rfl rfl) (fun l h => by match l, h with | [_, _], _ => rfl)) (pv 0) (snv_cons snd_int snv_nil) lenV1 rfl T.g_l_dip T.kp_l_dip) (snl_cons (snd_mut (mut_at (G_l_dip T) (room.mono (by decide)) gd (kb_l_dip T) (takes_of rfl rfl rfl rfl) (fun l h => by match l, h with | [_, _], _ => rfl)) (pv 0) (snv_cons (snd_bin ok_add (sno_e (snd_cb ok_len (sna_cons (sno_n (pv 1)) sna_nil) rfl T.n_len rfl)) sno_int) snv_nil) lenV1 rfl T.g_l_dip T.kp_l_dip) snl_nil))) (fun _ => by decide) rfl sc_l_bent.nd rfl rfl rfl (by decide) (by decide) (by decide) rfl rfl rfl rfl | exact sns_parT (snl_cons (snd_mt ok_split (sno_n (pv 1)) (sna_cons sno_str sna_nil) (by decide) PySem.F.plainAttrs_str PySem.F.slot_str_split PySem.F.type_str_split) (snl_cons (snd_mut (mut_at (G_l_dip T) (room.mono (by decide)) gd (kb_l_dip T) (takes_of rfl rfl rfl rfl) (fun l h => by match l, h with | [_, _], _ => rfl)) (pv 0) (snv_cons snd_int snv_nil) lenV1 rfl T.g_l_dip T.kp_l_dip) (snl_cons (snd_mut (mut_at (G_l_dip T) (room.mono (by decide)) gd (kb_l_dip T) (takes_of rfl rfl rfl rfl) (fun l h => by match l, h with | [_, _], _ => rfl)) (pv 0) (snv_cons (snd_bin ok_add (sno_e (snd_cb ok_len (sna_cons (sno_n (pv 1)) sna_nil) rfl T.n_len rfl)) sno_int) snv_nil) lenV1 rfl T.g_l_dip T.kp_l_dip) snl_nil))) (fun _ => by decide) rfl (NmOk.cons (i := 2) (pg_name sc_l_bent.nd rfl (by first | exact Or.inl rfl | exact Or.inr rfl)) rfl (NmOk.cons (i := 3) (pg_name sc_l_bent.nd rfl (by first | exact Or.inl rfl | exact Or.inr rfl)) rfl (NmOk.cons (i := 4) (pg_name sc_l_bent.nd rfl (by first | exact Or.inl rfl | exact Or.inr rfl)) rfl NmOk.nil)))) (sns_cons (sns_set (i := 5) (snd_mut (mut_at (G_l_dip T) (room.mono (by decide)) gd (kb_l_dip T) (takes_of rfl rfl rfl rfl) (fun l h => by match l, h with | [_, _], _ => rfl)) (pv 0) (snv_cons (snd_cb ok_len (sna_cons (sno_n (pv 2)) sna_nil) rfl T.n_len rfl) snv_nil) lenV1 rfl T.g_l_dip T.kp_l_dip) (fun _ => by decide) sc_l_bent.nd rfl (by first | exact Or.inl rfl | exact Or.inr rfl)) (sns_cons (sns_set (i := 6) (snd_mut (mut_at (G_l_one_of T) (room.mono (by decide)) gd (kb_l_one_of T) (takes_of rfl rfl rfl rfl) (fun l h => by match l, h with | [_, _], _ => rfl)) (pv 0) (snv_cons (snd_bin ok_add (sno_e (snd_ct (cok_or2 ok_list (ok_listS (rm_of room))) (sna_cons sno_str sna_nil) rfl T.n_list rfl)) (sno_e (snd_lst (snv_cons snd_str (snv_cons snd_str (snv_cons snd_str (snv_cons snd_str (snv_cons snd_str snv_nil)))))))) snv_nil) lenV1 rfl T.g_l_one_of T.kp_l_one_of) (fun _ => by decide) sc_l_bent.nd rfl (by first | exact Or.inl rfl | exact Or.inr rfl)) (sns_cons (sns_if (snt_cmp (ok_lt (rm_of room)) (sno_n (pv 3)) sno_int (by rfl)) (sns_one (sns_ret (snd_bin ok_add (sno_e (snd_bin ok_add (sno_e (snd_sl (sno_n (pv 1)) op_none (op_some (sno_n (pv 4))))) (sno_e (snd_ix (rm_of room) (sno_e (snd_lst (snv_cons snd_str (snv_cons (snd_n (pv 6)) (snv_cons (snd_n (pv 6)) snv_nil))))) (sno_n (pv 3)) (fun _ _ => rfl))))) (sno_e (snd_sl (sno_n (pv 1)) (op_some (sno_e (snd_bin ok_add (sno_n (pv 4)) (sno_e (snd_ix (rm_of room) (sno_e (snd_lst (snv_cons snd_int (snv_cons snd_int (snv_cons snd_int snv_nil))))) (sno_n (pv 3)) (fun _ _ => rfl)))))) op_none))))) sns_nil) (sns_cons (sns_if (snt_cmp (ok_eq (rm_of room)) (sno_n (pv 3)) sno_int (by rfl)) (sns_one (sns_ret (snd_mt ok_join sno_str (sna_cons (sno_e (snd_bin ok_add (sno_e (snd_sl (sno_n (pv 2)) op_none (op_some (sno_n (pv 5))))) (sno_e (snd_sl (sno_n (pv 2)) (op_some (sno_e (snd_bin ok_add (sno_n (pv 5)) sno_int))) op_none)))) sna_nil) (by decide) PySem.F.plainAttrs_str PySem.F.slot_str_join PySem.F.type_str_join))) sns_nil) (sns_cons (sns_if (snt_cmp (ok_eq (rm_of room)) (sno_n (pv 3)) sno_int (by rfl)) (sns_one (sns_ret (snd_mt ok_join sno_str (sna_cons (sno_e (snd_bin ok_add (sno_e (snd_bin ok_add (sno_e (snd_sl (sno_n (pv 2)) op_none (op_some (sno_n (pv 5))))) (sno_e (snd_lst (snv_cons (snd_ix (rm_of room) (sno_n (pv 2)) (sno_n (pv 5)) (fun _ _ => rfl)) snv_nil))))) (sno_e (snd_sl (sno_n (pv 2)) (op_some (sno_n (pv 5))) op_none)))) sna_nil) (by decide) PySem.F.plainAttrs_str PySem.F.slot_str_join PySem.F.type_str_join))) sns_nil) (sns_one (sns_ret (snd_mt ok_join sno_str (sna_cons (sno_e (snd_bin ok_add (sno_e (snd_sl (sno_n (pv 2)) op_none (op_some sno_int))) (sno_e (snd_slR (sno_n (pv 2)))))) sna_nil) (by decide) PySem.F.plainAttrs_str PySem.F.slot_str_join PySem.F.type_str_join)))))))))
theorem G_l_number (T : Tp K mg) : FnG P w K mg base 1 T.a_l_number T.fd_l_number ps_l_number (spP K 1 (F_l_number T.C)) :=
  fn_pure T.F_l_number sc_l_number (by decide) fun cdv A outer s H E room gd => by
    unfold sv_l_number
    exact (sns_cons (sns_if (SndW.t (snw_or (snt_cmp (ok_eq (rm_of room)) (sno_n (pv 0)) sno_str (by rfl)) (snw_or (snt_cmp (ok_ne (rm_of room)) (sno_e (snd_lc (own := [("_law_sign", 1)]) rfl sc_l_number.nd (blkOk_by (N := N_l_number) (sc := defScope st_l_number) (by decide +kernel)) (sni_seq (snd_n (pv 0))) (fun _ _ _ _ _ => (sng_n (pg_name (i := 1) sc_l_number.nd rfl (by first | exact Or.inl rfl | exact Or.inr rfl)))) (fun _ _ _ _ _ => (snts_one (snt_notin (Rm.blk (rm_of room)) (sno_n (pv 1)) sno_str))) (fun _ _ _ _ _ => (snd_n (pv 1))) (by decide))) (sno_e (snd_lst snv_nil)) (by rfl)) (snw_or1 (SndW.t (snw_and (snt_cmp (ok_eq (rm_of room)) (sno_e (snd_ix (rm_of room) (sno_n (pv 0)) sno_int (fun _ _ => rfl))) sno_str (by rfl)) (snw_and1 (snt_cmp (ok_ne (rm_of room)) (sno_n (pv 0)) sno_str (by rfl))))))))) (sns_one (sns_ret (snd_neg sno_int))) sns_nil) (sns_one (sns_ret (snd_ct ok_int (sna_cons (sno_n (pv 0)) sna_nil) rfl T.n_int rfl))))
theorem G_l_is_page (T : Tp K mg) : FnG P w K mg base 4 T.a_l_is_page T.fd_l_is_page ps_l_is_page (spP K 1 (F_l_is_page T.C)) :=
  fn_pure T.F_l_is_page sc_l_is_page (by decide) fun cdv A outer s H E room gd => by
    unfold sv_l_is_page
    exact (sns_cons (sns_if (SndW.t (snw_or (snt_not (snt_tru (sno_e (snd_isi (isT_ok) (pe_bltn (v := .ty "str") (u := .type "str") rfl T.n_str rfl rfl) (.ty "str") (sno_n (pv 0)) rfl T.n_isinstance rfl)) (fun _ => rfl))) (snw_or1 (snt_cmp (ok_eq (rm_of room)) (sno_n (pv 0)) sno_str (by rfl))))) (sns_one (sns_ret snd_bl)) sns_nil) (sns_cons (sns_set (i := 1) (snd_mt ok_split (sno_n (pv 0)) (sna_cons sno_str sna_nil) (by decide) PySem.F.plainAttrs_str PySem.F.slot_str_split PySem.F.type_str_split) (fun _ => by decide) sc_l_is_page.nd rfl (by first | exact Or.inl rfl | exact Or.inr rfl)) (sns_cons (by first | exact sns_par2 (i := 2) (j := 3) (snl_cons (snd_call (fun_at (G_l_number T) (room.mono (by decide)) gd (kb_l_number T) (takes_of rfl rfl rfl rfl) (fun l h => by match l, h with | [_], _ => rfl)) (snv_cons (snd_sl (sno_e (snd_ix (rm_of room) (sno_n (pv 1)) sno_int (fun _ _ => rfl))) op_none (op_some (sno_e (snd_neg sno_int)))) snv_nil) lenV1 rfl T.g_l_number T.kp_l_number) (snl_cons (snd_tup (snv_cons (snd_neg sno_int) (snv_cons (snd_neg sno_int) snv_nil))) snl_nil)) (fun _ => by decide) rfl sc_l_is_page.nd rfl rfl (by decide) rfl rfl rfl | exact sns_parT (snl_cons (snd_call (fun_at (G_l_number T) (room.mono (by decide)) gd (kb_l_number T) (takes_of rfl rfl rfl rfl) (fun l h => by match l, h with | [_], _ => rfl)) (snv_cons (snd_sl (sno_e (snd_ix (rm_of room) (sno_n (pv 1)) sno_int (fun _ _ => rfl))) op_none (op_some (sno_e (snd_neg sno_int)))) snv_nil) lenV1 rfl T.g_l_number T.kp_l_number) (snl_cons (snd_tup (snv_cons (snd_neg sno_int) (snv_cons (snd_neg sno_int) snv_nil))) snl_nil)) (fun _ => by decide) rfl (NmOk.cons (i := 2) (pg_name sc_l_is_page.nd rfl (by first | exact Or.inl rfl | exact Or.inr rfl)) rfl (NmOk.cons (i := 3) (pg_name sc_l_is_page.nd rfl (by first | exact Or.inl rfl | exact Or.inr rfl)) rfl NmOk.nil))) (sns_cons (sns_if (SndW.t (snw_or (snt_cmp (ok_ne (rm_of room)) (sno_e (snd_sl (sno_e (snd_ix (rm_of room) (sno_n (pv 1)) sno_int (fun _ _ => rfl))) (op_some (sno_e (snd_neg sno_int))) op_none)) sno_str (by rfl)) (snw_or1 (snt_not (snt_chain (ok_lt (rm_of room)) (ok_lt (rm_of room)) sno_int (sno_n (pv 2)) sno_int))))) (sns_one (sns_ret snd_bl)) sns_nil) (sns_cons (sns_for (passes_of rfl) rfl (sni_seq (snd_sl (sno_n (pv 1)) (op_some sno_int) op_none)) (sng_n (pg_name (i := 4) sc_l_is_page.nd rfl (by first | exact Or.inl rfl | exact Or.inr rfl))) (fun _ => by decide) (sns_cons (by first | exact sns_setLc (i := 5) (own := [("_law_part", 6)]) (fun _ => by decide) rfl rfl rfl rfl sc_l_is_page.nd  (blkOk_by (N := N_l_is_page) (sc := defScope st_l_is_page) (by decide +kernel)) (sni_seq (snd_mt ok_split (sno_e (snd_sl (sno_n (pv 4)) op_none (op_some (sno_e (snd_neg sno_int))))) (sna_cons sno_str sna_nil) (by decide) PySem.F.plainAttrs_str PySem.F.slot_str_split PySem.F.type_str_split)) (fun _ _ _ _ _ => (sng_n (pg_name (i := 6) sc_l_is_page.nd rfl (by first | exact Or.inl rfl | exact Or.inr rfl)))) (fun _ _ _ _ _ => snts_nil) (fun _ _ _ _ _ => (snd_call (fun_at (G_l_number T) (room.mono (by decide)) gd (kb_l_number T) takes_WF (fun l h => by match l, h with | [_], _ => rfl)) (snv_cons (snd_n (pv 6)) snv_nil) lenV1 rfl T.g_l_number T.kp_l_number)) (by decide) | exact sns_set (i := 5) (snd_lc (own := [("_law_part", 6)]) rfl sc_l_is_page.nd (blkOk_by (N := N_l_is_page) (sc := defScope st_l_is_page) (by decide +kernel)) (sni_seq (snd_mt ok_split (sno_e (snd_sl (sno_n (pv 4)) op_none (op_some (sno_e (snd_neg sno_int))))) (sna_cons sno_str sna_nil) (by decide) PySem.F.plainAttrs_str PySem.F.slot_str_split PySem.F.type_str_split)) (fun _ _ _ _ _ => (sng_n (pg_name (i := 6) sc_l_is_page.nd rfl (by first | exact Or.inl rfl | exact Or.inr rfl)))) (fun _ _ _ _ _ => snts_nil) (fun _ _ _ _ _ => (snd_call (fun_at (G_l_number T) (room.mono (by decide)) gd (kb_l_number T) takes_WF (fun l h => by match l, h with | [_], _ => rfl)) (snv_cons (snd_n (pv 6)) snv_nil) lenV1 rfl T.g_l_number T.kp_l_number)) (by decide)) (fun _ => by decide) sc_l_is_page.nd rfl (by first | exact Or.inl rfl | exact Or.inr rfl)) (sns_cons (sns_if (SndW.t (snw_or (snt_notin (rm_of room) (sno_e (snd_sl (sno_n (pv 4)) (op_some (sno_e (snd_neg sno_int))) op_none)) (sno_e (snd_ct (cok_or2 ok_list (ok_listS (rm_of room))) (sna_cons sno_str sna_nil) rfl T.n_list rfl))) (snw_or (snt_cmp (ok_ne (rm_of room)) (sno_e (snd_cb ok_len (sna_cons (sno_n (pv 5)) sna_nil) rfl T.n_len rfl)) sno_int (by rfl)) (snw_or1 (snt_not (snt_chain4 (ok_or2 ok_le (ok_leT (rm_of room))) (ok_lt (rm_of room)) (ok_lt (rm_of room)) sno_int (sno_e (snd_ix (rm_of room) (sno_n (pv 5)) sno_int (fun _ _ => rfl))) (sno_e (snd_ix (rm_of room) (sno_n (pv 5)) sno_int (fun _ _ => rfl))) (sno_n (pv 2)))))))) (sns_one (sns_ret snd_bl)) sns_nil) (sns_cons (sns_if (snt_not (snt_cmp (ok_lt (rm_of room)) (sno_n (pv 3)) (sno_e (snd_tup (snv_cons (snd_ix (rm_of room) (sno_n (pv 5)) sno_int (fun _ _ => rfl)) (snv_cons (snd_ix (rm_of room) (sno_n (pv 5)) sno_int (fun _ _ => rfl)) snv_nil)))) (by rfl))) (sns_one (sns_ret snd_bl)) sns_nil) (sns_one (sns_set (i := 3) (snd_tup (snv_cons (snd_ix (rm_of room) (sno_n (pv 5)) sno_int (fun _ _ => rfl)) (snv_cons (snd_ix (rm_of room) (sno_n (pv 5)) sno_int (fun _ _ => rfl)) snv_nil))) (fun _ => by decide) sc_l_is_page.nd rfl (by first | exact Or.inl rfl | exact Or.inr rfl))))))) (sns_one (sns_ret snd_bl)))))))
theorem G_size_in (T : Tp K mg) : FnG P w K mg base 1 T.a_size_in T.fd_size_in ps_size_in (spP K 1 (F_size_in T.C)) :=
  fn_pure T.F_size_in sc_size_in (by decide) fun cdv A outer s H E room gd => by
    unfold sv_size_in
    exact (sns_cons (sns_if (SndW.t (snw_or (snt_cmp (ok_ne (rm_of room)) (sno_e (snd_cb ok_len (sna_cons (sno_n (pv 0)) sna_nil) rfl T.n_len rfl)) sno_int (by rfl)) (snw_or (snt_notin (rm_of room) (sno_e (snd_ix (rm_of room) (sno_n (pv 0)) sno_int (fun _ _ => rfl))) (sno_gs rfl (T.c_DIGITS).choose_spec)) (snw_or1 (snt_cmp (ok_ne (rm_of room)) (sno_e (snd_ix (rm_of room) (sno_n (pv 0)) sno_int (fun _ _ => rfl))) sno_str (by rfl)))))) (sns_one (sns_ret snd_non)) sns_nil) (sns_one (sns_ret (snd_ct ok_int (sna_cons (sno_e (snd_ix (rm_of room) (sno_n (pv 0)) sno_int (fun _ _ => rfl))) sna_nil) rfl T.n_int rfl))))
theorem G_road_in (T : Tp K mg) : FnG P w K mg base 1 T.a_road_in T.fd_road_in ps_road_in (spP K 1 (F_road_in T.C)) :=
  fn_pure T.F_road_in sc_road_in (by decide) fun cdv A outer s H E room gd => by
    unfold sv_road_in
    exact (sns_cons (sns_if (SndW.t (snw_or (snt_cmp (ok_ne (rm_of room)) (sno_e (snd_cb ok_len (sna_cons (sno_n (pv 0)) sna_nil) rfl T.n_len rfl)) sno_int (by rfl)) (snw_or (snt_notin (rm_of room) (sno_e (snd_ix (rm_of room) (sno_n (pv 0)) sno_int (fun _ _ => rfl))) (sno_gs rfl (T.c_DIGITS).choose_spec)) (snw_or (snt_cmp (ok_ne (rm_of room)) (sno_e (snd_ix (rm_of room) (sno_n (pv 0)) sno_int (fun _ _ => rfl))) sno_str (by rfl)) (snw_or1 (snt_notin (rm_of room) (sno_e (snd_ix (rm_of room) (sno_n (pv 0)) sno_int (fun _ _ => rfl))) (sno_gs rfl (T.c_DIGITS).choose_spec))))))) (sns_one (sns_ret snd_non)) sns_nil) (sns_one (sns_ret (snd_tup (snv_cons (snd_ct ok_int (sna_cons (sno_e (snd_ix (rm_of room) (sno_n (pv 0)) sno_int (fun _ _ => rfl))) sna_nil) rfl T.n_int rfl) (snv_cons (snd_ct ok_int (sna_cons (sno_e (snd_ix (rm_of room) (sno_n (pv 0)) sno_int (fun _ _ => rfl))) sna_nil) rfl T.n_int rfl) (snv_cons (snd_ix (rm_of room) (sno_n (pv 0)) sno_int (fun _ _ => rfl)) snv_nil)))))))
theorem G_is_integer (T : Tp K mg) : FnG P w K mg base 1 T.a_is_integer T.fd_is_integer ps_is_integer (spP K 1 (F_is_integer T.C)) :=
  fn_pure T.F_is_integer sc_is_integer (by decide) fun cdv A outer s H E room gd => by
    unfold sv_is_integer
    exact (sns_one (sns_ret (snd_and (snd_isi (isT_ok) (pe_bltn (v := .ty "int") (u := .type "int") rfl T.n_int rfl rfl) (.ty "int") (sno_n (pv 0)) rfl T.n_isinstance rfl) (snd_one (snd_not (snd_isi (isT_ok) (pe_bltn (v := .ty "bool") (u := .type "bool") rfl T.n_bool rfl rfl) (.ty "bool") (sno_n (pv 0)) rfl T.n_isinstance rfl))))))
theorem G_is_integer_from (T : Tp K mg) : FnG P w K mg base 4 T.a_is_integer_from T.fd_is_integer_from ps_is_integer_from (spP K 3 (F_is_integer_from T.C)) :=
  fn_pure T.F_is_integer_from sc_is_integer_from (by decide) fun cdv A outer s H E room gd => by
    unfold sv_is_integer_from
    exact (sns_one (sns_ret (snd_and (snd_call (fun_at (G_is_integer T) (room.mono (by decide)) gd (kb_is_integer T) (takes_of rfl rfl rfl rfl) (fun l h => by match l, h with | [_], _ => rfl)) (snv_cons (snd_n (pv 0)) snv_nil) lenV1 rfl T.g_is_integer T.kp_is_integer) (snd_one (snd_chain (ok_or2 ok_le (ok_leT (rm_of room))) (ok_or2 ok_le (ok_leT (rm_of room))) (sno_n (pv 1)) (sno_n (pv 0)) (sno_n (pv 2)))))))
theorem G_is_size (T : Tp K mg) : FnG P w K mg base 7 T.a_is_size T.fd_is_size ps_is_size (spP K 1 (F_is_size T.C)) :=
  fn_pure T.F_is_size sc_is_size (by decide) fun cdv A outer s H E room gd => by
    unfold sv_is_size
    exact (sns_one (sns_ret (snd_call (fun_at (G_is_integer_from T) (room.mono (by decide)) gd (kb_is_integer_from T) (takes_of rfl rfl rfl rfl) (fun l h => by match l, h with | [_, _, _], _ => rfl)) (snv_cons (snd_n (pv 0)) (snv_cons snd_int (snv_cons (snd_gi rfl (T.c_MOST_PLACES).choose_spec) snv_nil))) lenV3 rfl T.g_is_integer_from T.kp_is_integer_from)))
theorem G_is_place (T : Tp K mg) : FnG P w K mg base 7 T.a_is_place T.fd_is_place ps_is_place (spP K 2 (F_is_place T.C)) :=
  fn_pure T.F_is_place sc_is_place (by decide) fun cdv A outer s H E room gd => by
    unfold sv_is_place
    exact (sns_one (sns_ret (snd_call (fun_at (G_is_integer_from T) (room.mono (by decide)) gd (kb_is_integer_from T) (takes_of rfl rfl rfl rfl) (fun l h => by match l, h with | [_, _, _], _ => rfl)) (snv_cons (snd_n (pv 0)) (snv_cons snd_int (snv_cons (snd_bin ok_sub (sno_n (pv 1)) sno_int) snv_nil))) lenV3 rfl T.g_is_integer_from T.kp_is_integer_from)))
theorem G_is_hue (T : Tp K mg) : FnG P w K mg base 1 T.a_is_hue T.fd_is_hue ps_is_hue (spP K 1 (F_is_hue T.C)) :=
  fn_pure T.F_is_hue sc_is_hue (by decide) fun cdv A outer s H E room gd => by
    unfold sv_is_hue
    exact (sns_one (sns_ret (snd_and (snd_isi (isT_ok) (pe_bltn (v := .ty "str") (u := .type "str") rfl T.n_str rfl rfl) (.ty "str") (sno_n (pv 0)) rfl T.n_isinstance rfl) (snd_and (snd_cmp (ok_eq (rm_of room)) (sno_e (snd_cb ok_len (sna_cons (sno_n (pv 0)) sna_nil) rfl T.n_len rfl)) sno_int (by rfl)) (snd_one (snd_in (rm_of room) (sno_n (pv 0)) (sno_gs rfl (T.c_HUES).choose_spec)))))))
theorem G_is_road (T : Tp K mg) : FnG P w K mg base 10 T.a_is_road T.fd_is_road ps_is_road (spP K 2 (F_is_road T.C)) :=
  fn_pure T.F_is_road sc_is_road (by decide) fun cdv A outer s H E room gd => by
    unfold sv_is_road
    exact (sns_cons (sns_if (SndW.t (snw_or (snt_not (snt_tru (sno_e (snd_isi (isT_ok) (pe_bltn (v := .ty "tuple") (u := .type "tuple") rfl T.n_tuple rfl rfl) (.ty "tuple") (sno_n (pv 0)) rfl T.n_isinstance rfl)) (fun _ => rfl))) (snw_or1 (snt_cmp (ok_ne (rm_of room)) (sno_e (snd_cb ok_len (sna_cons (sno_n (pv 0)) sna_nil) rfl T.n_len rfl)) sno_int (by rfl))))) (sns_one (sns_ret snd_bl)) sns_nil) (sns_cons (sns_tgt (snd_n (pv 0)) (sng_t rfl (sngs_cons (sng_n (pg_name (i := 2) sc_is_road.nd rfl (by first | exact Or.inl rfl | exact Or.inr rfl))) (sngs_cons (sng_n (pg_name (i := 3) sc_is_road.nd rfl (by first | exact Or.inl rfl | exact Or.inr rfl))) (sngs_cons (sng_n (pg_name (i := 4) sc_is_road.nd rfl (by first | exact Or.inl rfl | exact Or.inr rfl))) sngs_nil)))) (fun _ => by decide)) (sns_one (sns_ret (snd_and (snd_call (fun_at (G_is_place T) (room.mono (by decide)) gd (kb_is_place T) (takes_of rfl rfl rfl rfl) (fun l h => by match l, h with | [_, _], _ => rfl)) (snv_cons (snd_n (pv 2)) (snv_cons (snd_n (pv 1)) snv_nil)) lenV2 rfl T.g_is_place T.kp_is_place) (snd_and (snd_call (fun_at (G_is_place T) (room.mono (by decide)) gd (kb_is_place T) (takes_of rfl rfl rfl rfl) (fun l h => by match l, h with | [_, _], _ => rfl)) (snv_cons (snd_n (pv 3)) (snv_cons (snd_n (pv 1)) snv_nil)) lenV2 rfl T.g_is_place T.kp_is_place) (snd_and (snd_cmp (ok_lt (rm_of room)) (sno_n (pv 2)) (sno_n (pv 3)) (by rfl)) (snd_one (snd_call (fun_at (G_is_hue T) (room.mono (by decide)) gd (kb_is_hue T) (takes_of rfl rfl rfl rfl) (fun l h => by match l, h with | [_], _ => rfl)) (snv_cons (snd_n (pv 4)) snv_nil) lenV1 rfl T.g_is_hue T.kp_is_hue)))))))))
theorem G_first_wrong_road (T : Tp K mg) : FnG P w K mg base 13 T.a_first_wrong_road T.fd_first_wrong_road ps_first_wrong_road (spP K 2 (F_first_wrong_road T.C)) :=
  fn_pure T.F_first_wrong_road sc_first_wrong_road (by decide) fun cdv A outer s H E room gd => by
    unfold sv_first_wrong_road
    exact (sns_cons (sns_for (passes_of rfl) rfl (sni_en (snd_n (pv 0)) rfl T.n_enumerate) (sng_t rfl (sngs_cons (sng_n (pg_name (i := 2) sc_first_wrong_road.nd rfl (by first | exact Or.inl rfl | exact Or.inr rfl))) (sngs_cons (sng_n (pg_name (i := 3) sc_first_wrong_road.nd rfl (by first | exact Or.inl rfl | exact Or.inr rfl))) sngs_nil))) (fun _ => by decide) (sns_cons (sns_if (snt_not (snt_tru (sno_e (snd_call (fun_at (G_is_road T) (room.mono (by decide)) gd (kb_is_road T) (takes_of rfl rfl rfl rfl) (fun l h => by match l, h with | [_, _], _ => rfl)) (snv_cons (snd_n (pv 3)) (snv_cons (snd_n (pv 1)) snv_nil)) lenV2 rfl T.g_is_road T.kp_is_road)) (fun _ => rfl))) (sns_one (sns_ret (snd_n (pv 2)))) sns_nil) (sns_one (sns_if (SndW.t (snw_and (snt_cmp ok_gt (sno_n (pv 2)) sno_int (by rfl)) (snw_and1 (snt_cmp (ok_or2 ok_le (ok_leT (rm_of room))) (sno_e (snd_sl (sno_n (pv 3)) op_none (op_some sno_int))) (sno_e (snd_sl (sno_e (snd_ix (rm_of room) (sno_n (pv 0)) (sno_e (snd_bin ok_sub (sno_n (pv 2)) sno_int)) (fun _ _ => rfl))) op_none (op_some sno_int))) (by rfl))))) (sns_one (sns_ret (snd_n (pv 2)))) sns_nil)))) (sns_one (sns_ret snd_non)))
theorem G_NetD_initD (T : Tp K mg) : FnG P w K mg base 16 T.a_NetD_initD T.fd_NetD_initD ps_NetD_initD (spM K 3 (F_NetD_initD T.C)) :=
  fn_mut T.F_NetD_initD sc_NetD_initD (by decide) fun cdv A outer s H E room gd => by
    unfold sv_NetD_initD
    exact (sns_cons (sns_if (snt_not (snt_tru (sno_e (snd_call (fun_at (G_is_size T) (room.mono (by decide)) gd (kb_is_size T) (takes_of rfl rfl rfl rfl) (fun l h => by match l, h with | [_], _ => rfl)) (snv_cons (snd_n (pv 1)) snv_nil) lenV1 rfl T.g_is_size T.kp_is_size)) (fun _ => rfl))) (sns_one (sns_raiseI (x_InvalidNumber T) rfl (takes_of rfl rfl rfl rfl) (room.mono (by decide)) rfl (snd_n (pv 1)))) sns_nil) (sns_cons (sns_if (snt_not (snt_tru (sno_e (snd_isi (isT_ok) (pe_bltn (v := .ty "tuple") (u := .type "tuple") rfl T.n_tuple rfl rfl) (.ty "tuple") (sno_n (pv 2)) rfl T.n_isinstance rfl)) (fun _ => rfl))) (sns_one (sns_raiseI (x_InvalidRoads T) rfl (takes_of rfl rfl rfl rfl) (room.mono (by decide)) rfl snd_non)) sns_nil) (sns_cons (sns_set (i := 3) (snd_call (fun_at (G_first_wrong_road T) (room.mono (by decide)) gd (kb_first_wrong_road T) (takes_of rfl rfl rfl rfl) (fun l h => by match l, h with | [_, _], _ => rfl)) (snv_cons (snd_n (pv 2)) (snv_cons (snd_n (pv 1)) snv_nil)) lenV2 rfl T.g_first_wrong_road T.kp_first_wrong_road) (fun _ => by decide) sc_NetD_initD.nd rfl (by first | exact Or.inl rfl | exact Or.inr rfl)) (sns_cons (sns_if (snt_cmp ok_notN (sno_n (pv 3)) sno_non (by rfl)) (sns_one (sns_raiseI (x_InvalidRoads T) rfl (takes_of rfl rfl rfl rfl) (room.mono (by decide)) rfl (snd_n (pv 3)))) sns_nil) (sns_cons (sns_fldC T.ins.cl T.na__size (pv 0) (snd_n (pv 1))) (sns_cons (sns_fldC T.ins.cl T.na__roads (pv 0) (snd_n (pv 2))) (sns_one (sns_fldC T.ins.cl T.na__hues (pv 0) (snd_dcT (own := [("low", 4), ("high", 5), ("hue", 6)]) (rm_of room) sc_NetD_initD.nd (blkOk_by (N := N_NetD_initD) (sc := defScope st_NetD_initD) (by decide +kernel)) (sni_seq (snd_n (pv 2))) (fun _ _ _ _ _ => (sng_t rfl (sngs_cons (sng_n (pg_name (i := 4) sc_NetD_initD.nd rfl (by first | exact Or.inl rfl | exact Or.inr rfl))) (sngs_cons (sng_n (pg_name (i := 5) sc_NetD_initD.nd rfl (by first | exact Or.inl rfl | exact Or.inr rfl))) (sngs_cons (sng_n (pg_name (i := 6) sc_NetD_initD.nd rfl (by first | exact Or.inl rfl | exact Or.inr rfl))) sngs_nil))))) (fun _ _ _ _ _ => snts_nil) (fun _ _ _ _ _ => (snd_tup (snv_cons (snd_n (pv 4)) (snv_cons (snd_n (pv 5)) snv_nil)))) (fun _ _ _ _ _ => (snd_n (pv 6))) (by decide))))))))))
theorem G_Net_read (T : Tp K mg) : FnG P w K mg base 19 T.a_Net_read T.fd_Net_read ps_Net_read (spP K 1 (F_Net_read T.C)) :=
  fn_pure T.F_Net_read sc_Net_read (by decide) fun cdv A outer s H E room gd => by
    unfold sv_Net_read
    exact (sns_cons (sns_if (snt_not (snt_tru (sno_e (snd_isi (isT_ok) (pe_bltn (v := .ty "str") (u := .type "str") rfl T.n_str rfl rfl) (.ty "str") (sno_n (pv 0)) rfl T.n_isinstance rfl)) (fun _ => rfl))) (sns_one (sns_raiseI (x_InvalidText T) rfl (takes_of rfl rfl rfl rfl) (room.mono (by decide)) rfl (snd_n (pv 0)))) sns_nil) (sns_cons (sns_set (i := 1) (snd_mt ok_split (sno_n (pv 0)) (sna_cons sno_str sna_nil) (by decide) PySem.F.plainAttrs_str PySem.F.slot_str_split PySem.F.type_str_split) (fun _ => by decide) sc_Net_read.nd rfl (by first | exact Or.inl rfl | exact Or.inr rfl)) (sns_cons (sns_set (i := 2) (snd_call (fun_at (G_size_in T) (room.mono (by decide)) gd (kb_size_in T) (takes_of rfl rfl rfl rfl) (fun l h => by match l, h with | [_], _ => rfl)) (snv_cons (snd_ix (rm_of room) (sno_n (pv 1)) sno_int (fun _ _ => rfl)) snv_nil) lenV1 rfl T.g_size_in T.kp_size_in) (fun _ => by decide) sc_Net_read.nd rfl (by first | exact Or.inl rfl | exact Or.inr rfl)) (sns_cons (sns_set (i := 3) (snd_ct ok_tuple (sna_cons (sno_e (snd_lc (own := [("word", 4)]) rfl sc_Net_read.nd (blkOk_by (N := N_Net_read) (sc := defScope st_Net_read) (by decide +kernel)) (sni_seq (snd_sl (sno_n (pv 1)) (op_some sno_int) op_none)) (fun _ _ _ _ _ => (sng_n (pg_name (i := 4) sc_Net_read.nd rfl (by first | exact Or.inl rfl | exact Or.inr rfl)))) (fun _ _ _ _ _ => snts_nil) (fun _ _ _ _ _ => (snd_call (fun_at (G_road_in T) (room.mono (by decide)) gd (kb_road_in T) takes_WF (fun l h => by match l, h with | [_], _ => rfl)) (snv_cons (snd_n (pv 4)) snv_nil) lenV1 rfl T.g_road_in T.kp_road_in)) (by decide))) sna_nil) rfl T.n_tuple rfl) (fun _ => by decide) sc_Net_read.nd rfl (by first | exact Or.inl rfl | exact Or.inr rfl)) (sns_cons (sns_if (SndW.t (snw_or (snt_not (snt_tru (sno_e (snd_call (fun_at (G_is_size T) (room.mono (by decide)) gd (kb_is_size T) (takes_of rfl rfl rfl rfl) (fun l h => by match l, h with | [_], _ => rfl)) (snv_cons (snd_n (pv 2)) snv_nil) lenV1 rfl T.g_is_size T.kp_is_size)) (fun _ => rfl))) (snw_or1 (snt_cmp ok_notN (sno_e (snd_call (fun_at (G_first_wrong_road T) (room.mono (by decide)) gd (kb_first_wrong_road T) (takes_of rfl rfl rfl rfl) (fun l h => by match l, h with | [_, _], _ => rfl)) (snv_cons (snd_n (pv 3)) (snv_cons (snd_n (pv 2)) snv_nil)) lenV2 rfl T.g_first_wrong_road T.kp_first_wrong_road)) sno_non (by rfl))))) (sns_one (sns_raiseI (x_InvalidText T) rfl (takes_of rfl rfl rfl rfl) (room.mono (by decide)) rfl (snd_n (pv 0)))) sns_nil) (sns_one (sns_ret (snd_make (make_at T.mkN (G_NetD_initD T) (room.mono (by decide)) gd (kb_NetD_initD T) (takes_of rfl rfl rfl rfl) (fun y l h => by match l, h with | [_, _], _ => exact ⟨rfl, rfl⟩)) (snv_cons (snd_n (pv 2)) (snv_cons (snd_n (pv 3)) snv_nil)) (lenV2 ) rfl T.g_Net T.mkN.kp))))))))
theorem G_NetD_strD (T : Tp K mg) : FnG P w K mg base 1 T.a_NetD_strD T.fd_NetD_strD ps_NetD_strD (spP K 1 (F_NetD_strD T.C)) :=
  fn_pure T.F_NetD_strD sc_NetD_strD (by decide) fun cdv A outer s H E room gd => by
    unfold sv_NetD_strD
    exact (sns_cons (by first | exact sns_setLc (i := 1) (own := [("low", 2), ("high", 3), ("hue", 4)]) (fun _ => by decide) rfl rfl rfl rfl sc_NetD_strD.nd  (blkOk_by (N := N_NetD_strD) (sc := defScope st_NetD_strD) (by decide +kernel)) (sni_seq (snd_fld T.ins.cl T.na__roads (sno_n (pv 0)))) (fun _ _ _ _ _ => (sng_t rfl (sngs_cons (sng_n (pg_name (i := 2) sc_NetD_strD.nd rfl (by first | exact Or.inl rfl | exact Or.inr rfl))) (sngs_cons (sng_n (pg_name (i := 3) sc_NetD_strD.nd rfl (by first | exact Or.inl rfl | exact Or.inr rfl))) (sngs_cons (sng_n (pg_name (i := 4) sc_NetD_strD.nd rfl (by first | exact Or.inl rfl | exact Or.inr rfl))) sngs_nil))))) (fun _ _ _ _ _ => snts_nil) (fun _ _ _ _ _ => (snd_js ⟨sno_fmt (sno_n (pv 2)), sno_str, sno_fmt (sno_n (pv 3)), sno_fmt (sno_n (pv 4)), trivial⟩)) (by decide) | exact sns_set (i := 1) (snd_lc (own := [("low", 2), ("high", 3), ("hue", 4)]) rfl sc_NetD_strD.nd (blkOk_by (N := N_NetD_strD) (sc := defScope st_NetD_strD) (by decide +kernel)) (sni_seq (snd_fld T.ins.cl T.na__roads (sno_n (pv 0)))) (fun _ _ _ _ _ => (sng_t rfl (sngs_cons (sng_n (pg_name (i := 2) sc_NetD_strD.nd rfl (by first | exact Or.inl rfl | exact Or.inr rfl))) (sngs_cons (sng_n (pg_name (i := 3) sc_NetD_strD.nd rfl (by first | exact Or.inl rfl | exact Or.inr rfl))) (sngs_cons (sng_n (pg_name (i := 4) sc_NetD_strD.nd rfl (by first | exact Or.inl rfl | exact Or.inr rfl))) sngs_nil))))) (fun _ _ _ _ _ => snts_nil) (fun _ _ _ _ _ => (snd_js ⟨sno_fmt (sno_n (pv 2)), sno_str, sno_fmt (sno_n (pv 3)), sno_fmt (sno_n (pv 4)), trivial⟩)) (by decide)) (fun _ => by decide) sc_NetD_strD.nd rfl (by first | exact Or.inl rfl | exact Or.inr rfl)) (sns_one (sns_ret (snd_mt ok_join sno_str (sna_cons (sno_e (snd_lst (snv_cons (snd_js ⟨sno_fmt (sno_e (snd_fld T.ins.cl T.na__size (sno_n (pv 0)))), sno_str, trivial⟩) (snv_star (snd_n (pv 1)) snv_nil)))) sna_nil) (by decide) PySem.F.plainAttrs_str PySem.F.slot_str_join PySem.F.type_str_join))))
theorem G_l_read (T : Tp K mg) : FnG P w K mg base 22 T.a_l_read T.fd_l_read ps_l_read (spP K 2 (F_l_read T.C)) :=
  fn_pure T.F_l_read sc_l_read (by decide) fun cdv A outer s H E room gd => by
    unfold sv_l_read
    exact (sns_cons (sns_tryAs (i := 2) rfl rfl sc_l_read.nd rfl rfl ⟨rfl, by decide, .inl T.g_InvalidText⟩ (takes_of rfl rfl rfl rfl) (fun _ => by decide) (fun W tk0 pw0 tk pw => (sns_one (sns_set (i := 3) (snd_if (snt_tru (sno_n (pv 1)) (fun _ => rfl)) (snd_staK0 (fun_at (G_Net_read T) (room.mono (by decide)) gd (kb_Net_read_0_text T) tk (fun l h => by match l, h with | [_], _ => rfl)) (pe_glob (v := .ref (T.C 0)) rfl T.g_Net rfl) T.sta_Net_read (snk_cons (snd_n (pv 0)) snk_nil) lenV1) (snd_sta (fun_at (G_Net_read T) (room.mono (by decide)) gd (kb_Net_read T) tk (fun l h => by match l, h with | [_], _ => rfl)) (pe_glob (v := .ref (T.C 0)) rfl T.g_Net rfl) T.sta_Net_read (snv_cons (snd_n (pv 0)) snv_nil) lenV1)) (fun _ => by decide) sc_l_read.nd rfl (by first | exact Or.inl rfl | exact Or.inr rfl)))) (tab_cons T.exm_InvalidText_InvalidText (fun _ => ⟨T.xf_InvalidText, T.no_InvalidText⟩) tab_nil) (sndH_repr (i := 2) rfl (by first | exact Or.inl rfl | exact Or.inr rfl) (by decide) (by decide) rfl T.n_repr (cok_suite (rm_of room) gd))) (sns_one (sns_ret (snd_lst (snv_cons snd_str (snv_cons (snd_cb (cok_reprs (rm_of room) gd) (sna_cons (sno_e (snd_ct (cok_or2 (ok_strO (rm_of room) (near2 (room.mono (by decide)) gd) (G_NetD_strD T) (kb_NetD_strD T) (fun l h => by match l, h with | [_], _ => rfl) T.at_NetD_strD T.fn_NetD_strD) ok_str) (sna_cons (sno_n (pv 3)) sna_nil) rfl T.n_str rfl)) sna_nil) rfl T.n_repr rfl) snv_nil))))))
theorem G_l_right (T : Tp K mg) : FnG P w K mg base 25 T.a_l_right T.fd_l_right ps_l_right (spM K 1 (F_l_right T.C)) :=
  fn_mut T.F_l_right sc_l_right (by decide) fun cdv A outer s H E room gd => by
    unfold sv_l_right
    exact (sns_cons (sns_for (passes_of rfl) rfl (sni_range1 sno_int rfl T.n_range) (sng_n (pg_name (i := 1) sc_l_right.nd rfl (by first | exact Or.inl rfl | exact Or.inr rfl))) (fun _ => by decide) (sns_cons (sns_set (i := 2) (snd_mut (mut_at (G_l_one_of T) (room.mono (by decide)) gd (kb_l_one_of T) (takes_of rfl rfl rfl rfl) (fun l h => by match l, h with | [_, _], _ => rfl)) (pv 0) (snv_cons (snd_lst (snv_cons snd_int (snv_cons snd_int (snv_cons snd_int (snv_cons snd_int (snv_cons snd_int snv_nil)))))) snv_nil) lenV1 rfl T.g_l_one_of T.kp_l_one_of) (fun _ => by decide) sc_l_right.nd rfl (by first | exact Or.inl rfl | exact Or.inr rfl)) (sns_cons (sns_set (i := 3) (snd_call (fun_at (G_l_text T) (room.mono (by decide)) gd (kb_l_text T) (takes_of rfl rfl rfl rfl) (fun l h => by match l, h with | [_, _], _ => rfl)) (snv_cons (snd_n (pv 2)) (snv_cons (snd_sl (sno_e (snd_mut (mut_at (G_l_roads T) (room.mono (by decide)) gd (kb_l_roads T) (takes_of rfl rfl rfl rfl) (fun l h => by match l, h with | [_, _], _ => rfl)) (pv 0) (snv_cons (snd_n (pv 2)) snv_nil) lenV1 rfl T.g_l_roads T.kp_l_roads)) op_none (op_some sno_int)) snv_nil)) lenV2 rfl T.g_l_text T.kp_l_text) (fun _ => by decide) sc_l_right.nd rfl (by first | exact Or.inl rfl | exact Or.inr rfl)) (sns_cons (sns_for (passes_of rfl) rfl (sni_range1 (sno_e (snd_mut (mut_at (G_l_dip T) (room.mono (by decide)) gd (kb_l_dip T) (takes_of rfl rfl rfl rfl) (fun l h => by match l, h with | [_, _], _ => rfl)) (pv 0) (snv_cons snd_int snv_nil) lenV1 rfl T.g_l_dip T.kp_l_dip)) rfl T.n_range) (sng_n (pg_name (i := 4) sc_l_right.nd rfl (by first | exact Or.inl rfl | exact Or.inr rfl))) (fun _ => by decide) (sns_one (sns_set (i := 3) (snd_mut (mut_at (G_l_bent T) (room.mono (by decide)) gd (kb_l_bent T) (takes_of rfl rfl rfl rfl) (fun l h => by match l, h with | [_, _], _ => rfl)) (pv 0) (snv_cons (snd_n (pv 3)) snv_nil) lenV1 rfl T.g_l_bent T.kp_l_bent) (fun _ => by decide) sc_l_right.nd rfl (by first | exact Or.inl rfl | exact Or.inr rfl)))) (sns_cons (sns_if (snt_cmp (ok_eq (rm_of room)) (sno_e (snd_mut (mut_at (G_l_dip T) (room.mono (by decide)) gd (kb_l_dip T) (takes_of rfl rfl rfl rfl) (fun l h => by match l, h with | [_, _], _ => rfl)) (pv 0) (snv_cons snd_int snv_nil) lenV1 rfl T.g_l_dip T.kp_l_dip)) sno_int (by rfl)) (sns_cons (sns_set (i := 6) (snd_lst (snv_cons snd_non (snv_cons snd_int (snv_cons snd_bl (snv_cons (snd_tup snv_nil) (snv_cons (snd_lst (snv_cons (snd_n (pv 3)) snv_nil)) (snv_cons (snd_tup (snv_cons (snd_n (pv 3)) snv_nil)) (snv_cons snd_dt (snv_cons snd_str (snv_cons snd_str (snv_cons snd_str (snv_cons snd_str (snv_cons snd_str (snv_cons snd_str (snv_cons snd_str (snv_cons snd_str snv_nil)))))))))))))))) (fun _ => by decide) sc_l_right.nd rfl (by first | exact Or.inl rfl | exact Or.inr rfl)) (sns_cons (sns_set (i := 6) (snd_bin ok_add (sno_n (pv 6)) (sno_e (snd_lst (snv_cons snd_str (snv_cons snd_str (snv_cons snd_str (snv_cons snd_str (snv_cons snd_str (snv_cons snd_str (snv_cons snd_str (snv_cons snd_str snv_nil))))))))))) (fun _ => by decide) sc_l_right.nd rfl (by first | exact Or.inl rfl | exact Or.inr rfl)) (sns_one (sns_set (i := 3) (snd_mut (mut_at (G_l_one_of T) (room.mono (by decide)) gd (kb_l_one_of T) (takes_of rfl rfl rfl rfl) (fun l h => by match l, h with | [_, _], _ => rfl)) (pv 0) (snv_cons (snd_bin ok_add (sno_n (pv 6)) (sno_e (snd_lst (snv_cons snd_str (snv_cons snd_str (snv_cons snd_str (snv_cons snd_str (snv_cons snd_str snv_nil)))))))) snv_nil) lenV1 rfl T.g_l_one_of T.kp_l_one_of) (fun _ => by decide) sc_l_right.nd rfl (by first | exact Or.inl rfl | exact Or.inr rfl))))) sns_nil) (sns_cons (sns_set (i := 5) (snd_lst (snv_cons (snd_if (snt_tru (sno_e (snd_call (fun_at (G_l_is_page T) (room.mono (by decide)) gd (kb_l_is_page T) (takes_of rfl rfl rfl rfl) (fun l h => by match l, h with | [_], _ => rfl)) (snv_cons (snd_n (pv 3)) snv_nil) lenV1 rfl T.g_l_is_page T.kp_l_is_page)) (fun _ => rfl)) snd_str snd_str) (snv_cons (snd_cb (cok_reprs (rm_of room) gd) (sna_cons (sno_n (pv 3)) sna_nil) rfl T.n_repr rfl) snv_nil))) (fun _ => by decide) sc_l_right.nd rfl (by first | exact Or.inl rfl | exact Or.inr rfl)) (sns_one (sns_if (snt_cmp (ok_ne (rm_of room)) (sno_e (snd_lst (snv_cons (snd_call (fun_at (G_l_read T) (room.mono (by decide)) gd (kb_l_read T) (takes_of rfl rfl rfl rfl) (fun l h => by match l, h with | [_, _], _ => rfl)) (snv_cons (snd_n (pv 3)) (snv_cons snd_bl snv_nil)) lenV2 rfl T.g_l_read T.kp_l_read) (snv_cons (snd_call (fun_at (G_l_read T) (room.mono (by decide)) gd (kb_l_read T) (takes_of rfl rfl rfl rfl) (fun l h => by match l, h with | [_, _], _ => rfl)) (snv_cons (snd_n (pv 3)) (snv_cons snd_bl snv_nil)) lenV2 rfl T.g_l_read T.kp_l_read) snv_nil)))) (sno_e (snd_lst (snv_cons (snd_n (pv 5)) (snv_cons (snd_n (pv 5)) snv_nil)))) (by rfl)) (sns_one (sns_ret snd_bl)) sns_nil)))))))) (sns_one (sns_ret snd_bl)))
theorem G_l_jar (T : Tp K mg) : FnG P w K mg base 1 T.a_l_jar T.fd_l_jar ps_l_jar (spP K 2 (F_l_jar T.C)) :=
  fn_pure T.F_l_jar sc_l_jar (by decide) fun cdv A outer s H E room gd => by
    unfold sv_l_jar
    exact (sns_cons (sns_set (i := 2) (snd_if (snt_cmp (ok_lt (rm_of room)) (sno_n (pv 1)) (sno_e (snd_cb ok_len (sna_cons (sno_n (pv 0)) sna_nil) rfl T.n_len rfl)) (by rfl)) (snd_ix (rm_of room) (sno_n (pv 0)) (sno_n (pv 1)) (fun _ _ => rfl)) (snd_bin ok_add (sno_e (snd_bin ok_mul sno_int (sno_n (pv 1)))) sno_int)) (fun _ => by decide) sc_l_jar.nd rfl (by first | exact Or.inl rfl | exact Or.inr rfl)) (sns_cons (sns_set (i := 3) (snd_bin ok_add sno_int (sno_e (snd_bin ok_mul sno_int (sno_n (pv 1))))) (fun _ => by decide) sc_l_jar.nd rfl (by first | exact Or.inl rfl | exact Or.inr rfl)) (sns_cons (sns_for (passes_of rfl) rfl (sni_seq (snd_bin ok_add (sno_e (snd_sl (sno_n (pv 0)) op_none (op_some sno_int))) (sno_e (snd_lst (snv_cons (snd_n (pv 2)) snv_nil))))) (sng_n (pg_name (i := 4) sc_l_jar.nd rfl (by first | exact Or.inl rfl | exact Or.inr rfl))) (fun _ => by decide) (sns_one (sns_set (i := 3) (snd_bin ok_mod (sno_e (snd_ct ok_int (sna_cons (sno_e (snd_bin ok_add (sno_e (snd_bin ok_mul (sno_n (pv 3)) sno_int)) (sno_n (pv 4)))) sna_nil) rfl T.n_int rfl)) sno_int) (fun _ => by decide) sc_l_jar.nd rfl (by first | exact Or.inl rfl | exact Or.inr rfl)))) (sns_one (sns_ret (snd_lst (snv_cons (snd_if (SndW.t (snw_or (snt_cmp (ok_lt (rm_of room)) (sno_n (pv 2)) sno_int (by rfl)) (snw_or1 (snt_cmp ok_ge (sno_n (pv 2)) (sno_e (snd_bin ok_pow sno_int sno_int)) (by rfl))))) (snd_cb ok_abs (sna_cons (sno_n (pv 2)) sna_nil) rfl T.n_abs rfl) snd_int) (snv_cons (snd_n (pv 3)) (snv_cons snd_int snv_nil)))))))))
theorem G_law (T : Tp K mg) : FnG P w K mg base 28 T.a_law T.fd_law ps_law (spP K 1 (F_law T.C)) :=
  fn_pure T.F_law sc_law (by decide) fun cdv A outer s H E room gd => by
    unfold sv_law
    exact (sns_one (sns_ret (snd_cb (ok_all (rm_of room)) (sna_cons (sno_e (snd_lc (own := [("_law_turn", 1)]) rfl sc_law.nd (blkOk_by (N := N_law) (sc := defScope st_law) (by decide +kernel)) (sni_range1 (sno_e (snd_cb (ok_max (rm_of room)) (sna_cons sno_int (sna_cons (sno_e (snd_cb (ok_min (rm_of room)) (sna_cons (sno_e (snd_cb ok_len (sna_cons (sno_n (pv 0)) sna_nil) rfl T.n_len rfl)) (sna_cons sno_int sna_nil)) rfl T.n_min rfl)) sna_nil)) rfl T.n_max rfl)) rfl T.n_range) (fun _ _ _ _ _ => (sng_n (pg_name (i := 1) sc_law.nd rfl (by first | exact Or.inl rfl | exact Or.inr rfl)))) (fun _ _ _ _ _ => snts_nil) (fun _ _ _ _ _ => (snd_mut1 (mut_at (G_l_right T) (room.mono (by decide)) gd (kb_l_right T) takes_WF (fun l h => by match l, h with | [_], _ => rfl)) (snd_call (fun_at (G_l_jar T) (room.mono (by decide)) gd (kb_l_jar T) takes_WF (fun l h => by match l, h with | [_, _], _ => rfl)) (snv_cons (snd_n (pv 0)) (snv_cons (snd_n (pv 1)) snv_nil)) lenV2 rfl T.g_l_jar T.kp_l_jar) rfl T.g_l_right T.kp_l_right)) (by decide))) sna_nil) rfl T.n_all rfl)))
end
end Mp
set_option Elab.async false
set_option linter.all false
set_option maxRecDepth 100000
namespace Mp
open PySem PySem.Spec PyProof.Rows L2 Evl
def M_l_dip (jar : List Int) (top : Int) : R (Int × List Int) := match jar with
  | [a, b, c] => R.grd (0 < top ∧ top < 1073741824) (if 0 < a then .ok (a % top, [a / top, b, c + 1]) else .ok ((b * 48271 + 60013 * (c + 1)) % 2147483399 / 512 % top, [a, (b * 48271 + 60013 * (c + 1)) % 2147483399, c + 1]))
  | _ => .stuck
theorem S_l_dip (C : Nat → Addr) (jar : List Int) (top : Int) : RefM (.lst (jar.map D.int)) (fun z => .val (D.int z)) (fun j => .lst (j.map D.int)) (F_l_dip C (.lst (jar.map D.int)) [D.int top]) (M_l_dip jar top) := by
  unfold M_l_dip
  split
  · rename_i a b c
    unfold R.grd
    split
    · rename_i h
      by_cases ha : 0 < a
      · rw [if_pos ha]
        show _ = (foR _, Own.lst _)
        simp [F_l_dip, sv_l_dip, b_ok, b_stk, b_exc, s_ok, s_stk, s_exc, t_nx, t_ret, t_bk, t_ct, t_exc, t_stk, a_sNil, a_sStk, a_sCons, a_sRet, a_sRetN, a_sDrop, a_sSet, a_sIf, k_sif1, k_sif0, a_sFor, a_sTgt, a_sPar, a_eC, a_oC, a_oE, a_e1, a_e2, k_e2, a_e3, k_e3, k_e3b, k_e3t, k_e3f, a_tv, a_tTr, a_tTrO, a_tAnd, k_and1, k_and0, a_tOr, k_or1, k_or0, a_tNot, a_tT, a_eAnd, k_eand1, k_eand0, a_eOr, k_eor1, k_eor0, a_eNot, a_eIf, k_eif1, k_eif0, a_eIx, a_eCB, a_aNil, a_aCons, k_a, a_vNil, a_vCons, k_v, a_vStar, k_vs1, k_vs2, k_vs3, a_lNil, a_lCons, k_l, a_eTup, a_eLst, a_pNone, a_pSome, a_eSl, k_sl, k_sl2, k_sl3, a_eCall, k_call, k_call2, a_eMut1, a_eMake, k_make, k_make2, a_eMeth, k_meth, k_meth2, k_meth3, a_eProp, a_eMt, k_mt, k_mt2, a_eDT, a_iSeq, a_iEn, a_iRange1, a_iRange2, k_r2, a_two, a_oN, a_eN, a_rdS, a_eMut, a_eApp, a_sSetIx, a_sDput, a_sFldC, a_gN, a_rd, runP, runM, startR, startM, foOf, ownOf, rdAll, ofFO, ofFO0, dIx, atI, ixN, dSl, okR, dAdd, dSub, dMul, okMul, dDiv, dMod, dPow, dLt, dGt, dGe, dLe, dMin, dMax, dAbs, dInt, dStr, dLen, dDivmod, dAll, dOr, dOr2, dListOf, dListStr, dTupOf, dIsN, dNotN, isNon, vB, vI, vS, Rv.data, Own.data, cellOf, sel, truD, isDct, gT, gIx, gSeq, wipeR, ha, h.1, h.2, foR]
      · rw [if_neg ha]
        show _ = (foR _, Own.lst _)
        simp [F_l_dip, sv_l_dip, b_ok, b_stk, b_exc, s_ok, s_stk, s_exc, t_nx, t_ret, t_bk, t_ct, t_exc, t_stk, a_sNil, a_sStk, a_sCons, a_sRet, a_sRetN, a_sDrop, a_sSet, a_sIf, k_sif1, k_sif0, a_sFor, a_sTgt, a_sPar, a_eC, a_oC, a_oE, a_e1, a_e2, k_e2, a_e3, k_e3, k_e3b, k_e3t, k_e3f, a_tv, a_tTr, a_tTrO, a_tAnd, k_and1, k_and0, a_tOr, k_or1, k_or0, a_tNot, a_tT, a_eAnd, k_eand1, k_eand0, a_eOr, k_eor1, k_eor0, a_eNot, a_eIf, k_eif1, k_eif0, a_eIx, a_eCB, a_aNil, a_aCons, k_a, a_vNil, a_vCons, k_v, a_vStar, k_vs1, k_vs2, k_vs3, a_lNil, a_lCons, k_l, a_eTup, a_eLst, a_pNone, a_pSome, a_eSl, k_sl, k_sl2, k_sl3, a_eCall, k_call, k_call2, a_eMut1, a_eMake, k_make, k_make2, a_eMeth, k_meth, k_meth2, k_meth3, a_eProp, a_eMt, k_mt, k_mt2, a_eDT, a_iSeq, a_iEn, a_iRange1, a_iRange2, k_r2, a_two, a_oN, a_eN, a_rdS, a_eMut, a_eApp, a_sSetIx, a_sDput, a_sFldC, a_gN, a_rd, runP, runM, startR, startM, foOf, ownOf, rdAll, ofFO, ofFO0, dIx, atI, ixN, dSl, okR, dAdd, dSub, dMul, okMul, dDiv, dMod, dPow, dLt, dGt, dGe, dLe, dMin, dMax, dAbs, dInt, dStr, dLen, dDivmod, dAll, dOr, dOr2, dListOf, dListStr, dTupOf, dIsN, dNotN, isNon, vB, vI, vS, Rv.data, Own.data, cellOf, sel, truD, isDct, gT, gIx, gSeq, wipeR, ha, h.1, h.2, foR]
    · trivial
  · trivial
theorem M_dip_ok (a b c top : Int) (h1 : 0 < top) (h2 : top < 1073741824) : ∃ v a' b' c', M_l_dip [a, b, c] top = .ok (v, [a', b', c']) ∧ 0 ≤ v ∧ v < top := by
  have hm : ∀ x : Int, 0 ≤ x % top ∧ x % top < top := fun x => ⟨Int.emod_nonneg _ (by omega), Int.emod_lt_of_pos _ h1⟩
  by_cases ha : 0 < a
  · exact ⟨_, _, _, _, (R.grd_pos ⟨h1, h2⟩).trans (if_pos ha), hm _⟩
  · exact ⟨_, _, _, _, (R.grd_pos ⟨h1, h2⟩).trans (if_neg ha), hm _⟩
end Mp
set_option Elab.async false
set_option linter.all false
set_option maxRecDepth 100000
namespace Mp
open PySem PySem.Spec PyProof.Rows L2 Evl
structure TNet where
  size : Int
  roads : List ((Int × Int × Str))
  hues : List ((Int × Int) × Str)
abbrev oNet (C : Nat → Addr) (n : TNet) : Own := .ins (C 0) [("_size", D.int n.size), ("_roads", (eT (e3T D.int D.int D.str)) n.roads), ("_hues", (fun l => D.dT (eDT' k2I D.str l)) n.hues)]
abbrev eNet (C : Nat → Addr) (n : TNet) : D := .ins (C 0) [("_size", D.int n.size), ("_roads", (eT (e3T D.int D.int D.str)) n.roads), ("_hues", (fun l => D.dT (eDT' k2I D.str l)) n.hues)]
theorem f_Net0 {a0 a1 a2 : D} {C : Addr} : dFld C "_size" (.ins C [("_size", a0), ("_roads", a1), ("_hues", a2)]) = some (.val a0) := by rw [y_fldC]; rfl
theorem f_Net1 {a0 a1 a2 : D} {C : Addr} : dFld C "_roads" (.ins C [("_size", a0), ("_roads", a1), ("_hues", a2)]) = some (.val a1) := by rw [y_fldC]; rfl
theorem f_Net2 {a0 a1 a2 : D} {C : Addr} : dFld C "_hues" (.ins C [("_size", a0), ("_roads", a1), ("_hues", a2)]) = some (.val a2) := by rw [y_fldC]; rfl
theorem p_Net0 {a0 : D} : putFD "_size" a0 ([] : List (Str × D)) = ([("_size", a0)] : List (Str × D)) := rfl
theorem p_Net1 {a0 a1 : D} : putFD "_roads" a1 ([("_size", a0)] : List (Str × D)) = ([("_size", a0), ("_roads", a1)] : List (Str × D)) := rfl
theorem p_Net2 {a0 a1 a2 : D} : putFD "_hues" a2 ([("_size", a0), ("_roads", a1)] : List (Str × D)) = ([("_size", a0), ("_roads", a1), ("_hues", a2)] : List (Str × D)) := rfl
local macro_rules | `(tactic| walk_at "sx") => `(tactic| try simp only [x_qP, x_bok, x_bas, x_qB, x_ofV, x_eC, x_oC, x_oN, x_qN, x_qNo, x_eN, x_qNE, x_qNEo, x_rd, x_rdS, x_qD, x_qDo, x_oE, x_qOE, x_e1, x_q1, x_qR1, x_two, x_qR2, x_e2, x_q2, x_q2b, x_e3, x_q3, x_q3b, x_q3c, x_tv, x_qTv, x_tTr, x_qTr, x_qTr1, x_qTr2, x_tTrO, x_qTO, x_qTO1, x_tAnd, x_qAnd1, x_qAnd0, x_tOr, x_qOr1, x_qOr0, x_tNot, x_qNot, x_tT, x_eAnd, x_qEAnd, x_eOr, x_qEOr, x_eNot, x_qENot, x_eIf, x_eIx, x_eCB, x_qCB, x_qRL, x_rdN, x_rdC, x_qCons, x_aNil, x_aCons, x_qA, x_qA2, x_vNil, x_vCons, x_qV, x_qV2, x_vStar, x_qVS1, x_qVS2, x_qVS3, x_qVSe, x_lNil, x_lCons, x_qL, x_qL2, x_eTup, x_eLst, x_pNone, x_pSome, x_qS1, x_qSI, x_eSl, x_qSl, x_qSl2, x_qSl3, x_qSl4, x_selN, x_selC, x_qSel, x_eCall, x_qCall, x_qCall2, x_eMake, x_qMk, x_qMk2, x_eMeth, x_qMeth, x_qMethn, x_qMeth2, x_qMeth3, x_eProp, x_qProp, x_eMt, x_qMt, x_qMt2s, x_qMt2i, x_qMt2l, x_qMt2d, x_qMt2k, x_qMt3, x_qMt4, x_eDT, x_eDK, x_iSeq, x_qSeq1, x_qSeq2, x_qSeq3, x_qSeq4, x_iEn, x_qEn1, x_qEn2, x_qEn3, x_iRange1, x_qRg, x_iRange2, x_qRh, x_qRh1, x_eComp, x_eDc, x_eMut, x_qMut, x_qMut1, x_qMut2, x_eMut1, x_qMt1, x_eApp, x_qApp, x_qApp1, x_eGet1, x_qG, x_qG0, x_qG0k, x_qG1, x_eJs, x_qJs, x_eJoinN, x_eJoinC, x_qJ, x_oFmt, x_qF, x_dv, x_dn, x_ol, x_ot, x_ok, x_oi, x_cv, x_cn, x_map, y_addI, y_subI, y_negI, y_ltI, y_leI, y_gtI, y_geI, y_leO, y_leT, y_leTo, y_toIntsN, y_toIntsC, y_isN, y_isNi, y_isNs, y_isNt, y_notN, y_notNi, y_notNs, y_eqI, y_neI, y_eOm, y_eOs, y_enum, x_keep, x_kv, x_ku, x_ko, x_resN, x_resC, x_wipN, x_wipC, y_lenL, y_lenT, y_lenC, y_listL, y_listT, y_tupL, y_tupT, y_all, y_min, y_max, y_abs, y_intI, y_cutM, y_slL, y_slT, y_slC, y_truB, y_truI, y_truL, y_truT, y_isi, y_isC, y_ow1_non, y_ow2_non, y_ow1_bl, y_ow2_bl, y_ow1_int, y_ow2_int, y_ow1_str, y_ow2_str, y_ow1_tup, y_ow2_tup, y_ow1_lst, y_ow2_lst, y_ow1_dT, y_ow2_dT, y_ow1_dK, y_ow2_dK, y_ow1_scr, y_ow2_scr, y_ix2_0, y_iy2_0, y_ix2_1, y_iy2_1, y_ix3_0, y_iy3_0, y_ix3_1, y_iy3_1, y_ix3_2, y_iy3_2, y_ix4_0, y_iy4_0, y_ix4_1, y_iy4_1, y_ix4_2, y_iy4_2, y_ix4_3, y_iy4_3, y_ix5_0, y_iy5_0, y_ix5_1, y_iy5_1, y_ix5_2, y_iy5_2, y_ix5_3, y_iy5_3, y_ix5_4, y_iy5_4, y_tup0, y_tup1, y_tup2, y_tup3, y_tup4, y_tup5, y_tup6, y_tup7, y_tup8, y_tup9, y_tup10, y_tup11, y_tup12, y_lst0, y_len0, y_lenq0, y_lst1, y_len1, y_lenq1, y_lst2, y_len2, y_lenq2, y_lst3, y_len3, y_lenq3, y_lst4, y_len4, y_lenq4, y_lst5, y_len5, y_lenq5, y_lst6, y_len6, y_lenq6, y_lst7, y_len7, y_lenq7, y_lst8, y_lst9, y_lst10, y_lst11, y_lst12, y_lst13, y_lst14, y_lst15, y_lst16, y_lst17, y_lst18, y_lst19, y_lst20, y_lst21, y_lst22, y_lst23, y_lst24, y_lst25, y_lst26, y_lst27, y_isT_int_non, y_isT_int_bl, y_isT_int_int, y_isT_int_str, y_isT_int_tup, y_isT_int_lst, y_isT_str_non, y_isT_str_bl, y_isT_str_int, y_isT_str_str, y_isT_str_tup, y_isT_str_lst, y_isT_list_non, y_isT_list_bl, y_isT_list_int, y_isT_list_str, y_isT_list_tup, y_isT_list_lst, y_isT_tuple_non, y_isT_tuple_bl, y_isT_tuple_int, y_isT_tuple_str, y_isT_tuple_tup, y_isT_tuple_lst, y_isT_bool_non, y_isT_bool_bl, y_isT_bool_int, y_isT_bool_str, y_isT_bool_tup, y_isT_bool_lst, List.getElem?_cons_zero, List.getElem?_cons_succ, List.set_cons_zero, List.set_cons_succ, List.cons_append, List.nil_append, List.append_nil, List.zip_cons_cons, List.zip_nil_left, List.foldl_cons, List.foldl_nil, eT, eL, e2T, e3T, e4T, eD, eU, Option.map_some, x_e4, x_q4, x_q4a, x_q4b, x_q4d, x_q4e, x_eSlR, y_slR, signs_chars, f_Net0, f_Net1, f_Net2, p_Net0, p_Net1, p_Net2])
local macro_rules | `(tactic| walk_at "un") => `(tactic| try simp only [ce0_law, lb0_l_right, lb1_l_right, ce0_l_text, lb0_l_roads, lb1_l_roads, ce0_l_is_page, lb1_l_is_page, ce0_l_number, ct1_l_number, tb0_l_read, ce0_Net_read, lb0_first_wrong_road, ce0_NetD_initD, ck1_NetD_initD, ce0_NetD_strD, lb0_l_jar])
local macro_rules | `(tactic| walk_at "fin") => `(tactic| (simp only [List.map_cons, List.map_nil, List.map_append]; try rfl))
def M_l_jar (cells : List Int) (turn : Int) : R (List (Int)) := retOf (
  R.bind (R.bind ((if (decide (turn < (cells.length : Int))) then R.bind (R.at_ cells turn) fun x => .ok x else R.bind (R.mul 37 turn) fun n => .ok (n + 3) : R (Int))) fun z => .ok z) fun cell =>
  R.bind (R.bind (R.mul 9001 turn) fun n1 => .ok (70003 + n1)) fun mixed =>
  R.bind (R.bind (R.bind (R.cat (cutD cells none (some 5)) [cell]) fun l => .ok l) fun xs => forN (fun (s : (Int)) x1 =>
      R.bind (R.bind (R.mul s 20011) fun n2 => R.bind (R.mod (n2 + x1) 2147482763) fun n3 => .ok n3) fun mixed1 =>
      .ok mixed1) xs mixed) fun (s1 : (Int)) =>
  R.bind (R.bind ((if (decide (cell < 0)) then .ok true else R.bind (R.pow 10 18) fun n4 => .ok (decide (n4 ≤ cell)) : R Bool)) fun k => R.bind ((if k then .ok (if cell < 0 then -cell else cell) else .ok 0 : R (Int))) fun z1 => .ok [z1, s1, 0]) fun v => .ok (.ret v) : R (Ctl Unit Unit (List (Int))))
theorem S_l_jar (C : Nat → Addr) (cells : List Int) (turn : Int) : RefF (fun z => .new (.lst (z.map D.int))) (F_l_jar C [D.scr cells, D.int turn]) (M_l_jar cells turn) := by
  unfold M_l_jar F_l_jar
  refine RefF.of ?_
  rw [show startR 5 [D.scr cells, D.int turn] = ([.val (D.scr cells), .val (D.int turn), .un, .un, .un] : Rho) from rfl]
  unfold sv_l_jar
  refine SR.set (v := fun cell => .val (D.int cell)) (f := fun cell => [.val (D.scr cells), .val (D.int turn), .un, .un, .un]) (by
      refine ERef.pure ?_
      walk_at "sx"
      refine ERef.bind (op_eif (v := fun z => .val (D.int z)) (f := fun _ => [.val (D.scr cells), .val (D.int turn), .un, .un, .un]) (by
          refine ERef.pure ?_
          walk_at "sx"
          refine ERef.bind (op_atC _ _) fun x => ?_
          walk_at "sx"
          refine ERef.ok ?_
          first | exact rfl | (walk_at "fin")) (by
          refine ERef.pure ?_
          walk_at "sx"
          refine ERef.bind (op_mul _ _) fun n => ?_
          walk_at "sx"
          refine ERef.ok ?_
          first | exact rfl | (walk_at "fin"))) fun z => ?_
      walk_at "sx"
      refine ERef.ok ?_
      first | exact rfl | (walk_at "fin")) fun cell => ?_
  walk_at "sx"
  refine SR.set (v := fun mixed => .val (D.int mixed)) (f := fun mixed => [.val (D.scr cells), .val (D.int turn), .val (D.int cell), .un, .un]) (by
      refine ERef.pure ?_
      walk_at "sx"
      refine ERef.bind (op_mul _ _) fun n1 => ?_
      walk_at "sx"
      refine ERef.ok ?_
      first | exact rfl | (walk_at "fin")) fun mixed => ?_
  walk_at "sx"
  refine SR.cons (F1 := fun (s : (Int)) r => ∃ c : Cell, r = [.val (D.scr cells), .val (D.int turn), .val (D.int cell), .val (D.int s), c]) ?_ ?_
  · refine SN.forN (e := D.int) (xs := fun z => z) (s0 := fun _ => mixed) (f := fun _ => [.val (D.scr cells), .val (D.int turn), .val (D.int cell), .val (D.int mixed), .un]) (by
        refine ERef.pure ?_
        walk_at "sx"
        refine ERef.bind (op_cat D.int (cutD cells none (some 5)) [cell]) fun l => ?_
        walk_at "sx"
        refine ERef.ok ?_
        first | exact rfl | (walk_at "fin")) (fun _ => ⟨_, rfl⟩) ?_
    intro s x1 _ hr
    obtain ⟨c, hr⟩ := hr
    subst hr
    refine ⟨[.val (D.scr cells), .val (D.int turn), .val (D.int cell), .val (D.int s), .val (D.int x1)], rfl, ?_⟩
    walk_at "un"
    refine SN.end_ ?_
    refine SN.set (v := fun mixed1 => .val (D.int mixed1)) (f := fun mixed1 => [.val (D.scr cells), .val (D.int turn), .val (D.int cell), .val (D.int s), .val (D.int x1)]) (by
        refine ERef.pure ?_
        walk_at "sx"
        refine ERef.bind (op_mul _ _) fun n2 => ?_
        walk_at "sx"
        refine ERef.bind (op_mod _ _) fun n3 => ?_
        walk_at "sx"
        refine ERef.ok ?_
        first | exact rfl | (walk_at "fin")) fun mixed1 => ?_
    walk_at "sx"
    exact SN.nil ⟨_, rfl⟩
  · intro s1 _ hr
    obtain ⟨c1, hr⟩ := hr
    subst hr
    refine SR.ret (p := fun z => z) (v := fun v => .new (.lst (v.map D.int))) (f := fun v => [.val (D.scr cells), .val (D.int turn), .val (D.int cell), .val (D.int s1), c1]) (by
        refine ERef.pure ?_
        walk_at "sx"
        refine ERef.bind (op_or (by
            refine ERef.pure ?_
            walk_at "sx"
            refine ERef.bind (op_pow _ _) fun n4 => ?_
            walk_at "sx"
            refine ERef.ok ?_
            first | exact rfl | (walk_at "fin"))) fun k => ?_
        walk_at "sx"
        refine ERef.bind (op_eif (v := fun z => .val (D.int z)) (f := fun _ => [.val (D.scr cells), .val (D.int turn), .val (D.int cell), .val (D.int s1), c1]) (by
            refine ERef.pure ?_
            walk_at "sx"
            refine ERef.ok ?_
            first | exact rfl | (walk_at "fin")) (by
            refine ERef.pure ?_
            walk_at "sx"
            refine ERef.ok ?_
            first | exact rfl | (walk_at "fin"))) fun z1 => ?_
        walk_at "sx"
        refine ERef.ok ?_
        first | exact rfl | (walk_at "fin")) fun _ => rfl
def M_l_one_of (jar_here : List (Int)) (some_ : List (Int)) : R (Int × List (Int)) := retM (
  R.bind (R.bind (noX (M_l_dip jar_here (some_.length : Int))) fun p => R.bind (R.at_ some_ p.1) fun x => .ok (x, p.2)) fun v => .ok (.ret v) : R (Ctl Unit Unit (Int × List (Int))))
theorem S_l_one_of (C : Nat → Addr) (jar_here : List (Int)) (some_ : List (Int)) : RefM (.lst (jar_here.map D.int)) (fun z => .val (D.int z)) (fun j => .lst (j.map D.int)) (F_l_one_of C (.lst (jar_here.map D.int)) [(eL D.int) some_]) (M_l_one_of jar_here some_) := by
  unfold M_l_one_of F_l_one_of
  refine RefM.of ?_
  rw [show startM 2 (.lst (jar_here.map D.int)) [(eL D.int) some_] = ([.own (.lst (jar_here.map D.int)), .val ((eL D.int) some_)] : Rho) from rfl]
  unfold sv_l_one_of
  refine SR.ret (p := fun z => z) (v := fun v => .val (D.int v.1)) (f := fun v => [.own (.lst (v.2.map D.int)), .val ((eL D.int) some_)]) (by
      refine ERef.pure ?_
      walk_at "sx"
      refine ERef.bind (op_mut (S_l_dip C jar_here (some_.length : Int))) fun p => ?_
      walk_at "sx"
      refine ERef.bind (op_at D.int some_ p.1) fun x => ?_
      walk_at "sx"
      refine ERef.ok ?_
      first | exact rfl | (walk_at "fin")) fun _ => ⟨rfl, rfl⟩
def M_l_one_of_1 (jar_here : List (Int)) (some_ : List (Str)) : R (Str × List (Int)) := retM (
  R.bind (R.bind (noX (M_l_dip jar_here (some_.length : Int))) fun p => R.bind (R.at_ some_ p.1) fun x => .ok (x, p.2)) fun v => .ok (.ret v) : R (Ctl Unit Unit (Str × List (Int))))
theorem S_l_one_of_1 (C : Nat → Addr) (jar_here : List (Int)) (some_ : List (Str)) : RefM (.lst (jar_here.map D.int)) (fun z => .val (D.str z)) (fun j => .lst (j.map D.int)) (F_l_one_of C (.lst (jar_here.map D.int)) [(eL D.str) some_]) (M_l_one_of_1 jar_here some_) := by
  unfold M_l_one_of_1 F_l_one_of
  refine RefM.of ?_
  rw [show startM 2 (.lst (jar_here.map D.int)) [(eL D.str) some_] = ([.own (.lst (jar_here.map D.int)), .val ((eL D.str) some_)] : Rho) from rfl]
  unfold sv_l_one_of
  refine SR.ret (p := fun z => z) (v := fun v => .val (D.str v.1)) (f := fun v => [.own (.lst (v.2.map D.int)), .val ((eL D.str) some_)]) (by
      refine ERef.pure ?_
      walk_at "sx"
      refine ERef.bind (op_mut (S_l_dip C jar_here (some_.length : Int))) fun p => ?_
      walk_at "sx"
      refine ERef.bind (op_at D.str some_ p.1) fun x => ?_
      walk_at "sx"
      refine ERef.ok ?_
      first | exact rfl | (walk_at "fin")) fun _ => ⟨rfl, rfl⟩
def M_l_roads (jar_here : List (Int)) (size : Int) : R (List ((Int × Int × Str)) × List (Int)) := retM (
  R.bind (R.bind (noX (M_l_one_of jar_here [2, 3, 4, 5])) fun p => R.bind (noX (M_l_one_of_1 p.2 [("ab" : Str), ("ab" : Str), ("abc" : Str), ("abcdef" : Str)])) fun p1 => .ok (p.1, p1.1, [], p1.2)) fun q =>
  R.bind (R.bind (R.bind (R.range1 size) fun xs => .ok xs) fun xs1 => forN (fun (s : (List (Int)) × (List ((Int × Int × Str)))) x =>
      R.bind (R.bind (R.bind (R.range2 (x + 1) size) fun xs2 => .ok xs2) fun xs3 => forN (fun (s1 : (List (Int)) × (List ((Int × Int × Str)))) x1 =>
          R.bind (R.bind (R.bind (noX (M_l_dip s1.1 6)) fun p2 => .ok ((decide (p2.1 < q.1)), p2.2)) fun k => if k.1 then
            R.bind (R.bind (R.listS q.2.1) fun l => R.bind (noX (M_l_one_of_1 k.2 l)) fun p3 => R.bind (R.push s1.2 (x, x1, p3.1)) fun found => .ok (p3.2, found)) fun jar_here1 =>
            .ok (jar_here1.1, jar_here1.2)
          else
            .ok (k.2, s1.2)) fun (s2 : (List (Int)) × (List ((Int × Int × Str)))) =>
          .ok (s2.1, s2.2)) xs3 (s.1, s.2)) fun (s3 : (List (Int)) × (List ((Int × Int × Str)))) =>
      .ok (s3.1, s3.2)) xs1 (q.2.2.2, q.2.2.1)) fun (s4 : (List (Int)) × (List ((Int × Int × Str)))) =>
  R.bind (.ok (s4.2, s4.1)) fun v => .ok (.ret v) : R (Ctl Unit Unit (List ((Int × Int × Str)) × List (Int))))
theorem S_l_roads (C : Nat → Addr) (jar_here : List (Int)) (size : Int) : RefM (.lst (jar_here.map D.int)) (fun z => .val ((eT (e3T D.int D.int D.str)) z)) (fun j => .lst (j.map D.int)) (F_l_roads C (.lst (jar_here.map D.int)) [D.int size]) (M_l_roads jar_here size) := by
  unfold M_l_roads F_l_roads
  refine RefM.of ?_
  rw [show startM 7 (.lst (jar_here.map D.int)) [D.int size] = ([.own (.lst (jar_here.map D.int)), .val (D.int size), .un, .un, .un, .un, .un] : Rho) from rfl]
  unfold sv_l_roads
  refine SR.par (v := fun q => [.val (D.int q.1), .val (D.str q.2.1), .new (.lst (q.2.2.1.map (e3T D.int D.int D.str)))]) (f := fun q => [.own (.lst (q.2.2.2.map D.int)), .val (D.int size), .un, .un, .un, .un, .un]) (by
      refine ERef.pure ?_
      walk_at "sx"
      refine ERef.bind (op_mut (S_l_one_of C jar_here [2, 3, 4, 5])) fun p => ?_
      walk_at "sx"
      refine ERef.bind (op_mut (S_l_one_of_1 C p.2 [("ab" : Str), ("ab" : Str), ("abc" : Str), ("abcdef" : Str)])) fun p1 => ?_
      walk_at "sx"
      refine ERef.ok ?_
      first | exact rfl | (walk_at "fin")) (fun _ => rfl) fun q => ?_
  walk_at "sx"
  refine SR.cons (F1 := fun (s : (List (Int)) × (List ((Int × Int × Str)))) r => ∃ c1 : Cell, ∃ c : Cell, r = [.own (.lst (s.1.map D.int)), .val (D.int size), .val (D.int q.1), .val (D.str q.2.1), .own (.lst (s.2.map (e3T D.int D.int D.str))), c1, c]) ?_ ?_
  · refine SN.forN (e := D.int) (xs := fun z => z) (s0 := fun _ => (q.2.2.2, q.2.2.1)) (f := fun _ => [.own (.lst (q.2.2.2.map D.int)), .val (D.int size), .val (D.int q.1), .val (D.str q.2.1), .own (.lst (q.2.2.1.map (e3T D.int D.int D.str))), .un, .un]) (by
        refine ERef.pure ?_
        walk_at "sx"
        refine ERef.bind (op_rg1 _) fun xs => ?_
        walk_at "sx"
        refine ERef.ok ?_
        first | exact rfl | (walk_at "fin")) (fun _ => ⟨_, _, rfl⟩) ?_
    intro s x _ hr
    obtain ⟨c1, c, hr⟩ := hr
    subst hr
    refine ⟨[.own (.lst (s.1.map D.int)), .val (D.int size), .val (D.int q.1), .val (D.str q.2.1), .own (.lst (s.2.map (e3T D.int D.int D.str))), .val (D.int x), c], rfl, ?_⟩
    walk_at "un"
    refine SN.end_ ?_
    refine SN.cons (F1 := fun (s1 : (List (Int)) × (List ((Int × Int × Str)))) r => ∃ c2 : Cell, r = [.own (.lst (s1.1.map D.int)), .val (D.int size), .val (D.int q.1), .val (D.str q.2.1), .own (.lst (s1.2.map (e3T D.int D.int D.str))), .val (D.int x), c2]) ?_ ?_
    · refine SN.forN (e := D.int) (xs := fun z => z) (s0 := fun _ => (s.1, s.2)) (f := fun _ => [.own (.lst (s.1.map D.int)), .val (D.int size), .val (D.int q.1), .val (D.str q.2.1), .own (.lst (s.2.map (e3T D.int D.int D.str))), .val (D.int x), c]) (by
          refine ERef.pure ?_
          walk_at "sx"
          refine ERef.bind (op_rg2 _ _) fun xs2 => ?_
          walk_at "sx"
          refine ERef.ok ?_
          first | exact rfl | (walk_at "fin")) (fun _ => ⟨_, rfl⟩) ?_
      intro s1 x1 _ hr
      obtain ⟨c2, hr⟩ := hr
      subst hr
      refine ⟨[.own (.lst (s1.1.map D.int)), .val (D.int size), .val (D.int q.1), .val (D.str q.2.1), .own (.lst (s1.2.map (e3T D.int D.int D.str))), .val (D.int x), .val (D.int x1)], rfl, ?_⟩
      walk_at "un"
      refine SN.end_ ?_
      refine SN.cons (F1 := fun (s2 : (List (Int)) × (List ((Int × Int × Str)))) r => r = [.own (.lst (s2.1.map D.int)), .val (D.int size), .val (D.int q.1), .val (D.str q.2.1), .own (.lst (s2.2.map (e3T D.int D.int D.str))), .val (D.int x), .val (D.int x1)]) ?_ ?_
      · refine SN.ifN (cnd := fun (k : Bool × (List (Int))) => k.1) (f := fun k => [.own (.lst (k.2.map D.int)), .val (D.int size), .val (D.int q.1), .val (D.str q.2.1), .own (.lst (s1.2.map (e3T D.int D.int D.str))), .val (D.int x), .val (D.int x1)]) (by
            refine ERef.pure ?_
            walk_at "sx"
            refine ERef.bind (op_mut (S_l_dip C s1.1 6)) fun p2 => ?_
            walk_at "sx"
            refine ERef.ok ?_
            first | exact rfl | (walk_at "fin")) (fun k => ?_) (fun k => ?_)
        · refine SN.end_ ?_
          refine SN.drop (v := fun jar_here1 => .val .non) (f := fun jar_here1 => [.own (.lst (jar_here1.1.map D.int)), .val (D.int size), .val (D.int q.1), .val (D.str q.2.1), .own (.lst (jar_here1.2.map (e3T D.int D.int D.str))), .val (D.int x), .val (D.int x1)]) (by
              refine ERef.pure ?_
              walk_at "sx"
              refine ERef.bind (op_listS _) fun l => ?_
              walk_at "sx"
              refine ERef.bind (op_mut (S_l_one_of_1 C k.2 l)) fun p3 => ?_
              walk_at "sx"
              refine ERef.bind (op_app (e3T D.int D.int D.str) 4 s1.2 (x, x1, p3.1)) fun found => ?_
              walk_at "sx"
              refine ERef.ok ?_
              first | exact rfl | (walk_at "fin")) fun jar_here1 => ?_
          walk_at "sx"
          exact SN.nil rfl
        · exact SN.nil rfl
      · intro s2 _ hr
        subst hr
        exact SN.nil ⟨_, rfl⟩
    · intro s3 _ hr
      obtain ⟨c3, hr⟩ := hr
      subst hr
      exact SN.nil ⟨_, _, rfl⟩
  · intro s4 _ hr
    obtain ⟨c5, c4, hr⟩ := hr
    subst hr
    refine SR.ret (p := fun z => z) (v := fun v => .val ((eT (e3T D.int D.int D.str)) v.1)) (f := fun v => [.own (.lst (v.2.map D.int)), .val (D.int size), .val (D.int q.1), .val (D.str q.2.1), .own (.lst (s4.2.map (e3T D.int D.int D.str))), c5, c4]) (by
        refine ERef.pure ?_
        walk_at "sx"
        refine ERef.ok ?_
        first | exact rfl | (walk_at "fin")) fun _ => ⟨rfl, rfl⟩
def M_l_text (size : Int) (own : List ((Int × Int × Str))) : R (Str) := retOf (
  R.bind (R.bind (R.str size) fun s => R.bind (R.catS s (":" : Str)) fun s1 => R.bind (R.grd (own.length ≤ sizeLine) (noX (compR (fun x => .ok true) (fun x => R.bind (R.str x.1) fun s2 => R.bind (R.catS s2 ("-" : Str)) fun s3 => R.bind (R.str x.2.1) fun s4 => R.bind (R.catS s3 s4) fun s5 => R.bind (R.catS s5 x.2.2) fun s6 => .ok s6) own))) fun ys => R.bind (R.cat [s1] ys) fun l => R.bind (R.join (" " : Str) l) fun s7 => .ok s7) fun v => .ok (.ret v) : R (Ctl Unit Unit (Str)))
theorem S_l_text (C : Nat → Addr) (size : Int) (own : List ((Int × Int × Str))) : RefF (fun z => .val (D.str z)) (F_l_text C [D.int size, (eT (e3T D.int D.int D.str)) own]) (M_l_text size own) := by
  unfold M_l_text F_l_text
  refine RefF.of ?_
  rw [show startR 5 [D.int size, (eT (e3T D.int D.int D.str)) own] = ([.val (D.int size), .val ((eT (e3T D.int D.int D.str)) own), .un, .un, .un] : Rho) from rfl]
  unfold sv_l_text
  refine SR.ret (p := fun z => z) (v := fun v => .val (D.str v)) (f := fun v => [.val (D.int size), .val ((eT (e3T D.int D.int D.str)) own), .un, .un, .un]) (by
      refine ERef.pure ?_
      walk_at "sx"
      refine ERef.bind (op_str _) fun s => ?_
      walk_at "sx"
      refine ERef.bind (op_catS _ _) fun s1 => ?_
      walk_at "sx"
      refine ERef.bind (op_comp (e := (e3T D.int D.int D.str)) (eY := D.str) (r0 := [.val (D.int size), .val ((eT (e3T D.int D.int D.str)) own), .un, .un, .un]) (ve := fun z => .val (D.str z)) (fun _ => rfl) (by first | rfl | (walk_at "sx")) (by first | rfl | (walk_at "sx")) fun x => ⟨[.val (D.int size), .val ((eT (e3T D.int D.int D.str)) own), .val (D.int x.1), .val (D.int x.2.1), .val (D.str x.2.2)], rfl, fun _ => [.val (D.int size), .val ((eT (e3T D.int D.int D.str)) own), .val (D.int x.1), .val (D.int x.2.1), .val (D.str x.2.2)], by
            walk_at "un"
            refine ERef.pure ?_
            walk_at "sx"
            refine ERef.ok ?_
            first | exact rfl | (walk_at "fin"), by first | rfl | (walk_at "sx"), fun _ => [.val (D.int size), .val ((eT (e3T D.int D.int D.str)) own), .val (D.int x.1), .val (D.int x.2.1), .val (D.str x.2.2)], by
            walk_at "un"
            refine ERef.pure ?_
            walk_at "sx"
            refine ERef.bind (op_str _) fun s2 => ?_
            walk_at "sx"
            refine ERef.bind (op_catS _ _) fun s3 => ?_
            walk_at "sx"
            refine ERef.bind (op_str _) fun s4 => ?_
            walk_at "sx"
            refine ERef.bind (op_catS _ _) fun s5 => ?_
            walk_at "sx"
            refine ERef.bind (op_catS _ _) fun s6 => ?_
            walk_at "sx"
            refine ERef.ok ?_
            first | exact rfl | (walk_at "fin"), fun _ => by first | rfl | (walk_at "sx")⟩) fun ys => ?_
      walk_at "sx"
      refine ERef.bind (op_cat D.str [s1] ys) fun l => ?_
      walk_at "sx"
      refine ERef.bind (op_join (" " : Str) l) fun s7 => ?_
      walk_at "sx"
      refine ERef.ok ?_
      first | exact rfl | (walk_at "fin")) fun _ => rfl
def M_l_bent (jar_here : List (Int)) (page : Str) : R (Str × List (Int)) := retM (
  R.bind (R.bind (R.split page (" " : Str)) fun l => R.bind (noX (M_l_dip jar_here 6)) fun p => R.bind (R.lenS page) fun n => R.bind (noX (M_l_dip p.2 (n + 1))) fun p1 => .ok (l, p.1, p1.1, p1.2)) fun q =>
  R.bind (R.bind (noX (M_l_dip q.2.2.2 (q.1.length : Int))) fun p2 => .ok (p2.1, p2.2)) fun k =>
  R.bind (R.bind (R.listS ("0123456789 -:abfgx" : Str)) fun l1 => R.bind (R.cat l1 [(" 0-1a" : Str), ("\n" : Str), ("--" : Str), ("ab" : Str), ("9:" : Str)]) fun l2 => R.bind (noX (M_l_one_of_1 k.2 l2)) fun p3 => .ok (p3.1, p3.2)) fun sign =>
  R.bind (.ok (decide (q.2.1 < 3))) fun k1 => if k1 then
    R.bind (R.bind (R.cutZ page none (some q.2.2.1)) fun s => R.bind (R.at_ [("" : Str), sign.1, sign.1] q.2.1) fun x => R.bind (R.catS s x) fun s1 => R.bind (R.at_ [1, 0, 1] q.2.1) fun x1 => R.bind (R.cutZ page (some (q.2.2.1 + x1)) none) fun s2 => R.bind (R.catS s1 s2) fun s3 => .ok (s3, sign.2)) fun v => .ok (.ret v)
  else
  R.bind (.ok (decide (q.2.1 = 3))) fun k2 => if k2 then
    R.bind (R.bind (R.cat (cutD q.1 none (some k.1)) (cutD q.1 (some (k.1 + 1)) none)) fun l3 => R.bind (R.join (" " : Str) l3) fun s4 => .ok (s4, sign.2)) fun v1 => .ok (.ret v1)
  else
  R.bind (.ok (decide (q.2.1 = 4))) fun k3 => if k3 then
    R.bind (R.bind (R.at_ q.1 k.1) fun x2 => R.bind (R.cat (cutD q.1 none (some k.1)) [x2]) fun l4 => R.bind (R.cat l4 (cutD q.1 (some k.1) none)) fun l5 => R.bind (R.join (" " : Str) l5) fun s5 => .ok (s5, sign.2)) fun v2 => .ok (.ret v2)
  else
  R.bind (R.bind (R.cat (cutD q.1 none (some 1)) ((q.1.drop 1).reverse)) fun l6 => R.bind (R.join (" " : Str) l6) fun s6 => .ok (s6, sign.2)) fun v3 => .ok (.ret v3) : R (Ctl Unit Unit (Str × List (Int))))
theorem S_l_bent (C : Nat → Addr) (jar_here : List (Int)) (page : Str) : RefM (.lst (jar_here.map D.int)) (fun z => .val (D.str z)) (fun j => .lst (j.map D.int)) (F_l_bent C (.lst (jar_here.map D.int)) [D.str page]) (M_l_bent jar_here page) := by
  unfold M_l_bent F_l_bent
  refine RefM.of ?_
  rw [show startM 7 (.lst (jar_here.map D.int)) [D.str page] = ([.own (.lst (jar_here.map D.int)), .val (D.str page), .un, .un, .un, .un, .un] : Rho) from rfl]
  unfold sv_l_bent
  refine SR.par (v := fun q => [.new (.lst (q.1.map D.str)), .val (D.int q.2.1), .val (D.int q.2.2.1)]) (f := fun q => [.own (.lst (q.2.2.2.map D.int)), .val (D.str page), .un, .un, .un, .un, .un]) (by
      refine ERef.pure ?_
      walk_at "sx"
      refine ERef.bind (op_split _ _) fun l => ?_
      walk_at "sx"
      refine ERef.bind (op_mut (S_l_dip C jar_here 6)) fun p => ?_
      walk_at "sx"
      refine ERef.bind (op_lenS _) fun n => ?_
      walk_at "sx"
      refine ERef.bind (op_mut (S_l_dip C p.2 (n + 1))) fun p1 => ?_
      walk_at "sx"
      refine ERef.ok ?_
      first | exact rfl | (walk_at "fin")) (fun _ => rfl) fun q => ?_
  walk_at "sx"
  refine SR.set (v := fun k => .val (D.int k.1)) (f := fun k => [.own (.lst (k.2.map D.int)), .val (D.str page), .own (.lst (q.1.map D.str)), .val (D.int q.2.1), .val (D.int q.2.2.1), .un, .un]) (by
      refine ERef.pure ?_
      walk_at "sx"
      refine ERef.bind (op_mut (S_l_dip C q.2.2.2 (q.1.length : Int))) fun p2 => ?_
      walk_at "sx"
      refine ERef.ok ?_
      first | exact rfl | (walk_at "fin")) fun k => ?_
  walk_at "sx"
  refine SR.set (v := fun sign => .val (D.str sign.1)) (f := fun sign => [.own (.lst (sign.2.map D.int)), .val (D.str page), .own (.lst (q.1.map D.str)), .val (D.int q.2.1), .val (D.int q.2.2.1), .val (D.int k.1), .un]) (by
      refine ERef.pure ?_
      walk_at "sx"
      refine ERef.bind (op_listS _) fun l1 => ?_
      walk_at "sx"
      refine ERef.bind (op_cat D.str l1 [(" 0-1a" : Str), ("\n" : Str), ("--" : Str), ("ab" : Str), ("9:" : Str)]) fun l2 => ?_
      walk_at "sx"
      refine ERef.bind (op_mut (S_l_one_of_1 C k.2 l2)) fun p3 => ?_
      walk_at "sx"
      refine ERef.ok ?_
      first | exact rfl | (walk_at "fin")) fun sign => ?_
  walk_at "sx"
  refine SR.ifX (cnd := fun (k1 : Bool) => k1) (f := fun k1 => [.own (.lst (sign.2.map D.int)), .val (D.str page), .own (.lst (q.1.map D.str)), .val (D.int q.2.1), .val (D.int q.2.2.1), .val (D.int k.1), .val (D.str sign.1)]) (by
      refine ERef.pure ?_
      walk_at "sx"
      refine ERef.ok ?_
      first | exact rfl | (walk_at "fin")) (fun k1 => ?_) (fun k1 => ?_)
  · refine SR.ret (p := fun z => z) (v := fun v => .val (D.str v.1)) (f := fun v => [.own (.lst (v.2.map D.int)), .val (D.str page), .own (.lst (q.1.map D.str)), .val (D.int q.2.1), .val (D.int q.2.2.1), .val (D.int k.1), .val (D.str sign.1)]) (by
        refine ERef.pure ?_
        walk_at "sx"
        refine ERef.bind (op_cutS _ _ _) fun s => ?_
        walk_at "sx"
        refine ERef.bind (op_at D.str [("" : Str), sign.1, sign.1] q.2.1) fun x => ?_
        walk_at "sx"
        refine ERef.bind (op_catS _ _) fun s1 => ?_
        walk_at "sx"
        refine ERef.bind (op_at D.int [1, 0, 1] q.2.1) fun x1 => ?_
        walk_at "sx"
        refine ERef.bind (op_cutS _ _ _) fun s2 => ?_
        walk_at "sx"
        refine ERef.bind (op_catS _ _) fun s3 => ?_
        walk_at "sx"
        refine ERef.ok ?_
        first | exact rfl | (walk_at "fin")) fun _ => ⟨rfl, rfl⟩
  · refine SR.ifX (cnd := fun (k2 : Bool) => k2) (f := fun k2 => [.own (.lst (sign.2.map D.int)), .val (D.str page), .own (.lst (q.1.map D.str)), .val (D.int q.2.1), .val (D.int q.2.2.1), .val (D.int k.1), .val (D.str sign.1)]) (by
        refine ERef.pure ?_
        walk_at "sx"
        refine ERef.ok ?_
        first | exact rfl | (walk_at "fin")) (fun k2 => ?_) (fun k2 => ?_)
    · refine SR.ret (p := fun z => z) (v := fun v1 => .val (D.str v1.1)) (f := fun v1 => [.own (.lst (v1.2.map D.int)), .val (D.str page), .own (.lst (q.1.map D.str)), .val (D.int q.2.1), .val (D.int q.2.2.1), .val (D.int k.1), .val (D.str sign.1)]) (by
          refine ERef.pure ?_
          walk_at "sx"
          refine ERef.bind (op_cat D.str (cutD q.1 none (some k.1)) (cutD q.1 (some (k.1 + 1)) none)) fun l3 => ?_
          walk_at "sx"
          refine ERef.bind (op_join (" " : Str) l3) fun s4 => ?_
          walk_at "sx"
          refine ERef.ok ?_
          first | exact rfl | (walk_at "fin")) fun _ => ⟨rfl, rfl⟩
    · refine SR.ifX (cnd := fun (k3 : Bool) => k3) (f := fun k3 => [.own (.lst (sign.2.map D.int)), .val (D.str page), .own (.lst (q.1.map D.str)), .val (D.int q.2.1), .val (D.int q.2.2.1), .val (D.int k.1), .val (D.str sign.1)]) (by
          refine ERef.pure ?_
          walk_at "sx"
          refine ERef.ok ?_
          first | exact rfl | (walk_at "fin")) (fun k3 => ?_) (fun k3 => ?_)
      · refine SR.ret (p := fun z => z) (v := fun v2 => .val (D.str v2.1)) (f := fun v2 => [.own (.lst (v2.2.map D.int)), .val (D.str page), .own (.lst (q.1.map D.str)), .val (D.int q.2.1), .val (D.int q.2.2.1), .val (D.int k.1), .val (D.str sign.1)]) (by
            refine ERef.pure ?_
            walk_at "sx"
            refine ERef.bind (op_at D.str q.1 k.1) fun x2 => ?_
            walk_at "sx"
            refine ERef.bind (op_cat D.str (cutD q.1 none (some k.1)) [x2]) fun l4 => ?_
            walk_at "sx"
            refine ERef.bind (op_cat D.str l4 (cutD q.1 (some k.1) none)) fun l5 => ?_
            walk_at "sx"
            refine ERef.bind (op_join (" " : Str) l5) fun s5 => ?_
            walk_at "sx"
            refine ERef.ok ?_
            first | exact rfl | (walk_at "fin")) fun _ => ⟨rfl, rfl⟩
      · refine SR.ret (p := fun z => z) (v := fun v3 => .val (D.str v3.1)) (f := fun v3 => [.own (.lst (v3.2.map D.int)), .val (D.str page), .own (.lst (q.1.map D.str)), .val (D.int q.2.1), .val (D.int q.2.2.1), .val (D.int k.1), .val (D.str sign.1)]) (by
            refine ERef.pure ?_
            walk_at "sx"
            refine ERef.bind (op_cat D.str (cutD q.1 none (some 1)) ((q.1.drop 1).reverse)) fun l6 => ?_
            walk_at "sx"
            refine ERef.bind (op_join (" " : Str) l6) fun s6 => ?_
            walk_at "sx"
            refine ERef.ok ?_
            first | exact rfl | (walk_at "fin")) fun _ => ⟨rfl, rfl⟩
def M_l_one_of_2 (jar_here : List (Int)) (some_ : List (D)) : R (D × List (Int)) := retM (
  R.bind (R.bind (noX (M_l_dip jar_here (some_.length : Int))) fun p => R.bind (R.at_ some_ p.1) fun x => .ok (x, p.2)) fun v => .ok (.ret v) : R (Ctl Unit Unit (D × List (Int))))
theorem S_l_one_of_2 (C : Nat → Addr) (jar_here : List (Int)) (some_ : List (D)) : RefM (.lst (jar_here.map D.int)) (fun z => .val (eD z)) (fun j => .lst (j.map D.int)) (F_l_one_of C (.lst (jar_here.map D.int)) [(eL eD) some_]) (M_l_one_of_2 jar_here some_) := by
  unfold M_l_one_of_2 F_l_one_of
  refine RefM.of ?_
  rw [show startM 2 (.lst (jar_here.map D.int)) [(eL eD) some_] = ([.own (.lst (jar_here.map D.int)), .val ((eL eD) some_)] : Rho) from rfl]
  unfold sv_l_one_of
  refine SR.ret (p := fun z => z) (v := fun v => .val (eD v.1)) (f := fun v => [.own (.lst (v.2.map D.int)), .val ((eL eD) some_)]) (by
      refine ERef.pure ?_
      walk_at "sx"
      refine ERef.bind (op_mut (S_l_dip C jar_here (some_.length : Int))) fun p => ?_
      walk_at "sx"
      refine ERef.bind (op_at eD some_ p.1) fun x => ?_
      walk_at "sx"
      refine ERef.ok ?_
      first | exact rfl | (walk_at "fin")) fun _ => ⟨rfl, rfl⟩
def M_l_number (word : Str) : R (Int) := retOf (
  R.bind (R.bind (R.eqD (D.str word) (D.str ("" : Str))) fun k => R.bind ((if k then .ok true else R.bind (R.grd ((R.chars word).length ≤ sizeLine) (noX (compR (fun x => R.bind (R.inD (D.str x) (D.str ("0123456789" : Str))) fun k1 => .ok (!k1)) (fun x => .ok x) (R.chars word)))) fun ys => R.bind (R.eqD ((eL D.str) ys) ((eL D.str) [])) fun k2 => R.bind ((if (!k2) then .ok true else R.bind (R.atS word 0) fun x1 => R.bind (R.eqD (D.str x1) (D.str ("0" : Str))) fun k3 => R.bind ((if k3 then R.bind (R.eqD (D.str word) (D.str ("0" : Str))) fun k4 => .ok (!k4) else .ok false : R Bool)) fun k5 => .ok k5 : R Bool)) fun k6 => .ok k6 : R Bool)) fun k7 => .ok k7) fun k8 => if k8 then
    R.bind (.ok (-1)) fun v => .ok (.ret v)
  else
  R.bind (R.bind (R.intS word) fun n => .ok n) fun v1 => .ok (.ret v1) : R (Ctl Unit Unit (Int)))
theorem S_l_number (C : Nat → Addr) (word : Str) : RefF (fun z => .val (D.int z)) (F_l_number C [D.str word]) (M_l_number word) := by
  unfold M_l_number F_l_number
  refine RefF.of ?_
  rw [show startR 2 [D.str word] = ([.val (D.str word), .un] : Rho) from rfl]
  unfold sv_l_number
  refine SR.ifX (cnd := fun (k8 : Bool) => k8) (f := fun k8 => [.val (D.str word), .un]) (by
      refine ERef.pure ?_
      walk_at "sx"
      refine ERef.bind (op_eq _ _) fun k => ?_
      walk_at "sx"
      refine ERef.bind (op_or (by
          refine ERef.pure ?_
          walk_at "sx"
          refine ERef.bind (op_comp (e := D.str) (eY := D.str) (r0 := [.val (D.str word), .un]) (ve := fun z => .val (D.str z)) (fun _ => rfl) (by first | rfl | (walk_at "sx")) (by first | rfl | (walk_at "sx")) fun x => ⟨[.val (D.str word), .val (D.str x)], rfl, fun _ => [.val (D.str word), .val (D.str x)], by
                walk_at "un"
                refine ERef.pure ?_
                walk_at "sx"
                refine ERef.bind (op_in _ _ _) fun k1 => ?_
                walk_at "sx"
                refine ERef.ok ?_
                first | exact rfl | (walk_at "fin"), by first | rfl | (walk_at "sx"), fun _ => [.val (D.str word), .val (D.str x)], by
                walk_at "un"
                refine ERef.pure ?_
                walk_at "sx"
                refine ERef.ok ?_
                first | exact rfl | (walk_at "fin"), fun _ => by first | rfl | (walk_at "sx")⟩) fun ys => ?_
          walk_at "sx"
          refine ERef.bind (op_ne _ _) fun k2 => ?_
          walk_at "sx"
          refine ERef.bind (op_or (by
              refine ERef.pure ?_
              walk_at "sx"
              refine ERef.bind (op_atS _ _) fun x1 => ?_
              walk_at "sx"
              refine ERef.bind (op_eq _ _) fun k3 => ?_
              walk_at "sx"
              refine ERef.bind (op_and (by
                  refine ERef.pure ?_
                  walk_at "sx"
                  refine ERef.bind (op_ne _ _) fun k4 => ?_
                  walk_at "sx"
                  refine ERef.ok ?_
                  first | exact rfl | (walk_at "fin"))) fun k5 => ?_
              walk_at "sx"
              refine ERef.ok ?_
              first | exact rfl | (walk_at "fin"))) fun k6 => ?_
          walk_at "sx"
          refine ERef.ok ?_
          first | exact rfl | (walk_at "fin"))) fun k7 => ?_
      walk_at "sx"
      refine ERef.ok ?_
      first | exact rfl | (walk_at "fin")) (fun k8 => ?_) (fun k8 => ?_)
  · refine SR.ret (p := fun z => z) (v := fun v => .val (D.int v)) (f := fun v => [.val (D.str word), .un]) (by
        refine ERef.pure ?_
        walk_at "sx"
        refine ERef.ok ?_
        first | exact rfl | (walk_at "fin")) fun _ => rfl
  · refine SR.ret (p := fun z => z) (v := fun v1 => .val (D.int v1)) (f := fun v1 => [.val (D.str word), .un]) (by
        refine ERef.pure ?_
        walk_at "sx"
        refine ERef.bind (op_intS _) fun n => ?_
        walk_at "sx"
        refine ERef.ok ?_
        first | exact rfl | (walk_at "fin")) fun _ => rfl
def M_l_is_page (page : Str) : R (Bool) := retOf (
  R.bind (R.bind ((if (!true) then .ok true else R.bind (R.eqD (D.str page) (D.str ("" : Str))) fun k => .ok k : R Bool)) fun k1 => .ok k1) fun k2 => if k2 then
    R.bind (.ok false) fun v => .ok (.ret v)
  else
  R.bind (R.bind (R.split page (" " : Str)) fun l => .ok l) fun words =>
  R.bind (R.bind (R.at_ words 0) fun x => R.bind (R.cutZ x none (some (-1))) fun s => R.bind (M_l_number s) fun number => .ok (number, ((-1), (-1)))) fun q =>
  R.bind (R.bind (R.at_ words 0) fun x1 => R.bind (R.cutZ x1 (some (-1)) none) fun s1 => R.bind (R.eqD (D.str s1) (D.str (":" : Str))) fun k3 => R.bind ((if (!k3) then .ok true else R.bind ((.ok ((decide (0 < q.1)) && (decide (q.1 < 10))) : R Bool)) fun k4 => .ok (!k4) : R Bool)) fun k5 => .ok k5) fun k6 => if k6 then
    R.bind (.ok false) fun v1 => .ok (.ret v1)
  else
  R.seq (R.bind (.ok (cutD words (some 1) none)) fun xs => forC (fun (s2 : ((Int × Int))) x2 =>
      R.bind (R.bind (R.cutZ x2 none (some (-1))) fun s3 => R.bind (R.split s3 ("-" : Str)) fun l1 => R.bind (R.grd (l1.length ≤ sizeLine) (noX (compR (fun x3 => .ok true) (fun x3 => R.bind (M_l_number x3) fun number1 => .ok number1) l1))) fun ys => .ok ys) fun ends =>
      R.bind (R.bind (R.cutZ x2 (some (-1)) none) fun s4 => R.bind (R.listS ("abcdef" : Str)) fun l2 => R.bind (R.inD (D.str s4) ((eL D.str) l2)) fun k7 => R.bind ((if (!k7) then .ok true else R.bind ((if (!(decide ((ends.length : Int) = 2))) then .ok true else R.bind (R.at_ ends 0) fun x4 => R.bind ((if (decide (0 ≤ x4)) then R.bind (R.at_ ends 1) fun x5 => R.bind ((.ok ((decide (x4 < x5)) && (decide (x5 < q.1))) : R Bool)) fun k8 => .ok k8 else .ok false : R Bool)) fun k9 => .ok (!k9) : R Bool)) fun k10 => .ok k10 : R Bool)) fun k11 => .ok k11) fun k12 => if k12 then
        R.bind (.ok false) fun v2 => .ok (.ret v2)
      else
      R.bind (R.bind (R.at_ ends 0) fun x6 => R.bind (R.at_ ends 1) fun x7 => .ok (!(HT.lexLt [(s2).1, (s2).2] [((x6, x7)).1, ((x6, x7)).2]))) fun k13 => if k13 then
        R.bind (.ok false) fun v3 => .ok (.ret v3)
      else
      R.bind (R.bind (R.at_ ends 0) fun x8 => R.bind (R.at_ ends 1) fun x9 => .ok (x8, x9)) fun last =>
      .ok (.nx last)) xs q.2) fun (s5 : ((Int × Int))) =>
  R.bind (.ok true) fun v4 => .ok (.ret v4) : R (Ctl Unit Unit (Bool)))
theorem S_l_is_page (C : Nat → Addr) (page : Str) : RefF (fun z => .val (D.bl z)) (F_l_is_page C [D.str page]) (M_l_is_page page) := by
  unfold M_l_is_page F_l_is_page
  refine RefF.of ?_
  rw [show startR 7 [D.str page] = ([.val (D.str page), .un, .un, .un, .un, .un, .un] : Rho) from rfl]
  unfold sv_l_is_page
  refine SR.ifX (cnd := fun (k2 : Bool) => k2) (f := fun k2 => [.val (D.str page), .un, .un, .un, .un, .un, .un]) (by
      refine ERef.pure ?_
      walk_at "sx"
      refine ERef.bind (op_or (by
          refine ERef.pure ?_
          walk_at "sx"
          refine ERef.bind (op_eq _ _) fun k => ?_
          walk_at "sx"
          refine ERef.ok ?_
          first | exact rfl | (walk_at "fin"))) fun k1 => ?_
      walk_at "sx"
      refine ERef.ok ?_
      first | exact rfl | (walk_at "fin")) (fun k2 => ?_) (fun k2 => ?_)
  · refine SR.ret (p := fun z => z) (v := fun v => .val (D.bl v)) (f := fun v => [.val (D.str page), .un, .un, .un, .un, .un, .un]) (by
        refine ERef.pure ?_
        walk_at "sx"
        refine ERef.ok ?_
        first | exact rfl | (walk_at "fin")) fun _ => rfl
  · refine SR.set (v := fun words => .new (.lst (words.map D.str))) (f := fun words => [.val (D.str page), .un, .un, .un, .un, .un, .un]) (by
        refine ERef.pure ?_
        walk_at "sx"
        refine ERef.bind (op_split _ _) fun l => ?_
        walk_at "sx"
        refine ERef.ok ?_
        first | exact rfl | (walk_at "fin")) fun words => ?_
    walk_at "sx"
    refine SR.par (v := fun q => [.val (D.int q.1), .val ((e2T D.int D.int) q.2)]) (f := fun q => [.val (D.str page), .own (.lst (words.map D.str)), .un, .un, .un, .un, .un]) (by
        refine ERef.pure ?_
        walk_at "sx"
        refine ERef.bind (op_at D.str words 0) fun x => ?_
        walk_at "sx"
        refine ERef.bind (op_cutS _ _ _) fun s => ?_
        walk_at "sx"
        refine ERef.bind (op_call (by first | exact trivial | rfl) (S_l_number C s)) fun number => ?_
        walk_at "sx"
        refine ERef.ok ?_
        first | exact rfl | (walk_at "fin")) (fun _ => rfl) fun q => ?_
    walk_at "sx"
    refine SR.ifX (cnd := fun (k6 : Bool) => k6) (f := fun k6 => [.val (D.str page), .own (.lst (words.map D.str)), .val (D.int q.1), .val ((e2T D.int D.int) q.2), .un, .un, .un]) (by
        refine ERef.pure ?_
        walk_at "sx"
        refine ERef.bind (op_at D.str words 0) fun x1 => ?_
        walk_at "sx"
        refine ERef.bind (op_cutS _ _ _) fun s1 => ?_
        walk_at "sx"
        refine ERef.bind (op_ne _ _) fun k3 => ?_
        walk_at "sx"
        refine ERef.bind (op_or (by
            refine ERef.pure ?_
            walk_at "sx"
            refine ERef.bind (op_chainV (by
                refine ERef.pure ?_
                walk_at "sx"
                refine ERef.ok ?_
                first | exact rfl | (walk_at "fin"))) fun k4 => ?_
            walk_at "sx"
            refine ERef.ok ?_
            first | exact rfl | (walk_at "fin"))) fun k5 => ?_
        walk_at "sx"
        refine ERef.ok ?_
        first | exact rfl | (walk_at "fin")) (fun k6 => ?_) (fun k6 => ?_)
    · refine SR.ret (p := fun z => z) (v := fun v1 => .val (D.bl v1)) (f := fun v1 => [.val (D.str page), .own (.lst (words.map D.str)), .val (D.int q.1), .val ((e2T D.int D.int) q.2), .un, .un, .un]) (by
          refine ERef.pure ?_
          walk_at "sx"
          refine ERef.ok ?_
          first | exact rfl | (walk_at "fin")) fun _ => rfl
    · refine SR.seq (F1 := fun (s2 : ((Int × Int))) r => ∃ c1 : Cell, ∃ c : Cell, r = [.val (D.str page), .own (.lst (words.map D.str)), .val (D.int q.1), .val ((e2T D.int D.int) s2), c1, c, .un]) ?_ ?_
      · refine SR.forC (e := D.str) (xs := fun z => z) (s0 := fun _ => q.2) (f := fun _ => [.val (D.str page), .own (.lst (words.map D.str)), .val (D.int q.1), .val ((e2T D.int D.int) q.2), .un, .un, .un]) (by
            refine ERef.pure ?_
            walk_at "sx"
            refine ERef.ok ?_
            first | exact rfl | (walk_at "fin")) (fun _ => ⟨_, _, rfl⟩) ?_
        intro s2 x2 _ hr
        obtain ⟨c1, c, hr⟩ := hr
        subst hr
        refine ⟨[.val (D.str page), .own (.lst (words.map D.str)), .val (D.int q.1), .val ((e2T D.int D.int) s2), .val (D.str x2), c, .un], rfl, ?_⟩
        walk_at "un"
        refine SR.set (v := fun ends => .new (.lst (ends.map D.int))) (f := fun ends => [.val (D.str page), .own (.lst (words.map D.str)), .val (D.int q.1), .val ((e2T D.int D.int) s2), .val (D.str x2), c, .un]) (by
            refine ERef.pure ?_
            walk_at "sx"
            refine ERef.bind (op_cutS _ _ _) fun s3 => ?_
            walk_at "sx"
            refine ERef.bind (op_split _ _) fun l1 => ?_
            walk_at "sx"
            refine ERef.bind (op_comp (e := D.str) (eY := D.int) (r0 := [.val (D.str page), .own (.lst (words.map D.str)), .val (D.int q.1), .val ((e2T D.int D.int) s2), .val (D.str x2), c, .un]) (ve := fun z => .val (D.int z)) (fun _ => rfl) (by first | rfl | (walk_at "sx")) (by first | rfl | (walk_at "sx")) fun x3 => ⟨[.val (D.str page), .own (.lst (words.map D.str)), .val (D.int q.1), .val ((e2T D.int D.int) s2), .val (D.str x2), c, .val (D.str x3)], rfl, fun _ => [.val (D.str page), .own (.lst (words.map D.str)), .val (D.int q.1), .val ((e2T D.int D.int) s2), .val (D.str x2), c, .val (D.str x3)], by
                  walk_at "un"
                  refine ERef.pure ?_
                  walk_at "sx"
                  refine ERef.ok ?_
                  first | exact rfl | (walk_at "fin"), by first | rfl | (walk_at "sx"), fun _ => [.val (D.str page), .own (.lst (words.map D.str)), .val (D.int q.1), .val ((e2T D.int D.int) s2), .val (D.str x2), c, .val (D.str x3)], by
                  walk_at "un"
                  refine ERef.pure ?_
                  walk_at "sx"
                  refine ERef.bind (op_call (by first | exact trivial | rfl) (S_l_number C x3)) fun number1 => ?_
                  walk_at "sx"
                  refine ERef.ok ?_
                  first | exact rfl | (walk_at "fin"), fun _ => by first | rfl | (walk_at "sx")⟩) fun ys => ?_
            walk_at "sx"
            refine ERef.ok ?_
            first | exact rfl | (walk_at "fin")) fun ends => ?_
        walk_at "sx"
        refine SR.ifX (cnd := fun (k12 : Bool) => k12) (f := fun k12 => [.val (D.str page), .own (.lst (words.map D.str)), .val (D.int q.1), .val ((e2T D.int D.int) s2), .val (D.str x2), .own (.lst (ends.map D.int)), .un]) (by
            refine ERef.pure ?_
            walk_at "sx"
            refine ERef.bind (op_cutS _ _ _) fun s4 => ?_
            walk_at "sx"
            refine ERef.bind (op_listS _) fun l2 => ?_
            walk_at "sx"
            refine ERef.bind (op_in _ _ _) fun k7 => ?_
            walk_at "sx"
            refine ERef.bind (op_or (by
                refine ERef.pure ?_
                walk_at "sx"
                refine ERef.bind (op_or (by
                    refine ERef.pure ?_
                    walk_at "sx"
                    refine ERef.bind (op_at D.int ends 0) fun x4 => ?_
                    walk_at "sx"
                    refine ERef.bind (op_chain4 (by
                        refine ERef.pure ?_
                        walk_at "sx"
                        refine ERef.bind (op_at D.int ends 1) fun x5 => ?_
                        walk_at "sx"
                        refine ERef.bind (op_chain4eV (by
                            refine ERef.pure ?_
                            walk_at "sx"
                            refine ERef.ok ?_
                            first | exact rfl | (walk_at "fin"))) fun k8 => ?_
                        walk_at "sx"
                        refine ERef.ok ?_
                        first | exact rfl | (walk_at "fin"))) fun k9 => ?_
                    walk_at "sx"
                    refine ERef.ok ?_
                    first | exact rfl | (walk_at "fin"))) fun k10 => ?_
                walk_at "sx"
                refine ERef.ok ?_
                first | exact rfl | (walk_at "fin"))) fun k11 => ?_
            walk_at "sx"
            refine ERef.ok ?_
            first | exact rfl | (walk_at "fin")) (fun k12 => ?_) (fun k12 => ?_)
        · refine SR.ret (p := fun z => z) (v := fun v2 => .val (D.bl v2)) (f := fun v2 => [.val (D.str page), .own (.lst (words.map D.str)), .val (D.int q.1), .val ((e2T D.int D.int) s2), .val (D.str x2), .own (.lst (ends.map D.int)), .un]) (by
              refine ERef.pure ?_
              walk_at "sx"
              refine ERef.ok ?_
              first | exact rfl | (walk_at "fin")) fun _ => rfl
        · refine SR.ifX (cnd := fun (k13 : Bool) => k13) (f := fun k13 => [.val (D.str page), .own (.lst (words.map D.str)), .val (D.int q.1), .val ((e2T D.int D.int) s2), .val (D.str x2), .own (.lst (ends.map D.int)), .un]) (by
              refine ERef.pure ?_
              walk_at "sx"
              refine ERef.bind (op_at D.int ends 0) fun x6 => ?_
              walk_at "sx"
              refine ERef.bind (op_at D.int ends 1) fun x7 => ?_
              walk_at "sx"
              refine ERef.ok ?_
              first | exact rfl | (walk_at "fin")) (fun k13 => ?_) (fun k13 => ?_)
          · refine SR.ret (p := fun z => z) (v := fun v3 => .val (D.bl v3)) (f := fun v3 => [.val (D.str page), .own (.lst (words.map D.str)), .val (D.int q.1), .val ((e2T D.int D.int) s2), .val (D.str x2), .own (.lst (ends.map D.int)), .un]) (by
                refine ERef.pure ?_
                walk_at "sx"
                refine ERef.ok ?_
                first | exact rfl | (walk_at "fin")) fun _ => rfl
          · refine SR.end_ ?_
            refine SR.set (v := fun last => .val ((e2T D.int D.int) last)) (f := fun last => [.val (D.str page), .own (.lst (words.map D.str)), .val (D.int q.1), .val ((e2T D.int D.int) s2), .val (D.str x2), .own (.lst (ends.map D.int)), .un]) (by
                refine ERef.pure ?_
                walk_at "sx"
                refine ERef.bind (op_at D.int ends 0) fun x8 => ?_
                walk_at "sx"
                refine ERef.bind (op_at D.int ends 1) fun x9 => ?_
                walk_at "sx"
                refine ERef.ok ?_
                first | exact rfl | (walk_at "fin")) fun last => ?_
            walk_at "sx"
            exact SR.nil ⟨_, _, rfl⟩
      · intro s5 _ hr
        obtain ⟨c3, c2, hr⟩ := hr
        subst hr
        refine SR.ret (p := fun z => z) (v := fun v4 => .val (D.bl v4)) (f := fun v4 => [.val (D.str page), .own (.lst (words.map D.str)), .val (D.int q.1), .val ((e2T D.int D.int) s5), c3, c2, .un]) (by
            refine ERef.pure ?_
            walk_at "sx"
            refine ERef.ok ?_
            first | exact rfl | (walk_at "fin")) fun _ => rfl
def M_l_is_page_D (d : D) : R Bool := match d with
  | .str s => M_l_is_page s
  | .scr _ => .stuck
  | .ins _ _ => .stuck
  | _ => .ok false
theorem S_l_is_page_D (C : Nat → Addr) (d : D) : RefF (fun z => .val (D.bl z)) (F_l_is_page C [d]) (M_l_is_page_D d) := by
  cases d with
  | str s => exact S_l_is_page C s
  | scr l => trivial
  | ins c l => trivial
  | _ => rfl
def M_size_in (word : Str) : R (Option (Int)) := retOf (
  R.bind (R.bind (R.lenS word) fun n => R.bind ((if (!(decide (n = 2))) then .ok true else R.bind (R.atS word 0) fun x => R.bind (R.inD (D.str x) (D.str ("0123456789" : Str))) fun k => R.bind ((if (!k) then .ok true else R.bind (R.atS word 1) fun x1 => R.bind (R.eqD (D.str x1) (D.str (":" : Str))) fun k1 => .ok (!k1) : R Bool)) fun k2 => .ok k2 : R Bool)) fun k3 => .ok k3) fun k4 => if k4 then
    R.bind (.ok none) fun v => .ok (.ret v)
  else
  R.bind (R.bind (R.atS word 0) fun x2 => R.bind (R.intS x2) fun n1 => .ok (some n1)) fun v1 => .ok (.ret v1) : R (Ctl Unit Unit (Option (Int))))
theorem S_size_in (C : Nat → Addr) (word : Str) : RefF (fun z => .val ((eO D.int) z)) (F_size_in C [D.str word]) (M_size_in word) := by
  unfold M_size_in F_size_in
  refine RefF.of ?_
  rw [show startR 1 [D.str word] = ([.val (D.str word)] : Rho) from rfl]
  unfold sv_size_in
  refine SR.ifX (cnd := fun (k4 : Bool) => k4) (f := fun k4 => [.val (D.str word)]) (by
      refine ERef.pure ?_
      walk_at "sx"
      refine ERef.bind (op_lenS _) fun n => ?_
      walk_at "sx"
      refine ERef.bind (op_or (by
          refine ERef.pure ?_
          walk_at "sx"
          refine ERef.bind (op_atS _ _) fun x => ?_
          walk_at "sx"
          refine ERef.bind (op_in _ _ _) fun k => ?_
          walk_at "sx"
          refine ERef.bind (op_or (by
              refine ERef.pure ?_
              walk_at "sx"
              refine ERef.bind (op_atS _ _) fun x1 => ?_
              walk_at "sx"
              refine ERef.bind (op_ne _ _) fun k1 => ?_
              walk_at "sx"
              refine ERef.ok ?_
              first | exact rfl | (walk_at "fin"))) fun k2 => ?_
          walk_at "sx"
          refine ERef.ok ?_
          first | exact rfl | (walk_at "fin"))) fun k3 => ?_
      walk_at "sx"
      refine ERef.ok ?_
      first | exact rfl | (walk_at "fin")) (fun k4 => ?_) (fun k4 => ?_)
  · refine SR.ret (p := fun z => z) (v := fun v => .val ((eO D.int) v)) (f := fun v => [.val (D.str word)]) (by
        refine ERef.pure ?_
        walk_at "sx"
        refine ERef.ok ?_
        first | exact rfl | (walk_at "fin")) fun _ => rfl
  · refine SR.ret (p := fun z => z) (v := fun v1 => .val ((eO D.int) v1)) (f := fun v1 => [.val (D.str word)]) (by
        refine ERef.pure ?_
        walk_at "sx"
        refine ERef.bind (op_atS _ _) fun x2 => ?_
        walk_at "sx"
        refine ERef.bind (op_intS _) fun n1 => ?_
        walk_at "sx"
        refine ERef.ok ?_
        first | exact rfl | (walk_at "fin")) fun _ => rfl
def M_road_in (word : Str) : R (Option ((Int × Int × Str))) := retOf (
  R.bind (R.bind (R.lenS word) fun n => R.bind ((if (!(decide (n = 4))) then .ok true else R.bind (R.atS word 0) fun x => R.bind (R.inD (D.str x) (D.str ("0123456789" : Str))) fun k => R.bind ((if (!k) then .ok true else R.bind (R.atS word 1) fun x1 => R.bind (R.eqD (D.str x1) (D.str ("-" : Str))) fun k1 => R.bind ((if (!k1) then .ok true else R.bind (R.atS word 2) fun x2 => R.bind (R.inD (D.str x2) (D.str ("0123456789" : Str))) fun k2 => .ok (!k2) : R Bool)) fun k3 => .ok k3 : R Bool)) fun k4 => .ok k4 : R Bool)) fun k5 => .ok k5) fun k6 => if k6 then
    R.bind (.ok none) fun v => .ok (.ret v)
  else
  R.bind (R.bind (R.atS word 0) fun x3 => R.bind (R.intS x3) fun n1 => R.bind (R.atS word 2) fun x4 => R.bind (R.intS x4) fun n2 => R.bind (R.atS word 3) fun x5 => .ok (some (n1, n2, x5))) fun v1 => .ok (.ret v1) : R (Ctl Unit Unit (Option ((Int × Int × Str)))))
theorem S_road_in (C : Nat → Addr) (word : Str) : RefF (fun z => .val ((eO (e3T D.int D.int D.str)) z)) (F_road_in C [D.str word]) (M_road_in word) := by
  unfold M_road_in F_road_in
  refine RefF.of ?_
  rw [show startR 1 [D.str word] = ([.val (D.str word)] : Rho) from rfl]
  unfold sv_road_in
  refine SR.ifX (cnd := fun (k6 : Bool) => k6) (f := fun k6 => [.val (D.str word)]) (by
      refine ERef.pure ?_
      walk_at "sx"
      refine ERef.bind (op_lenS _) fun n => ?_
      walk_at "sx"
      refine ERef.bind (op_or (by
          refine ERef.pure ?_
          walk_at "sx"
          refine ERef.bind (op_atS _ _) fun x => ?_
          walk_at "sx"
          refine ERef.bind (op_in _ _ _) fun k => ?_
          walk_at "sx"
          refine ERef.bind (op_or (by
              refine ERef.pure ?_
              walk_at "sx"
              refine ERef.bind (op_atS _ _) fun x1 => ?_
              walk_at "sx"
              refine ERef.bind (op_ne _ _) fun k1 => ?_
              walk_at "sx"
              refine ERef.bind (op_or (by
                  refine ERef.pure ?_
                  walk_at "sx"
                  refine ERef.bind (op_atS _ _) fun x2 => ?_
                  walk_at "sx"
                  refine ERef.bind (op_in _ _ _) fun k2 => ?_
                  walk_at "sx"
                  refine ERef.ok ?_
                  first | exact rfl | (walk_at "fin"))) fun k3 => ?_
              walk_at "sx"
              refine ERef.ok ?_
              first | exact rfl | (walk_at "fin"))) fun k4 => ?_
          walk_at "sx"
          refine ERef.ok ?_
          first | exact rfl | (walk_at "fin"))) fun k5 => ?_
      walk_at "sx"
      refine ERef.ok ?_
      first | exact rfl | (walk_at "fin")) (fun k6 => ?_) (fun k6 => ?_)
  · refine SR.ret (p := fun z => z) (v := fun v => .val ((eO (e3T D.int D.int D.str)) v)) (f := fun v => [.val (D.str word)]) (by
        refine ERef.pure ?_
        walk_at "sx"
        refine ERef.ok ?_
        first | exact rfl | (walk_at "fin")) fun _ => rfl
  · refine SR.ret (p := fun z => z) (v := fun v1 => .val ((eO (e3T D.int D.int D.str)) v1)) (f := fun v1 => [.val (D.str word)]) (by
        refine ERef.pure ?_
        walk_at "sx"
        refine ERef.bind (op_atS _ _) fun x3 => ?_
        walk_at "sx"
        refine ERef.bind (op_intS _) fun n1 => ?_
        walk_at "sx"
        refine ERef.bind (op_atS _ _) fun x4 => ?_
        walk_at "sx"
        refine ERef.bind (op_intS _) fun n2 => ?_
        walk_at "sx"
        refine ERef.bind (op_atS _ _) fun x5 => ?_
        walk_at "sx"
        refine ERef.ok ?_
        first | exact rfl | (walk_at "fin")) fun _ => rfl
def M_is_integer (value : D) : R (Bool) := retOf (
  R.bind (R.bind (R.ofO (isT "int" false value)) fun k => R.bind ((if k then R.bind (R.ofO (isT "bool" false value)) fun k1 => .ok (!k1) else .ok false : R Bool)) fun k2 => .ok k2) fun v => .ok (.ret v) : R (Ctl Unit Unit (Bool)))
theorem S_is_integer (C : Nat → Addr) (value : D) : RefF (fun z => .val (D.bl z)) (F_is_integer C [eD value]) (M_is_integer value) := by
  unfold M_is_integer F_is_integer
  refine RefF.of ?_
  rw [show startR 1 [eD value] = ([.val (eD value)] : Rho) from rfl]
  unfold sv_is_integer
  refine SR.ret (p := fun z => z) (v := fun v => .val (D.bl v)) (f := fun v => [.val (eD value)]) (by
      refine ERef.pure ?_
      walk_at "sx"
      refine ERef.bind (op_isB _) fun k => ?_
      walk_at "sx"
      refine ERef.bind (op_eand (by
          refine ERef.pure ?_
          walk_at "sx"
          refine ERef.bind (op_isB _) fun k1 => ?_
          walk_at "sx"
          refine ERef.ok ?_
          first | exact rfl | (walk_at "fin"))) fun k2 => ?_
      walk_at "sx"
      refine ERef.ok ?_
      first | exact rfl | (walk_at "fin")) fun _ => rfl
def M_is_integer_from (value : D) (least : Int) (most : Int) : R (Bool) := retOf (
  R.bind (R.bind (M_is_integer value) fun is_integer => R.bind ((if is_integer then R.bind (R.leD (D.int least) (eD value)) fun k => R.bind ((if k then R.bind (R.leD (eD value) (D.int most)) fun k1 => .ok k1 else .ok false : R Bool)) fun k2 => .ok k2 else .ok false : R Bool)) fun k3 => .ok k3) fun v => .ok (.ret v) : R (Ctl Unit Unit (Bool)))
theorem S_is_integer_from (C : Nat → Addr) (value : D) (least : Int) (most : Int) : RefF (fun z => .val (D.bl z)) (F_is_integer_from C [eD value, D.int least, D.int most]) (M_is_integer_from value least most) := by
  unfold M_is_integer_from F_is_integer_from
  refine RefF.of ?_
  rw [show startR 3 [eD value, D.int least, D.int most] = ([.val (eD value), .val (D.int least), .val (D.int most)] : Rho) from rfl]
  unfold sv_is_integer_from
  refine SR.ret (p := fun z => z) (v := fun v => .val (D.bl v)) (f := fun v => [.val (eD value), .val (D.int least), .val (D.int most)]) (by
      refine ERef.pure ?_
      walk_at "sx"
      refine ERef.bind (op_call (by first | exact trivial | rfl) (S_is_integer C value)) fun is_integer => ?_
      walk_at "sx"
      refine ERef.bind (op_eand (by
          refine ERef.pure ?_
          walk_at "sx"
          refine ERef.bind (op_leD _ _) fun k => ?_
          walk_at "sx"
          refine ERef.bind (op_chain (by
              refine ERef.pure ?_
              walk_at "sx"
              refine ERef.bind (op_leD _ _) fun k1 => ?_
              walk_at "sx"
              refine ERef.ok ?_
              first | exact rfl | (walk_at "fin"))) fun k2 => ?_
          walk_at "sx"
          refine ERef.ok ?_
          first | exact rfl | (walk_at "fin"))) fun k3 => ?_
      walk_at "sx"
      refine ERef.ok ?_
      first | exact rfl | (walk_at "fin")) fun _ => rfl
def M_is_size (value : D) : R (Bool) := retOf (
  R.bind (R.bind (M_is_integer_from value 1 9) fun is_integer_from => .ok is_integer_from) fun v => .ok (.ret v) : R (Ctl Unit Unit (Bool)))
theorem S_is_size (C : Nat → Addr) (value : D) : RefF (fun z => .val (D.bl z)) (F_is_size C [eD value]) (M_is_size value) := by
  unfold M_is_size F_is_size
  refine RefF.of ?_
  rw [show startR 1 [eD value] = ([.val (eD value)] : Rho) from rfl]
  unfold sv_is_size
  refine SR.ret (p := fun z => z) (v := fun v => .val (D.bl v)) (f := fun v => [.val (eD value)]) (by
      refine ERef.pure ?_
      walk_at "sx"
      refine ERef.bind (op_call (by first | exact trivial | rfl) (S_is_integer_from C value 1 9)) fun is_integer_from => ?_
      walk_at "sx"
      refine ERef.ok ?_
      first | exact rfl | (walk_at "fin")) fun _ => rfl
def M_is_place (value : D) (size : Int) : R (Bool) := retOf (
  R.bind (R.bind (M_is_integer_from value 0 (size - 1)) fun is_integer_from => .ok is_integer_from) fun v => .ok (.ret v) : R (Ctl Unit Unit (Bool)))
theorem S_is_place (C : Nat → Addr) (value : D) (size : Int) : RefF (fun z => .val (D.bl z)) (F_is_place C [eD value, D.int size]) (M_is_place value size) := by
  unfold M_is_place F_is_place
  refine RefF.of ?_
  rw [show startR 2 [eD value, D.int size] = ([.val (eD value), .val (D.int size)] : Rho) from rfl]
  unfold sv_is_place
  refine SR.ret (p := fun z => z) (v := fun v => .val (D.bl v)) (f := fun v => [.val (eD value), .val (D.int size)]) (by
      refine ERef.pure ?_
      walk_at "sx"
      refine ERef.bind (op_call (by first | exact trivial | rfl) (S_is_integer_from C value 0 (size - 1))) fun is_integer_from => ?_
      walk_at "sx"
      refine ERef.ok ?_
      first | exact rfl | (walk_at "fin")) fun _ => rfl
def M_is_hue (value : D) : R (Bool) := retOf (
  R.bind (R.bind (R.ofO (isT "str" false value)) fun k => R.bind ((if k then R.bind (R.lenD value) fun n => R.bind ((if (decide (n = 1)) then R.bind (R.inD (eD value) (D.str ("abcdef" : Str))) fun k1 => .ok k1 else .ok false : R Bool)) fun k2 => .ok k2 else .ok false : R Bool)) fun k3 => .ok k3) fun v => .ok (.ret v) : R (Ctl Unit Unit (Bool)))
theorem S_is_hue (C : Nat → Addr) (value : D) : RefF (fun z => .val (D.bl z)) (F_is_hue C [eD value]) (M_is_hue value) := by
  unfold M_is_hue F_is_hue
  refine RefF.of ?_
  rw [show startR 1 [eD value] = ([.val (eD value)] : Rho) from rfl]
  unfold sv_is_hue
  refine SR.ret (p := fun z => z) (v := fun v => .val (D.bl v)) (f := fun v => [.val (eD value)]) (by
      refine ERef.pure ?_
      walk_at "sx"
      refine ERef.bind (op_isB _) fun k => ?_
      walk_at "sx"
      refine ERef.bind (op_eand (by
          refine ERef.pure ?_
          walk_at "sx"
          refine ERef.bind (op_lenD _) fun n => ?_
          walk_at "sx"
          refine ERef.bind (op_eand (by
              refine ERef.pure ?_
              walk_at "sx"
              refine ERef.bind (op_in _ _ _) fun k1 => ?_
              walk_at "sx"
              refine ERef.ok ?_
              first | exact rfl | (walk_at "fin"))) fun k2 => ?_
          walk_at "sx"
          refine ERef.ok ?_
          first | exact rfl | (walk_at "fin"))) fun k3 => ?_
      walk_at "sx"
      refine ERef.ok ?_
      first | exact rfl | (walk_at "fin")) fun _ => rfl
def M_is_road (value : D) (size : Int) : R (Bool) := retOf (
  R.bind (R.bind (R.ofO (isT "tuple" false value)) fun k => R.bind ((if (!k) then .ok true else R.bind (R.lenD value) fun n => .ok (!(decide (n = 3))) : R Bool)) fun k1 => .ok k1) fun k2 => if k2 then
    R.bind (.ok false) fun v => .ok (.ret v)
  else
  R.bind (R.bind (.ok value) fun d => R.un3 d) fun w =>
  R.bind (R.bind (M_is_place w.1 size) fun is_place => R.bind ((if is_place then R.bind (M_is_place w.2.1 size) fun is_place1 => R.bind ((if is_place1 then R.bind (R.ltD (eD w.1) (eD w.2.1)) fun k3 => R.bind ((if k3 then R.bind (M_is_hue w.2.2) fun is_hue => .ok is_hue else .ok false : R Bool)) fun k4 => .ok k4 else .ok false : R Bool)) fun k5 => .ok k5 else .ok false : R Bool)) fun k6 => .ok k6) fun v1 => .ok (.ret v1) : R (Ctl Unit Unit (Bool)))
theorem S_is_road (C : Nat → Addr) (value : D) (size : Int) : RefF (fun z => .val (D.bl z)) (F_is_road C [eD value, D.int size]) (M_is_road value size) := by
  unfold M_is_road F_is_road
  refine RefF.of ?_
  rw [show startR 5 [eD value, D.int size] = ([.val (eD value), .val (D.int size), .un, .un, .un] : Rho) from rfl]
  unfold sv_is_road
  refine SR.ifX (cnd := fun (k2 : Bool) => k2) (f := fun k2 => [.val (eD value), .val (D.int size), .un, .un, .un]) (by
      refine ERef.pure ?_
      walk_at "sx"
      refine ERef.bind (op_isB _) fun k => ?_
      walk_at "sx"
      refine ERef.bind (op_or (by
          refine ERef.pure ?_
          walk_at "sx"
          refine ERef.bind (op_lenD _) fun n => ?_
          walk_at "sx"
          refine ERef.ok ?_
          first | exact rfl | (walk_at "fin"))) fun k1 => ?_
      walk_at "sx"
      refine ERef.ok ?_
      first | exact rfl | (walk_at "fin")) (fun k2 => ?_) (fun k2 => ?_)
  · refine SR.ret (p := fun z => z) (v := fun v => .val (D.bl v)) (f := fun v => [.val (eD value), .val (D.int size), .un, .un, .un]) (by
        refine ERef.pure ?_
        walk_at "sx"
        refine ERef.ok ?_
        first | exact rfl | (walk_at "fin")) fun _ => rfl
  · refine SR.cons (tgtD_ (un := R.un3) (F1 := fun w r => r = [.val (eD value), .val (D.int size), .val (eD w.1), .val (eD w.2.1), .val (eD w.2.2)]) (d := fun d => d) (f := fun _ => [.val (eD value), .val (D.int size), .un, .un, .un]) (by
        refine ERef.pure ?_
        walk_at "sx"
        refine ERef.ok ?_
        first | exact rfl | (walk_at "fin")) un3_x (fun x z hz => by
        have q := un3_eq hz
        subst q
        exact ⟨_, rfl, rfl⟩)) ?_
    intro w _ hr
    subst hr
    refine SR.ret (p := fun z => z) (v := fun v1 => .val (D.bl v1)) (f := fun v1 => [.val (eD value), .val (D.int size), .val (eD w.1), .val (eD w.2.1), .val (eD w.2.2)]) (by
        refine ERef.pure ?_
        walk_at "sx"
        refine ERef.bind (op_call (by first | exact trivial | rfl) (S_is_place C w.1 size)) fun is_place => ?_
        walk_at "sx"
        refine ERef.bind (op_eand (by
            refine ERef.pure ?_
            walk_at "sx"
            refine ERef.bind (op_call (by first | exact trivial | rfl) (S_is_place C w.2.1 size)) fun is_place1 => ?_
            walk_at "sx"
            refine ERef.bind (op_eand (by
                refine ERef.pure ?_
                walk_at "sx"
                refine ERef.bind (op_ltD _ _) fun k3 => ?_
                walk_at "sx"
                refine ERef.bind (op_eand (by
                    refine ERef.pure ?_
                    walk_at "sx"
                    refine ERef.bind (op_call (by first | exact trivial | rfl) (S_is_hue C w.2.2)) fun is_hue => ?_
                    walk_at "sx"
                    refine ERef.ok ?_
                    first | exact rfl | (walk_at "fin"))) fun k4 => ?_
                walk_at "sx"
                refine ERef.ok ?_
                first | exact rfl | (walk_at "fin"))) fun k5 => ?_
            walk_at "sx"
            refine ERef.ok ?_
            first | exact rfl | (walk_at "fin"))) fun k6 => ?_
        walk_at "sx"
        refine ERef.ok ?_
        first | exact rfl | (walk_at "fin")) fun _ => rfl
def M_first_wrong_road (roads : List (Option ((Int × Int × Str)))) (size : Int) : R (Option (Int)) := retOf (
  R.seq (R.bind (.ok (enumT roads)) fun xs => forC (fun (s : Unit) x =>
      R.bind (R.bind (M_is_road ((eO (e3T D.int D.int D.str)) x.2) size) fun is_road => .ok (!is_road)) fun k => if k then
        R.bind (.ok (some x.1)) fun v => .ok (.ret v)
      else
      R.bind (R.bind ((if (decide (0 < x.1)) then R.bind (R.slD ((eO (e3T D.int D.int D.str)) x.2) none (some 2)) fun d => R.bind (R.at_ roads (x.1 - 1)) fun x1 => R.bind (R.slD ((eO (e3T D.int D.int D.str)) x1) none (some 2)) fun d1 => R.bind (R.leD (eD d) (eD d1)) fun k1 => .ok k1 else .ok false : R Bool)) fun k2 => .ok k2) fun k3 => if k3 then
        R.bind (.ok (some x.1)) fun v1 => .ok (.ret v1)
      else
      .ok (.nx ())) xs ()) fun (s1 : Unit) =>
  R.bind (.ok none) fun v2 => .ok (.ret v2) : R (Ctl Unit Unit (Option (Int))))
theorem S_first_wrong_road (C : Nat → Addr) (roads : List (Option ((Int × Int × Str)))) (size : Int) : RefF (fun z => .val ((eO D.int) z)) (F_first_wrong_road C [(eT (eO (e3T D.int D.int D.str))) roads, D.int size]) (M_first_wrong_road roads size) := by
  unfold M_first_wrong_road F_first_wrong_road
  refine RefF.of ?_
  rw [show startR 4 [(eT (eO (e3T D.int D.int D.str))) roads, D.int size] = ([.val ((eT (eO (e3T D.int D.int D.str))) roads), .val (D.int size), .un, .un] : Rho) from rfl]
  unfold sv_first_wrong_road
  refine SR.seq (F1 := fun (s : Unit) r => ∃ c : Cell, ∃ c1 : Cell, r = [.val ((eT (eO (e3T D.int D.int D.str))) roads), .val (D.int size), c, c1]) ?_ ?_
  · refine SR.forC (e := (eEn (eO (e3T D.int D.int D.str)))) (xs := fun z => z) (s0 := fun _ => ()) (f := fun _ => [.val ((eT (eO (e3T D.int D.int D.str))) roads), .val (D.int size), .un, .un]) (by
        refine ERef.pure ?_
        walk_at "sx"
        refine ERef.ok ?_
        first | exact rfl | (walk_at "fin")) (fun _ => ⟨_, _, rfl⟩) ?_
    intro s x _ hr
    obtain ⟨c, c1, hr⟩ := hr
    subst hr
    refine ⟨[.val ((eT (eO (e3T D.int D.int D.str))) roads), .val (D.int size), .val (D.int x.1), .val ((eO (e3T D.int D.int D.str)) x.2)], rfl, ?_⟩
    walk_at "un"
    refine SR.ifX (cnd := fun (k : Bool) => k) (f := fun k => [.val ((eT (eO (e3T D.int D.int D.str))) roads), .val (D.int size), .val (D.int x.1), .val ((eO (e3T D.int D.int D.str)) x.2)]) (by
        refine ERef.pure ?_
        walk_at "sx"
        refine ERef.bind (op_call (by first | exact trivial | rfl) (S_is_road C ((eO (e3T D.int D.int D.str)) x.2) size)) fun is_road => ?_
        walk_at "sx"
        refine ERef.ok ?_
        first | exact rfl | (walk_at "fin")) (fun k => ?_) (fun k => ?_)
    · refine SR.ret (p := fun z => z) (v := fun v => .val ((eO D.int) v)) (f := fun v => [.val ((eT (eO (e3T D.int D.int D.str))) roads), .val (D.int size), .val (D.int x.1), .val ((eO (e3T D.int D.int D.str)) x.2)]) (by
          refine ERef.pure ?_
          walk_at "sx"
          refine ERef.ok ?_
          first | exact rfl | (walk_at "fin")) fun _ => rfl
    · refine SR.end_ ?_
      refine SR.ifX (cnd := fun (k3 : Bool) => k3) (f := fun k3 => [.val ((eT (eO (e3T D.int D.int D.str))) roads), .val (D.int size), .val (D.int x.1), .val ((eO (e3T D.int D.int D.str)) x.2)]) (by
          refine ERef.pure ?_
          walk_at "sx"
          refine ERef.bind (op_and (by
              refine ERef.pure ?_
              walk_at "sx"
              refine ERef.bind (op_slD _ _ _) fun d => ?_
              walk_at "sx"
              refine ERef.bind (op_atT (eO (e3T D.int D.int D.str)) roads (x.1 - 1)) fun x1 => ?_
              walk_at "sx"
              refine ERef.bind (op_slD _ _ _) fun d1 => ?_
              walk_at "sx"
              refine ERef.bind (op_leD _ _) fun k1 => ?_
              walk_at "sx"
              refine ERef.ok ?_
              first | exact rfl | (walk_at "fin"))) fun k2 => ?_
          walk_at "sx"
          refine ERef.ok ?_
          first | exact rfl | (walk_at "fin")) (fun k3 => ?_) (fun k3 => ?_)
      · refine SR.ret (p := fun z => z) (v := fun v1 => .val ((eO D.int) v1)) (f := fun v1 => [.val ((eT (eO (e3T D.int D.int D.str))) roads), .val (D.int size), .val (D.int x.1), .val ((eO (e3T D.int D.int D.str)) x.2)]) (by
            refine ERef.pure ?_
            walk_at "sx"
            refine ERef.ok ?_
            first | exact rfl | (walk_at "fin")) fun _ => rfl
      · exact SR.nil ⟨_, _, rfl⟩
  · intro s1 _ hr
    obtain ⟨c2, c3, hr⟩ := hr
    subst hr
    refine SR.ret (p := fun z => z) (v := fun v2 => .val ((eO D.int) v2)) (f := fun v2 => [.val ((eT (eO (e3T D.int D.int D.str))) roads), .val (D.int size), c2, c3]) (by
        refine ERef.pure ?_
        walk_at "sx"
        refine ERef.ok ?_
        first | exact rfl | (walk_at "fin")) fun _ => rfl
def M_is_integer_1 (value : Int) : R (Bool) := retOf (
  R.bind (R.bind ((.ok (true && (!false)) : R Bool)) fun k => .ok k) fun v => .ok (.ret v) : R (Ctl Unit Unit (Bool)))
theorem S_is_integer_1 (C : Nat → Addr) (value : Int) : RefF (fun z => .val (D.bl z)) (F_is_integer C [D.int value]) (M_is_integer_1 value) := by
  unfold M_is_integer_1 F_is_integer
  refine RefF.of ?_
  rw [show startR 1 [D.int value] = ([.val (D.int value)] : Rho) from rfl]
  unfold sv_is_integer
  refine SR.ret (p := fun z => z) (v := fun v => .val (D.bl v)) (f := fun v => [.val (D.int value)]) (by
      refine ERef.pure ?_
      walk_at "sx"
      refine ERef.bind (op_eandV (by
          refine ERef.pure ?_
          walk_at "sx"
          refine ERef.ok ?_
          first | exact rfl | (walk_at "fin"))) fun k => ?_
      walk_at "sx"
      refine ERef.ok ?_
      first | exact rfl | (walk_at "fin")) fun _ => rfl
def M_is_integer_from_1 (value : Int) (least : Int) (most : Int) : R (Bool) := retOf (
  R.bind (R.bind (M_is_integer_1 value) fun is_integer => R.bind ((if is_integer then R.bind ((.ok ((decide (least ≤ value)) && (decide (value ≤ most))) : R Bool)) fun k => .ok k else .ok false : R Bool)) fun k1 => .ok k1) fun v => .ok (.ret v) : R (Ctl Unit Unit (Bool)))
theorem S_is_integer_from_1 (C : Nat → Addr) (value : Int) (least : Int) (most : Int) : RefF (fun z => .val (D.bl z)) (F_is_integer_from C [D.int value, D.int least, D.int most]) (M_is_integer_from_1 value least most) := by
  unfold M_is_integer_from_1 F_is_integer_from
  refine RefF.of ?_
  rw [show startR 3 [D.int value, D.int least, D.int most] = ([.val (D.int value), .val (D.int least), .val (D.int most)] : Rho) from rfl]
  unfold sv_is_integer_from
  refine SR.ret (p := fun z => z) (v := fun v => .val (D.bl v)) (f := fun v => [.val (D.int value), .val (D.int least), .val (D.int most)]) (by
      refine ERef.pure ?_
      walk_at "sx"
      refine ERef.bind (op_call (by first | exact trivial | rfl) (S_is_integer_1 C value)) fun is_integer => ?_
      walk_at "sx"
      refine ERef.bind (op_eand (by
          refine ERef.pure ?_
          walk_at "sx"
          refine ERef.bind (op_chainV (by
              refine ERef.pure ?_
              walk_at "sx"
              refine ERef.ok ?_
              first | exact rfl | (walk_at "fin"))) fun k => ?_
          walk_at "sx"
          refine ERef.ok ?_
          first | exact rfl | (walk_at "fin"))) fun k1 => ?_
      walk_at "sx"
      refine ERef.ok ?_
      first | exact rfl | (walk_at "fin")) fun _ => rfl
def M_is_size_1 (value : Int) : R (Bool) := retOf (
  R.bind (R.bind (M_is_integer_from_1 value 1 9) fun is_integer_from => .ok is_integer_from) fun v => .ok (.ret v) : R (Ctl Unit Unit (Bool)))
theorem S_is_size_1 (C : Nat → Addr) (value : Int) : RefF (fun z => .val (D.bl z)) (F_is_size C [D.int value]) (M_is_size_1 value) := by
  unfold M_is_size_1 F_is_size
  refine RefF.of ?_
  rw [show startR 1 [D.int value] = ([.val (D.int value)] : Rho) from rfl]
  unfold sv_is_size
  refine SR.ret (p := fun z => z) (v := fun v => .val (D.bl v)) (f := fun v => [.val (D.int value)]) (by
      refine ERef.pure ?_
      walk_at "sx"
      refine ERef.bind (op_call (by first | exact trivial | rfl) (S_is_integer_from_1 C value 1 9)) fun is_integer_from => ?_
      walk_at "sx"
      refine ERef.ok ?_
      first | exact rfl | (walk_at "fin")) fun _ => rfl
def M_is_place_1 (value : Int) (size : Int) : R (Bool) := retOf (
  R.bind (R.bind (M_is_integer_from_1 value 0 (size - 1)) fun is_integer_from => .ok is_integer_from) fun v => .ok (.ret v) : R (Ctl Unit Unit (Bool)))
theorem S_is_place_1 (C : Nat → Addr) (value : Int) (size : Int) : RefF (fun z => .val (D.bl z)) (F_is_place C [D.int value, D.int size]) (M_is_place_1 value size) := by
  unfold M_is_place_1 F_is_place
  refine RefF.of ?_
  rw [show startR 2 [D.int value, D.int size] = ([.val (D.int value), .val (D.int size)] : Rho) from rfl]
  unfold sv_is_place
  refine SR.ret (p := fun z => z) (v := fun v => .val (D.bl v)) (f := fun v => [.val (D.int value), .val (D.int size)]) (by
      refine ERef.pure ?_
      walk_at "sx"
      refine ERef.bind (op_call (by first | exact trivial | rfl) (S_is_integer_from_1 C value 0 (size - 1))) fun is_integer_from => ?_
      walk_at "sx"
      refine ERef.ok ?_
      first | exact rfl | (walk_at "fin")) fun _ => rfl
def M_is_hue_1 (value : Str) : R (Bool) := retOf (
  R.bind (R.bind ((if true then R.bind (R.lenS value) fun n => R.bind ((if (decide (n = 1)) then R.bind (R.inD (D.str value) (D.str ("abcdef" : Str))) fun k => .ok k else .ok false : R Bool)) fun k1 => .ok k1 else .ok false : R Bool)) fun k2 => .ok k2) fun v => .ok (.ret v) : R (Ctl Unit Unit (Bool)))
theorem S_is_hue_1 (C : Nat → Addr) (value : Str) : RefF (fun z => .val (D.bl z)) (F_is_hue C [D.str value]) (M_is_hue_1 value) := by
  unfold M_is_hue_1 F_is_hue
  refine RefF.of ?_
  rw [show startR 1 [D.str value] = ([.val (D.str value)] : Rho) from rfl]
  unfold sv_is_hue
  refine SR.ret (p := fun z => z) (v := fun v => .val (D.bl v)) (f := fun v => [.val (D.str value)]) (by
      refine ERef.pure ?_
      walk_at "sx"
      refine ERef.bind (op_eand (by
          refine ERef.pure ?_
          walk_at "sx"
          refine ERef.bind (op_lenS _) fun n => ?_
          walk_at "sx"
          refine ERef.bind (op_eand (by
              refine ERef.pure ?_
              walk_at "sx"
              refine ERef.bind (op_in _ _ _) fun k => ?_
              walk_at "sx"
              refine ERef.ok ?_
              first | exact rfl | (walk_at "fin"))) fun k1 => ?_
          walk_at "sx"
          refine ERef.ok ?_
          first | exact rfl | (walk_at "fin"))) fun k2 => ?_
      walk_at "sx"
      refine ERef.ok ?_
      first | exact rfl | (walk_at "fin")) fun _ => rfl
def M_is_road_1 (value : (Int × Int × Str)) (size : Int) : R (Bool) := retOf (
  R.bind (R.bind ((.ok ((!true) || (!(decide (3 = 3)))) : R Bool)) fun k => .ok k) fun k1 => if k1 then
    R.bind (.ok false) fun v => .ok (.ret v)
  else
  R.bind (.ok value) fun w =>
  R.bind (R.bind (M_is_place_1 w.1 size) fun is_place => R.bind ((if is_place then R.bind (M_is_place_1 w.2.1 size) fun is_place1 => R.bind ((if is_place1 then R.bind ((if (decide (w.1 < w.2.1)) then R.bind (M_is_hue_1 w.2.2) fun is_hue => .ok is_hue else .ok false : R Bool)) fun k2 => .ok k2 else .ok false : R Bool)) fun k3 => .ok k3 else .ok false : R Bool)) fun k4 => .ok k4) fun v1 => .ok (.ret v1) : R (Ctl Unit Unit (Bool)))
theorem S_is_road_1 (C : Nat → Addr) (value : (Int × Int × Str)) (size : Int) : RefF (fun z => .val (D.bl z)) (F_is_road C [(e3T D.int D.int D.str) value, D.int size]) (M_is_road_1 value size) := by
  unfold M_is_road_1 F_is_road
  refine RefF.of ?_
  rw [show startR 5 [(e3T D.int D.int D.str) value, D.int size] = ([.val ((e3T D.int D.int D.str) value), .val (D.int size), .un, .un, .un] : Rho) from rfl]
  unfold sv_is_road
  refine SR.ifX (cnd := fun (k1 : Bool) => k1) (f := fun k1 => [.val ((e3T D.int D.int D.str) value), .val (D.int size), .un, .un, .un]) (by
      refine ERef.pure ?_
      walk_at "sx"
      refine ERef.bind (op_orV (by
          refine ERef.pure ?_
          walk_at "sx"
          refine ERef.ok ?_
          first | exact rfl | (walk_at "fin"))) fun k => ?_
      walk_at "sx"
      refine ERef.ok ?_
      first | exact rfl | (walk_at "fin")) (fun k1 => ?_) (fun k1 => ?_)
  · refine SR.ret (p := fun z => z) (v := fun v => .val (D.bl v)) (f := fun v => [.val ((e3T D.int D.int D.str) value), .val (D.int size), .un, .un, .un]) (by
        refine ERef.pure ?_
        walk_at "sx"
        refine ERef.ok ?_
        first | exact rfl | (walk_at "fin")) fun _ => rfl
  · refine SR.cons (SN.tgt_ (F1 := fun w r => r = [.val ((e3T D.int D.int D.str) value), .val (D.int size), .val (D.int w.1), .val (D.int w.2.1), .val (D.str w.2.2)]) (v := fun w => .val ((e3T D.int D.int D.str) w)) (f := fun _ => [.val ((e3T D.int D.int D.str) value), .val (D.int size), .un, .un, .un]) (by
        refine ERef.pure ?_
        walk_at "sx"
        refine ERef.ok ?_
        first | exact rfl | (walk_at "fin")) fun _ => ⟨_, rfl, rfl⟩) ?_
    intro w _ hr
    subst hr
    refine SR.ret (p := fun z => z) (v := fun v1 => .val (D.bl v1)) (f := fun v1 => [.val ((e3T D.int D.int D.str) value), .val (D.int size), .val (D.int w.1), .val (D.int w.2.1), .val (D.str w.2.2)]) (by
        refine ERef.pure ?_
        walk_at "sx"
        refine ERef.bind (op_call (by first | exact trivial | rfl) (S_is_place_1 C w.1 size)) fun is_place => ?_
        walk_at "sx"
        refine ERef.bind (op_eand (by
            refine ERef.pure ?_
            walk_at "sx"
            refine ERef.bind (op_call (by first | exact trivial | rfl) (S_is_place_1 C w.2.1 size)) fun is_place1 => ?_
            walk_at "sx"
            refine ERef.bind (op_eand (by
                refine ERef.pure ?_
                walk_at "sx"
                refine ERef.bind (op_eand (by
                    refine ERef.pure ?_
                    walk_at "sx"
                    refine ERef.bind (op_call (by first | exact trivial | rfl) (S_is_hue_1 C w.2.2)) fun is_hue => ?_
                    walk_at "sx"
                    refine ERef.ok ?_
                    first | exact rfl | (walk_at "fin"))) fun k2 => ?_
                walk_at "sx"
                refine ERef.ok ?_
                first | exact rfl | (walk_at "fin"))) fun k3 => ?_
            walk_at "sx"
            refine ERef.ok ?_
            first | exact rfl | (walk_at "fin"))) fun k4 => ?_
        walk_at "sx"
        refine ERef.ok ?_
        first | exact rfl | (walk_at "fin")) fun _ => rfl
def M_first_wrong_road_1 (roads : List ((Int × Int × Str))) (size : Int) : R (Option (Int)) := retOf (
  R.seq (R.bind (.ok (enumT roads)) fun xs => forC (fun (s : Unit) x =>
      R.bind (R.bind (M_is_road_1 x.2 size) fun is_road => .ok (!is_road)) fun k => if k then
        R.bind (.ok (some x.1)) fun v => .ok (.ret v)
      else
      R.bind (R.bind ((if (decide (0 < x.1)) then R.bind (R.at_ roads (x.1 - 1)) fun x1 => .ok (lexLe [(((x.2).1, (x.2).2.1)).1, (((x.2).1, (x.2).2.1)).2] [(((x1).1, (x1).2.1)).1, (((x1).1, (x1).2.1)).2]) else .ok false : R Bool)) fun k1 => .ok k1) fun k2 => if k2 then
        R.bind (.ok (some x.1)) fun v1 => .ok (.ret v1)
      else
      .ok (.nx ())) xs ()) fun (s1 : Unit) =>
  R.bind (.ok none) fun v2 => .ok (.ret v2) : R (Ctl Unit Unit (Option (Int))))
theorem S_first_wrong_road_1 (C : Nat → Addr) (roads : List ((Int × Int × Str))) (size : Int) : RefF (fun z => .val ((eO D.int) z)) (F_first_wrong_road C [(eT (e3T D.int D.int D.str)) roads, D.int size]) (M_first_wrong_road_1 roads size) := by
  unfold M_first_wrong_road_1 F_first_wrong_road
  refine RefF.of ?_
  rw [show startR 4 [(eT (e3T D.int D.int D.str)) roads, D.int size] = ([.val ((eT (e3T D.int D.int D.str)) roads), .val (D.int size), .un, .un] : Rho) from rfl]
  unfold sv_first_wrong_road
  refine SR.seq (F1 := fun (s : Unit) r => ∃ c : Cell, ∃ c1 : Cell, r = [.val ((eT (e3T D.int D.int D.str)) roads), .val (D.int size), c, c1]) ?_ ?_
  · refine SR.forC (e := (eEn (e3T D.int D.int D.str))) (xs := fun z => z) (s0 := fun _ => ()) (f := fun _ => [.val ((eT (e3T D.int D.int D.str)) roads), .val (D.int size), .un, .un]) (by
        refine ERef.pure ?_
        walk_at "sx"
        refine ERef.ok ?_
        first | exact rfl | (walk_at "fin")) (fun _ => ⟨_, _, rfl⟩) ?_
    intro s x _ hr
    obtain ⟨c, c1, hr⟩ := hr
    subst hr
    refine ⟨[.val ((eT (e3T D.int D.int D.str)) roads), .val (D.int size), .val (D.int x.1), .val ((e3T D.int D.int D.str) x.2)], rfl, ?_⟩
    walk_at "un"
    refine SR.ifX (cnd := fun (k : Bool) => k) (f := fun k => [.val ((eT (e3T D.int D.int D.str)) roads), .val (D.int size), .val (D.int x.1), .val ((e3T D.int D.int D.str) x.2)]) (by
        refine ERef.pure ?_
        walk_at "sx"
        refine ERef.bind (op_call (by first | exact trivial | rfl) (S_is_road_1 C x.2 size)) fun is_road => ?_
        walk_at "sx"
        refine ERef.ok ?_
        first | exact rfl | (walk_at "fin")) (fun k => ?_) (fun k => ?_)
    · refine SR.ret (p := fun z => z) (v := fun v => .val ((eO D.int) v)) (f := fun v => [.val ((eT (e3T D.int D.int D.str)) roads), .val (D.int size), .val (D.int x.1), .val ((e3T D.int D.int D.str) x.2)]) (by
          refine ERef.pure ?_
          walk_at "sx"
          refine ERef.ok ?_
          first | exact rfl | (walk_at "fin")) fun _ => rfl
    · refine SR.end_ ?_
      refine SR.ifX (cnd := fun (k2 : Bool) => k2) (f := fun k2 => [.val ((eT (e3T D.int D.int D.str)) roads), .val (D.int size), .val (D.int x.1), .val ((e3T D.int D.int D.str) x.2)]) (by
          refine ERef.pure ?_
          walk_at "sx"
          refine ERef.bind (op_and (by
              refine ERef.pure ?_
              walk_at "sx"
              refine ERef.bind (op_atT (e3T D.int D.int D.str) roads (x.1 - 1)) fun x1 => ?_
              walk_at "sx"
              refine ERef.ok ?_
              first | exact rfl | (walk_at "fin"))) fun k1 => ?_
          walk_at "sx"
          refine ERef.ok ?_
          first | exact rfl | (walk_at "fin")) (fun k2 => ?_) (fun k2 => ?_)
      · refine SR.ret (p := fun z => z) (v := fun v1 => .val ((eO D.int) v1)) (f := fun v1 => [.val ((eT (e3T D.int D.int D.str)) roads), .val (D.int size), .val (D.int x.1), .val ((e3T D.int D.int D.str) x.2)]) (by
            refine ERef.pure ?_
            walk_at "sx"
            refine ERef.ok ?_
            first | exact rfl | (walk_at "fin")) fun _ => rfl
      · exact SR.nil ⟨_, _, rfl⟩
  · intro s1 _ hr
    obtain ⟨c2, c3, hr⟩ := hr
    subst hr
    refine SR.ret (p := fun z => z) (v := fun v2 => .val ((eO D.int) v2)) (f := fun v2 => [.val ((eT (e3T D.int D.int D.str)) roads), .val (D.int size), c2, c3]) (by
        refine ERef.pure ?_
        walk_at "sx"
        refine ERef.ok ?_
        first | exact rfl | (walk_at "fin")) fun _ => rfl
def M_NetD_initD (C : Nat → Addr) (size : Int) (roads : List ((Int × Int × Str))) : R (Unit × TNet) := retJ (
  R.bind (R.bind (M_is_size_1 size) fun is_size => .ok (!is_size)) fun k => if k then
    R.bind (.ok size) fun e => .exc ⟨2, C 2, some ("given", D.int e)⟩
  else
  R.bind (.ok (!true)) fun k1 => if k1 then
    R.bind (.ok ()) fun e1 => .exc ⟨4, C 4, some ("index", eU e1)⟩
  else
  R.bind (R.bind (M_first_wrong_road_1 roads size) fun first_wrong_road => .ok first_wrong_road) fun wrong =>
  R.bind (R.bind ((.ok wrong.isSome : R Bool)) fun k2 => .ok k2) fun k3 => if k3 then
    R.bind (.ok wrong) fun e2 => .exc ⟨4, C 4, some ("index", (eO D.int) e2)⟩
  else
  R.bind (.ok size) fun size1 =>
  R.bind (.ok roads) fun roads1 =>
  R.bind (R.bind (R.grd (roads.length ≤ sizeLine) (noX (dcR (fun x => .ok true) (fun x => .ok (x.1, x.2.1)) (fun x => .ok x.2.2) roads []))) fun m => .ok m) fun hues =>
  (.ok (.nx (⟨size1, roads1, hues⟩)) : _) : R (Ctl TNet Unit (Unit × TNet)))
theorem S_NetD_initD (C : Nat → Addr) (size : Int) (roads : List ((Int × Int × Str))) : RefM (.ins (C 0) []) (fun z => .val (eU z)) (fun j => (oNet C j)) (F_NetD_initD C (.ins (C 0) []) [D.int size, (eT (e3T D.int D.int D.str)) roads]) (M_NetD_initD C size roads) := by
  unfold M_NetD_initD F_NetD_initD
  refine RefM.ofN ?_
  rw [show startM 7 (.ins (C 0) []) [D.int size, (eT (e3T D.int D.int D.str)) roads] = ([.own (.ins (C 0) []), .val (D.int size), .val ((eT (e3T D.int D.int D.str)) roads), .un, .un, .un, .un] : Rho) from rfl]
  unfold sv_NetD_initD
  refine SR.ifX (cnd := fun (k : Bool) => k) (f := fun k => [.own (.ins (C 0) []), .val (D.int size), .val ((eT (e3T D.int D.int D.str)) roads), .un, .un, .un, .un]) (by
      refine ERef.pure ?_
      walk_at "sx"
      refine ERef.bind (op_call (by first | exact trivial | rfl) (S_is_size_1 C size)) fun is_size => ?_
      walk_at "sx"
      refine ERef.ok ?_
      first | exact rfl | (walk_at "fin")) (fun k => ?_) (fun k => ?_)
  · exact SR.raise (e := fun e => D.int e) (v := fun e => .val (D.int e)) (f := "given") (fr := fun e => [.own (.ins (C 0) []), .val (D.int size), .val ((eT (e3T D.int D.int D.str)) roads), .un, .un, .un, .un]) (by
        refine ERef.pure ?_
        walk_at "sx"
        refine ERef.ok ?_
        first | exact rfl | (walk_at "fin")) (fun _ => rfl) (fun _ => by first | exact trivial | rfl)
  · refine SR.ifX (cnd := fun (k1 : Bool) => k1) (f := fun k1 => [.own (.ins (C 0) []), .val (D.int size), .val ((eT (e3T D.int D.int D.str)) roads), .un, .un, .un, .un]) (by
        refine ERef.pure ?_
        walk_at "sx"
        refine ERef.ok ?_
        first | exact rfl | (walk_at "fin")) (fun k1 => ?_) (fun k1 => ?_)
    · exact SR.raise (e := fun e1 => eU e1) (v := fun e1 => .val (eU e1)) (f := "index") (fr := fun e1 => [.own (.ins (C 0) []), .val (D.int size), .val ((eT (e3T D.int D.int D.str)) roads), .un, .un, .un, .un]) (by
          refine ERef.pure ?_
          walk_at "sx"
          refine ERef.ok ?_
          first | exact rfl | (walk_at "fin")) (fun _ => rfl) (fun _ => by first | exact trivial | rfl)
    · refine SR.set (v := fun wrong => .val ((eO D.int) wrong)) (f := fun wrong => [.own (.ins (C 0) []), .val (D.int size), .val ((eT (e3T D.int D.int D.str)) roads), .un, .un, .un, .un]) (by
          refine ERef.pure ?_
          walk_at "sx"
          refine ERef.bind (op_call (by first | exact trivial | rfl) (S_first_wrong_road_1 C roads size)) fun first_wrong_road => ?_
          walk_at "sx"
          refine ERef.ok ?_
          first | exact rfl | (walk_at "fin")) fun wrong => ?_
      walk_at "sx"
      refine SR.ifX (cnd := fun (k3 : Bool) => k3) (f := fun k3 => [.own (.ins (C 0) []), .val (D.int size), .val ((eT (e3T D.int D.int D.str)) roads), .val ((eO D.int) wrong), .un, .un, .un]) (by
          refine ERef.pure ?_
          walk_at "sx"
          refine ERef.bind (op_isO true (fun _ => rfl)) fun k2 => ?_
          walk_at "sx"
          refine ERef.ok ?_
          first | exact rfl | (walk_at "fin")) (fun k3 => ?_) (fun k3 => ?_)
      · exact SR.raise (e := fun e2 => (eO D.int) e2) (v := fun e2 => .val ((eO D.int) e2)) (f := "index") (fr := fun e2 => [.own (.ins (C 0) []), .val (D.int size), .val ((eT (e3T D.int D.int D.str)) roads), .val ((eO D.int) wrong), .un, .un, .un]) (by
            refine ERef.pure ?_
            walk_at "sx"
            refine ERef.ok ?_
            first | exact rfl | (walk_at "fin")) (fun _ => rfl) (fun _ => by first | exact trivial | rfl)
      · refine SR.fld (l := []) (v := fun size1 => .val (D.int size1)) (f := fun _ => [.own (.ins (C 0) []), .val (D.int size), .val ((eT (e3T D.int D.int D.str)) roads), .val ((eO D.int) wrong), .un, .un, .un]) (by
            refine ERef.pure ?_
            walk_at "sx"
            refine ERef.ok ?_
            first | exact rfl | (walk_at "fin")) (fun _ => rfl) (show 0 < 1000 by decide) fun size1 => ?_
        walk_at "sx"
        refine SR.fld (l := [("_size", D.int size1)]) (v := fun roads1 => .val ((eT (e3T D.int D.int D.str)) roads1)) (f := fun _ => [.own (.ins (C 0) [("_size", D.int size1)]), .val (D.int size), .val ((eT (e3T D.int D.int D.str)) roads), .val ((eO D.int) wrong), .un, .un, .un]) (by
            refine ERef.pure ?_
            walk_at "sx"
            refine ERef.ok ?_
            first | exact rfl | (walk_at "fin")) (fun _ => rfl) (show 1 < 1000 by decide) fun roads1 => ?_
        walk_at "sx"
        refine SR.end_ ?_
        refine SR.fld (l := [("_size", D.int size1), ("_roads", (eT (e3T D.int D.int D.str)) roads1)]) (v := fun hues => .new (.dT (eDT' k2I D.str hues))) (f := fun _ => [.own (.ins (C 0) [("_size", D.int size1), ("_roads", (eT (e3T D.int D.int D.str)) roads1)]), .val (D.int size), .val ((eT (e3T D.int D.int D.str)) roads), .val ((eO D.int) wrong), .un, .un, .un]) (by
            refine ERef.pure ?_
            walk_at "sx"
            refine ERef.bind (op_dcomp (e := (e3T D.int D.int D.str)) (eA := D.str) (r0 := [.own (.ins (C 0) [("_size", D.int size1), ("_roads", (eT (e3T D.int D.int D.str)) roads1)]), .val (D.int size), .val ((eT (e3T D.int D.int D.str)) roads), .val ((eO D.int) wrong), .un, .un, .un]) (vk := fun z => .val ((e2T D.int D.int) z)) (ve := fun z => .val (D.str z)) (kd := fun q => [D.int q.1, D.int q.2]) k2I_inj (fun _ => rfl) (fun _ => rfl) (fun _ => rfl) (by first | rfl | (walk_at "sx")) (by first | rfl | (walk_at "sx")) fun x => ⟨[.own (.ins (C 0) [("_size", D.int size1), ("_roads", (eT (e3T D.int D.int D.str)) roads1)]), .val (D.int size), .val ((eT (e3T D.int D.int D.str)) roads), .val ((eO D.int) wrong), .val (D.int x.1), .val (D.int x.2.1), .val (D.str x.2.2)], rfl, fun _ => [.own (.ins (C 0) [("_size", D.int size1), ("_roads", (eT (e3T D.int D.int D.str)) roads1)]), .val (D.int size), .val ((eT (e3T D.int D.int D.str)) roads), .val ((eO D.int) wrong), .val (D.int x.1), .val (D.int x.2.1), .val (D.str x.2.2)], by
                  walk_at "un"
                  refine ERef.pure ?_
                  walk_at "sx"
                  refine ERef.ok ?_
                  first | exact rfl | (walk_at "fin"), (by first | rfl | (walk_at "sx")), fun _ => [.own (.ins (C 0) [("_size", D.int size1), ("_roads", (eT (e3T D.int D.int D.str)) roads1)]), .val (D.int size), .val ((eT (e3T D.int D.int D.str)) roads), .val ((eO D.int) wrong), .val (D.int x.1), .val (D.int x.2.1), .val (D.str x.2.2)], by
                  walk_at "un"
                  refine ERef.pure ?_
                  walk_at "sx"
                  refine ERef.ok ?_
                  first | exact rfl | (walk_at "fin"), fun _ => ⟨fun _ => [.own (.ins (C 0) [("_size", D.int size1), ("_roads", (eT (e3T D.int D.int D.str)) roads1)]), .val (D.int size), .val ((eT (e3T D.int D.int D.str)) roads), .val ((eO D.int) wrong), .val (D.int x.1), .val (D.int x.2.1), .val (D.str x.2.2)], by
                  walk_at "un"
                  refine ERef.pure ?_
                  walk_at "sx"
                  refine ERef.ok ?_
                  first | exact rfl | (walk_at "fin"), fun _ => (by first | rfl | (walk_at "sx"))⟩⟩) fun m => ?_
            walk_at "sx"
            refine ERef.ok ?_
            first | exact rfl | (walk_at "fin")) (fun _ => rfl) (show 2 < 1000 by decide) fun hues => ?_
        walk_at "sx"
        exact SR.nil (by first | rfl | (walk_at "fin"))
def M_Net_read (C : Nat → Addr) (text : Str) : R (TNet) := retOf (
  R.bind (.ok (!true)) fun k => if k then
    R.bind (.ok text) fun e => .exc ⟨1, C 1, some ("given", D.str e)⟩
  else
  R.bind (R.bind (R.split text (" " : Str)) fun l => .ok l) fun words =>
  R.bind (R.bind (R.at_ words 0) fun x => R.bind (M_size_in x) fun size_in => .ok size_in) fun size =>
  R.bind (R.bind (R.grd ((cutD words (some 1) none).length ≤ sizeLine) (noX (compR (fun x1 => .ok true) (fun x1 => R.bind (M_road_in x1) fun road_in => .ok road_in) (cutD words (some 1) none)))) fun ys => .ok ys) fun roads =>
  R.bind (R.bind (M_is_size ((eO D.int) size)) fun is_size => R.bind ((if (!is_size) then .ok true else R.bind (R.ofO size) fun n => R.bind (M_first_wrong_road roads n) fun first_wrong_road => R.bind ((.ok first_wrong_road.isSome : R Bool)) fun k1 => .ok k1 : R Bool)) fun k2 => .ok k2) fun k3 => if k3 then
    R.bind (.ok text) fun e1 => .exc ⟨1, C 1, some ("given", D.str e1)⟩
  else
  R.bind (R.bind (R.ofO size) fun n1 => R.bind (R.allO roads) fun n2 => R.bind (R.bind (M_NetD_initD C n1 n2) fun z => .ok z.2) fun made => .ok made) fun v => .ok (.ret v) : R (Ctl Unit Unit (TNet)))
theorem S_Net_read (C : Nat → Addr) (text : Str) : RefF (fun z => .new ((oNet C z))) (F_Net_read C [D.str text]) (M_Net_read C text) := by
  unfold M_Net_read F_Net_read
  refine RefF.of ?_
  rw [show startR 5 [D.str text] = ([.val (D.str text), .un, .un, .un, .un] : Rho) from rfl]
  unfold sv_Net_read
  refine SR.ifX (cnd := fun (k : Bool) => k) (f := fun k => [.val (D.str text), .un, .un, .un, .un]) (by
      refine ERef.pure ?_
      walk_at "sx"
      refine ERef.ok ?_
      first | exact rfl | (walk_at "fin")) (fun k => ?_) (fun k => ?_)
  · exact SR.raise (e := fun e => D.str e) (v := fun e => .val (D.str e)) (f := "given") (fr := fun e => [.val (D.str text), .un, .un, .un, .un]) (by
        refine ERef.pure ?_
        walk_at "sx"
        refine ERef.ok ?_
        first | exact rfl | (walk_at "fin")) (fun _ => rfl) (fun _ => by first | exact trivial | rfl)
  · refine SR.set (v := fun words => .new (.lst (words.map D.str))) (f := fun words => [.val (D.str text), .un, .un, .un, .un]) (by
        refine ERef.pure ?_
        walk_at "sx"
        refine ERef.bind (op_split _ _) fun l => ?_
        walk_at "sx"
        refine ERef.ok ?_
        first | exact rfl | (walk_at "fin")) fun words => ?_
    walk_at "sx"
    refine SR.set (v := fun size => .val ((eO D.int) size)) (f := fun size => [.val (D.str text), .own (.lst (words.map D.str)), .un, .un, .un]) (by
        refine ERef.pure ?_
        walk_at "sx"
        refine ERef.bind (op_at D.str words 0) fun x => ?_
        walk_at "sx"
        refine ERef.bind (op_call (by first | exact trivial | rfl) (S_size_in C x)) fun size_in => ?_
        walk_at "sx"
        refine ERef.ok ?_
        first | exact rfl | (walk_at "fin")) fun size => ?_
    walk_at "sx"
    refine SR.set (v := fun roads => .val ((eT (eO (e3T D.int D.int D.str))) roads)) (f := fun roads => [.val (D.str text), .own (.lst (words.map D.str)), .val ((eO D.int) size), .un, .un]) (by
        refine ERef.pure ?_
        walk_at "sx"
        refine ERef.bind (op_comp (e := D.str) (eY := (eO (e3T D.int D.int D.str))) (r0 := [.val (D.str text), .own (.lst (words.map D.str)), .val ((eO D.int) size), .un, .un]) (ve := fun z => .val ((eO (e3T D.int D.int D.str)) z)) (fun _ => rfl) (by first | rfl | (walk_at "sx")) (by first | rfl | (walk_at "sx")) fun x1 => ⟨[.val (D.str text), .own (.lst (words.map D.str)), .val ((eO D.int) size), .un, .val (D.str x1)], rfl, fun _ => [.val (D.str text), .own (.lst (words.map D.str)), .val ((eO D.int) size), .un, .val (D.str x1)], by
              walk_at "un"
              refine ERef.pure ?_
              walk_at "sx"
              refine ERef.ok ?_
              first | exact rfl | (walk_at "fin"), by first | rfl | (walk_at "sx"), fun _ => [.val (D.str text), .own (.lst (words.map D.str)), .val ((eO D.int) size), .un, .val (D.str x1)], by
              walk_at "un"
              refine ERef.pure ?_
              walk_at "sx"
              refine ERef.bind (op_call (by first | exact trivial | rfl) (S_road_in C x1)) fun road_in => ?_
              walk_at "sx"
              refine ERef.ok ?_
              first | exact rfl | (walk_at "fin"), fun _ => by first | rfl | (walk_at "sx")⟩) fun ys => ?_
        walk_at "sx"
        refine ERef.ok ?_
        first | exact rfl | (walk_at "fin")) fun roads => ?_
    walk_at "sx"
    refine SR.ifX (cnd := fun (k3 : Bool) => k3) (f := fun k3 => [.val (D.str text), .own (.lst (words.map D.str)), .val ((eO D.int) size), .val ((eT (eO (e3T D.int D.int D.str))) roads), .un]) (by
        refine ERef.pure ?_
        walk_at "sx"
        refine ERef.bind (op_call (by first | exact trivial | rfl) (S_is_size C ((eO D.int) size))) fun is_size => ?_
        walk_at "sx"
        refine ERef.bind (op_or (by
            refine ERef.pure ?_
            walk_at "sx"
            refine ERef.needO fun n hn => ?_
            simp only [hn, y_eOs, y_eOm, eT, eL]
            walk_at "sx"
            refine ERef.bind (op_call (by first | exact trivial | rfl) (S_first_wrong_road C roads n)) fun first_wrong_road => ?_
            walk_at "sx"
            refine ERef.bind (op_isO true (fun _ => rfl)) fun k1 => ?_
            walk_at "sx"
            refine ERef.ok ?_
            first | exact rfl | (walk_at "fin"))) fun k2 => ?_
        walk_at "sx"
        refine ERef.ok ?_
        first | exact rfl | (walk_at "fin")) (fun k3 => ?_) (fun k3 => ?_)
    · exact SR.raise (e := fun e1 => D.str e1) (v := fun e1 => .val (D.str e1)) (f := "given") (fr := fun e1 => [.val (D.str text), .own (.lst (words.map D.str)), .val ((eO D.int) size), .val ((eT (eO (e3T D.int D.int D.str))) roads), .un]) (by
          refine ERef.pure ?_
          walk_at "sx"
          refine ERef.ok ?_
          first | exact rfl | (walk_at "fin")) (fun _ => rfl) (fun _ => by first | exact trivial | rfl)
    · refine SR.ret (p := fun z => z) (v := fun v => .new ((oNet C v))) (f := fun v => [.val (D.str text), .own (.lst (words.map D.str)), .val ((eO D.int) size), .val ((eT (eO (e3T D.int D.int D.str))) roads), .un]) (by
          refine ERef.pure ?_
          walk_at "sx"
          refine ERef.needO fun n1 hn => ?_
          simp only [hn, y_eOs, y_eOm, eT, eL]
          walk_at "sx"
          refine ERef.needL fun n2 hn => ?_
          simp only [hn, y_eOs, y_eOm, eT, eL]
          walk_at "sx"
          refine ERef.bind (op_make (by first | exact trivial | rfl) (S_NetD_initD C n1 n2)) fun made => ?_
          walk_at "sx"
          refine ERef.ok ?_
          first | exact rfl | (walk_at "fin")) fun _ => rfl
def M_Net_read_D (C : Nat → Addr) (d : D) : R TNet := match d with
  | .str s => M_Net_read C s
  | .scr _ => .stuck
  | .ins _ _ => .stuck
  | d => .exc ⟨1, C 1, some ("given", d)⟩
theorem S_Net_read_D (C : Nat → Addr) (d : D) : RefF (fun z => .new (oNet C z)) (F_Net_read C [d]) (M_Net_read_D C d) := by
  cases d with
  | str s => exact S_Net_read C s
  | scr l => trivial
  | ins c l => trivial
  | _ => rfl
def M_NetD_strD (self : TNet) : R (Str) := retOf (
  R.bind (R.bind (R.grd (self.roads.length ≤ sizeLine) (noX (compR (fun x => .ok true) (fun x => R.bind (R.str x.1) fun s => R.grd (((Str.empty ++ s)).length ≤ sizeLine) (R.grd ((((Str.empty ++ s) ++ ("-" : Str))).length ≤ sizeLine) (R.bind (R.str x.2.1) fun s1 => R.grd (((((Str.empty ++ s) ++ ("-" : Str)) ++ s1)).length ≤ sizeLine) (R.bind (R.fmtS x.2.2) fun s2 => R.grd ((((((Str.empty ++ s) ++ ("-" : Str)) ++ s1) ++ s2)).length ≤ sizeLine) (.ok ((((Str.empty ++ s) ++ ("-" : Str)) ++ s1) ++ s2)))))) self.roads))) fun ys => .ok ys) fun words =>
  R.bind (R.bind (R.str self.size) fun s3 => R.grd (((Str.empty ++ s3)).length ≤ sizeLine) (R.grd ((((Str.empty ++ s3) ++ (":" : Str))).length ≤ sizeLine) (R.bind (R.grd (([((Str.empty ++ s3) ++ (":" : Str))] ++ words).length ≤ sizeLine) (.ok ([((Str.empty ++ s3) ++ (":" : Str))] ++ words))) fun l => R.bind (R.join (" " : Str) l) fun s4 => .ok s4))) fun v => .ok (.ret v) : R (Ctl Unit Unit (Str)))
theorem S_NetD_strD (C : Nat → Addr) (self : TNet) : RefF (fun z => .val (D.str z)) (F_NetD_strD C [(eNet C) self]) (M_NetD_strD self) := by
  unfold M_NetD_strD F_NetD_strD
  refine RefF.of ?_
  rw [show startR 5 [(eNet C) self] = ([.val ((eNet C) self), .un, .un, .un, .un] : Rho) from rfl]
  unfold sv_NetD_strD
  refine SR.set (v := fun words => .new (.lst (words.map D.str))) (f := fun words => [.val ((eNet C) self), .un, .un, .un, .un]) (by
      refine ERef.pure ?_
      walk_at "sx"
      refine ERef.bind (op_comp (e := (e3T D.int D.int D.str)) (eY := D.str) (r0 := [.val ((eNet C) self), .un, .un, .un, .un]) (ve := fun z => .val (D.str z)) (fun _ => rfl) (by first | rfl | (walk_at "sx")) (by first | rfl | (walk_at "sx")) fun x => ⟨[.val ((eNet C) self), .un, .val (D.int x.1), .val (D.int x.2.1), .val (D.str x.2.2)], rfl, fun _ => [.val ((eNet C) self), .un, .val (D.int x.1), .val (D.int x.2.1), .val (D.str x.2.2)], by
            walk_at "un"
            refine ERef.pure ?_
            walk_at "sx"
            refine ERef.ok ?_
            first | exact rfl | (walk_at "fin"), by first | rfl | (walk_at "sx"), fun _ => [.val ((eNet C) self), .un, .val (D.int x.1), .val (D.int x.2.1), .val (D.str x.2.2)], by
            walk_at "un"
            refine ERef.pure ?_
            walk_at "sx"
            refine ERef.bind (op_fmtI _) fun s => ?_
            walk_at "sx"
            refine ERef.grd fun hg => ?_
            walk_at "sx"
            rw [op_join1 hg]
            walk_at "sx"
            refine ERef.grd fun hg => ?_
            walk_at "sx"
            rw [op_join1 hg]
            walk_at "sx"
            refine ERef.bind (op_fmtI _) fun s1 => ?_
            walk_at "sx"
            refine ERef.grd fun hg => ?_
            walk_at "sx"
            rw [op_join1 hg]
            walk_at "sx"
            refine ERef.bind (op_fmtS _) fun s2 => ?_
            walk_at "sx"
            refine ERef.grd fun hg => ?_
            walk_at "sx"
            rw [op_join1 hg]
            walk_at "sx"
            refine ERef.ok ?_
            first | exact rfl | (walk_at "fin"), fun _ => by first | rfl | (walk_at "sx")⟩) fun ys => ?_
      walk_at "sx"
      refine ERef.ok ?_
      first | exact rfl | (walk_at "fin")) fun words => ?_
  walk_at "sx"
  refine SR.ret (p := fun z => z) (v := fun v => .val (D.str v)) (f := fun v => [.val ((eNet C) self), .val ((eL D.str) words), .un, .un, .un]) (by
      refine ERef.pure ?_
      walk_at "sx"
      refine ERef.bind (op_fmtI _) fun s3 => ?_
      walk_at "sx"
      refine ERef.grd fun hg => ?_
      walk_at "sx"
      rw [op_join1 hg]
      walk_at "sx"
      refine ERef.grd fun hg => ?_
      walk_at "sx"
      rw [op_join1 hg]
      walk_at "sx"
      refine ERef.bind (op_lstL D.str (by first | rfl | simp only [List.map_append, List.map_cons, List.map_nil, List.cons_append, List.nil_append])) fun l => ?_
      walk_at "sx"
      refine ERef.bind (op_join (" " : Str) l) fun s4 => ?_
      walk_at "sx"
      refine ERef.ok ?_
      first | exact rfl | (walk_at "fin")) fun _ => rfl
def M_l_read (C : Nat → Addr) (page : D) (named : Bool) : R (List (Str)) := retOf (
  R.seq (R.tryX C [(1, true)] "given" (
    R.bind (R.bind ((if named then R.bind (M_Net_read_D C page) fun read => .ok read else R.bind (M_Net_read_D C page) fun read1 => .ok read1 : R (TNet))) fun z => .ok z) fun found =>
    .ok (.nx found)) fun y => (R.reprs y).bind fun s => .ok (.ret [("refused" : Str), s])) fun (s : (TNet)) =>
  R.bind (R.bind (R.strO (M_NetD_strD s)) fun s1 => R.bind (R.reprs (D.str s1)) fun s2 => .ok [("read" : Str), s2]) fun v => .ok (.ret v) : R (Ctl Unit Unit (List (Str))))
theorem S_l_read (C : Nat → Addr) (page : D) (named : Bool) : RefF (fun z => .new (.lst (z.map D.str))) (F_l_read C [eD page, D.bl named]) (M_l_read C page named) := by
  unfold M_l_read F_l_read
  refine RefF.of ?_
  rw [show startR 4 [eD page, D.bl named] = ([.val (eD page), .val (D.bl named), .un, .un] : Rho) from rfl]
  unfold sv_l_read
  refine SR.seq (F1 := fun (s : (TNet)) r => r = [.val (eD page), .val (D.bl named), .un, .own ((oNet C s))]) (SR.tryAs (by
    walk_at "un"
    refine SR.end_ ?_
    refine SR.set (v := fun found => .new ((oNet C found))) (f := fun found => [.val (eD page), .val (D.bl named), .un, .un]) (by
        refine ERef.pure ?_
        walk_at "sx"
        refine ERef.bind (op_eif (v := fun z => .new ((oNet C z))) (f := fun _ => [.val (eD page), .val (D.bl named), .un, .un]) (by
            refine ERef.pure ?_
            walk_at "sx"
            refine ERef.bind (op_call (by first | exact trivial | rfl | (show _ < _; simp)) (S_Net_read_D C page)) fun read => ?_
            walk_at "sx"
            refine ERef.ok ?_
            first | exact rfl | (walk_at "fin")) (by
            refine ERef.pure ?_
            walk_at "sx"
            refine ERef.bind (op_call (by first | exact trivial | rfl | (show _ < _; simp)) (S_Net_read_D C page)) fun read1 => ?_
            walk_at "sx"
            refine ERef.ok ?_
            first | exact rfl | (walk_at "fin"))) fun z => ?_
        walk_at "sx"
        refine ERef.ok ?_
        first | exact rfl | (walk_at "fin")) fun found => ?_
    walk_at "sx"
    exact SR.nil rfl) fun y r => SR.hRepr fun _ _ => rfl) ?_
  intro s _ hr
  subst hr
  refine SR.ret (p := fun z => z) (v := fun v => .new (.lst (v.map D.str))) (f := fun v => [.val (eD page), .val (D.bl named), .un, .own ((oNet C s))]) (by
      refine ERef.pure ?_
      walk_at "sx"
      refine ERef.bind (op_strO (S_NetD_strD C s)) fun s1 => ?_
      walk_at "sx"
      refine ERef.bind (op_reprs _) fun s2 => ?_
      walk_at "sx"
      refine ERef.ok ?_
      first | exact rfl | (walk_at "fin")) fun _ => rfl
def M_l_right (C : Nat → Addr) (jar_here : List (Int)) : R (Bool × List (Int)) := retM (
  R.seq (R.bind (R.bind (R.range1 12) fun xs => .ok xs) fun xs1 => forC (fun (s : (List (Int))) x =>
      R.bind (R.bind (noX (M_l_one_of s [1, 2, 3, 5, 9])) fun p => .ok (p.1, p.2)) fun size =>
      R.bind (R.bind (noX (M_l_roads size.2 size.1)) fun p1 => R.bind (M_l_text size.1 (cutD p1.1 none (some 9))) fun text => .ok (text, p1.2)) fun page =>
      R.bind (R.bind (R.bind (noX (M_l_dip page.2 4)) fun p2 => R.bind (R.range1 p2.1) fun xs2 => .ok (xs2, p2.2)) fun xs3 => forN (fun (s1 : (List (Int)) × (Str)) x1 =>
          R.bind (R.bind (noX (M_l_bent s1.1 s1.2)) fun p3 => .ok (p3.1, p3.2)) fun page1 =>
          .ok (page1.2, page1.1)) xs3.1 (xs3.2, page.1)) fun (s2 : (List (Int)) × (Str)) =>
      R.bind (R.bind (R.bind (noX (M_l_dip s2.1 6)) fun p4 => .ok ((decide (p4.1 = 0)), p4.2)) fun k => if k.1 then
        R.bind (.ok [(eU ()), (D.int 5), (D.bl true), (D.tup []), ((eL D.str) [s2.2]), (D.tup [D.str s2.2]), (.dT [] : D), (D.str ("" : Str)), (D.str (":" : Str)), (D.str ("1" : Str)), (D.str ("1:" : Str)), (D.str ("0:" : Str)), (D.str ("9:" : Str)), (D.str ("10:" : Str)), (D.str ("01:" : Str))]) fun odd =>
        R.bind (R.bind (R.cat odd [(D.str ("9: 0-8a" : Str)), (D.str ("9: 0-9a" : Str)), (D.str (" 1:" : Str)), (D.str ("1: " : Str)), (D.str ("2: 0-1a 0-1b" : Str)), (D.str ("3: 1-2a 0-1a" : Str)), (D.str ("2: 1-0a" : Str)), (D.str ("2: 0-1" : Str))]) fun l => .ok l) fun odd1 =>
        R.bind (R.bind (R.cat odd1 [(D.str ("2: 0-1A" : Str)), (D.str ("2: 0-1aa" : Str)), (D.str ("2: a" : Str)), (D.str ("2: 0-1g" : Str)), (D.str ("3: 00-1a" : Str))]) fun l1 => R.bind (noX (M_l_one_of_2 k.2 l1)) fun p5 => .ok (p5.1, p5.2)) fun page2 =>
        .ok (page2.2, page2.1)
      else
        .ok (k.2, (D.str s2.2))) fun (s3 : (List (Int)) × (D)) =>
      R.bind (R.bind (M_l_is_page_D s3.2) fun is_page => R.bind ((if is_page then .ok ("read" : Str) else .ok ("refused" : Str) : R (Str))) fun z => R.bind (R.reprs (eD s3.2)) fun s4 => .ok [z, s4]) fun due =>
      R.bind (R.bind (M_l_read C s3.2 false) fun read => R.bind (M_l_read C s3.2 true) fun read1 => R.bind (R.eqD ((eL (eL D.str)) [read, read1]) ((eL (eL D.str)) [due, due])) fun k1 => .ok (!k1)) fun k2 => if k2 then
        R.bind (.ok (false, s3.1)) fun v => .ok (.ret v)
      else
      .ok (.nx s3.1)) xs1 jar_here) fun (s5 : (List (Int))) =>
  R.bind (.ok (true, s5)) fun v1 => .ok (.ret v1) : R (Ctl Unit Unit (Bool × List (Int))))
theorem S_l_right (C : Nat → Addr) (jar_here : List (Int)) : RefM (.lst (jar_here.map D.int)) (fun z => .val (D.bl z)) (fun j => .lst (j.map D.int)) (F_l_right C (.lst (jar_here.map D.int)) []) (M_l_right C jar_here) := by
  unfold M_l_right F_l_right
  refine RefM.of ?_
  rw [show startM 7 (.lst (jar_here.map D.int)) [] = ([.own (.lst (jar_here.map D.int)), .un, .un, .un, .un, .un, .un] : Rho) from rfl]
  unfold sv_l_right
  refine SR.seq (F1 := fun (s : (List (Int))) r => ∃ c5 : Cell, ∃ c : Cell, ∃ c1 : Cell, ∃ c2 : Cell, ∃ c4 : Cell, ∃ c3 : Cell, r = [.own (.lst (s.map D.int)), c5, c, c1, c2, c4, c3]) ?_ ?_
  · refine SR.forC (e := D.int) (xs := fun z => z) (s0 := fun _ => jar_here) (f := fun _ => [.own (.lst (jar_here.map D.int)), .un, .un, .un, .un, .un, .un]) (by
        refine ERef.pure ?_
        walk_at "sx"
        refine ERef.bind (op_rg1 _) fun xs => ?_
        walk_at "sx"
        refine ERef.ok ?_
        first | exact rfl | (walk_at "fin")) (fun _ => ⟨_, _, _, _, _, _, rfl⟩) ?_
    intro s x _ hr
    obtain ⟨c5, c, c1, c2, c4, c3, hr⟩ := hr
    subst hr
    refine ⟨[.own (.lst (s.map D.int)), .val (D.int x), c, c1, c2, c4, c3], rfl, ?_⟩
    walk_at "un"
    refine SR.set (v := fun size => .val (D.int size.1)) (f := fun size => [.own (.lst (size.2.map D.int)), .val (D.int x), c, c1, c2, c4, c3]) (by
        refine ERef.pure ?_
        walk_at "sx"
        refine ERef.bind (op_mut (S_l_one_of C s [1, 2, 3, 5, 9])) fun p => ?_
        walk_at "sx"
        refine ERef.ok ?_
        first | exact rfl | (walk_at "fin")) fun size => ?_
    walk_at "sx"
    refine SR.set (v := fun page => .val (D.str page.1)) (f := fun page => [.own (.lst (page.2.map D.int)), .val (D.int x), .val (D.int size.1), c1, c2, c4, c3]) (by
        refine ERef.pure ?_
        walk_at "sx"
        refine ERef.bind (op_mut (S_l_roads C size.2 size.1)) fun p1 => ?_
        walk_at "sx"
        refine ERef.bind (op_call (by first | exact trivial | rfl) (S_l_text C size.1 (cutD p1.1 none (some 9)))) fun text => ?_
        walk_at "sx"
        refine ERef.ok ?_
        first | exact rfl | (walk_at "fin")) fun page => ?_
    walk_at "sx"
    refine SR.cons (F1 := fun (s1 : (List (Int)) × (Str)) r => ∃ c6 : Cell, r = [.own (.lst (s1.1.map D.int)), .val (D.int x), .val (D.int size.1), .val (D.str s1.2), c6, c4, c3]) ?_ ?_
    · refine SN.forN (e := D.int) (xs := fun (z : List (Int) × (List (Int))) => z.1) (s0 := fun (xs3 : List (Int) × (List (Int))) => (xs3.2, page.1)) (f := fun (xs3 : List (Int) × (List (Int))) => [.own (.lst (xs3.2.map D.int)), .val (D.int x), .val (D.int size.1), .val (D.str page.1), c2, c4, c3]) (by
          refine ERef.pure ?_
          walk_at "sx"
          refine ERef.bind (op_mut (S_l_dip C page.2 4)) fun p2 => ?_
          walk_at "sx"
          refine ERef.bind (op_rg1 _) fun xs2 => ?_
          walk_at "sx"
          refine ERef.ok ?_
          first | exact rfl | (walk_at "fin")) (fun _ => ⟨_, rfl⟩) ?_
      intro s1 x1 _ hr
      obtain ⟨c6, hr⟩ := hr
      subst hr
      refine ⟨[.own (.lst (s1.1.map D.int)), .val (D.int x), .val (D.int size.1), .val (D.str s1.2), .val (D.int x1), c4, c3], rfl, ?_⟩
      walk_at "un"
      refine SN.end_ ?_
      refine SN.set (v := fun page1 => .val (D.str page1.1)) (f := fun page1 => [.own (.lst (page1.2.map D.int)), .val (D.int x), .val (D.int size.1), .val (D.str s1.2), .val (D.int x1), c4, c3]) (by
          refine ERef.pure ?_
          walk_at "sx"
          refine ERef.bind (op_mut (S_l_bent C s1.1 s1.2)) fun p3 => ?_
          walk_at "sx"
          refine ERef.ok ?_
          first | exact rfl | (walk_at "fin")) fun page1 => ?_
      walk_at "sx"
      exact SN.nil ⟨_, rfl⟩
    · intro s2 _ hr
      obtain ⟨c7, hr⟩ := hr
      subst hr
      refine SR.cons (F1 := fun (s3 : (List (Int)) × (D)) r => ∃ c8 : Cell, r = [.own (.lst (s3.1.map D.int)), .val (D.int x), .val (D.int size.1), .val (eD s3.2), c7, c4, c8]) ?_ ?_
      · refine SN.ifN (cnd := fun (k : Bool × (List (Int))) => k.1) (f := fun k => [.own (.lst (k.2.map D.int)), .val (D.int x), .val (D.int size.1), .val (D.str s2.2), c7, c4, c3]) (by
            refine ERef.pure ?_
            walk_at "sx"
            refine ERef.bind (op_mut (S_l_dip C s2.1 6)) fun p4 => ?_
            walk_at "sx"
            refine ERef.ok ?_
            first | exact rfl | (walk_at "fin")) (fun k => ?_) (fun k => ?_)
        · refine SN.set (v := fun odd => .new (.lst (odd.map eD))) (f := fun odd => [.own (.lst (k.2.map D.int)), .val (D.int x), .val (D.int size.1), .val (D.str s2.2), c7, c4, c3]) (by
              refine ERef.pure ?_
              walk_at "sx"
              refine ERef.ok ?_
              first | exact rfl | (walk_at "fin")) fun odd => ?_
          walk_at "sx"
          refine SN.set (v := fun odd1 => .new (.lst (odd1.map eD))) (f := fun odd1 => [.own (.lst (k.2.map D.int)), .val (D.int x), .val (D.int size.1), .val (D.str s2.2), c7, c4, .own (.lst (odd.map eD))]) (by
              refine ERef.pure ?_
              walk_at "sx"
              refine ERef.bind (op_cat eD odd [(D.str ("9: 0-8a" : Str)), (D.str ("9: 0-9a" : Str)), (D.str (" 1:" : Str)), (D.str ("1: " : Str)), (D.str ("2: 0-1a 0-1b" : Str)), (D.str ("3: 1-2a 0-1a" : Str)), (D.str ("2: 1-0a" : Str)), (D.str ("2: 0-1" : Str))]) fun l => ?_
              walk_at "sx"
              refine ERef.ok ?_
              first | exact rfl | (walk_at "fin")) fun odd1 => ?_
          walk_at "sx"
          refine SN.end_ ?_
          refine SN.set (v := fun page2 => .val (eD page2.1)) (f := fun page2 => [.own (.lst (page2.2.map D.int)), .val (D.int x), .val (D.int size.1), .val (D.str s2.2), c7, c4, .own (.lst (odd1.map eD))]) (by
              refine ERef.pure ?_
              walk_at "sx"
              refine ERef.bind (op_cat eD odd1 [(D.str ("2: 0-1A" : Str)), (D.str ("2: 0-1aa" : Str)), (D.str ("2: a" : Str)), (D.str ("2: 0-1g" : Str)), (D.str ("3: 00-1a" : Str))]) fun l1 => ?_
              walk_at "sx"
              refine ERef.bind (op_mut (S_l_one_of_2 C k.2 l1)) fun p5 => ?_
              walk_at "sx"
              refine ERef.ok ?_
              first | exact rfl | (walk_at "fin")) fun page2 => ?_
          walk_at "sx"
          exact SN.nil ⟨_, rfl⟩
        · exact SN.nil ⟨_, rfl⟩
      · intro s3 _ hr
        obtain ⟨c8, hr⟩ := hr
        subst hr
        refine SR.set (v := fun due => .new (.lst (due.map D.str))) (f := fun due => [.own (.lst (s3.1.map D.int)), .val (D.int x), .val (D.int size.1), .val (eD s3.2), c7, c4, c8]) (by
            refine ERef.pure ?_
            walk_at "sx"
            refine ERef.bind (op_call (by first | exact trivial | rfl) (S_l_is_page_D C s3.2)) fun is_page => ?_
            walk_at "sx"
            refine ERef.bind (op_eif (v := fun z => .val (D.str z)) (f := fun _ => [.own (.lst (s3.1.map D.int)), .val (D.int x), .val (D.int size.1), .val (eD s3.2), c7, c4, c8]) (by
                refine ERef.pure ?_
                walk_at "sx"
                refine ERef.ok ?_
                first | exact rfl | (walk_at "fin")) (by
                refine ERef.pure ?_
                walk_at "sx"
                refine ERef.ok ?_
                first | exact rfl | (walk_at "fin"))) fun z => ?_
            walk_at "sx"
            refine ERef.bind (op_reprs _) fun s4 => ?_
            walk_at "sx"
            refine ERef.ok ?_
            first | exact rfl | (walk_at "fin")) fun due => ?_
        walk_at "sx"
        refine SR.end_ ?_
        refine SR.ifX (cnd := fun (k2 : Bool) => k2) (f := fun k2 => [.own (.lst (s3.1.map D.int)), .val (D.int x), .val (D.int size.1), .val (eD s3.2), c7, .val ((eL D.str) due), c8]) (by
            refine ERef.pure ?_
            walk_at "sx"
            refine ERef.bind (op_call (by first | exact trivial | rfl) (S_l_read C s3.2 false)) fun read => ?_
            walk_at "sx"
            refine ERef.bind (op_call (by first | exact trivial | rfl) (S_l_read C s3.2 true)) fun read1 => ?_
            walk_at "sx"
            refine ERef.bind (op_ne _ _) fun k1 => ?_
            walk_at "sx"
            refine ERef.ok ?_
            first | exact rfl | (walk_at "fin")) (fun k2 => ?_) (fun k2 => ?_)
        · refine SR.ret (p := fun z => z) (v := fun v => .val (D.bl v.1)) (f := fun v => [.own (.lst (v.2.map D.int)), .val (D.int x), .val (D.int size.1), .val (eD s3.2), c7, .val ((eL D.str) due), c8]) (by
              refine ERef.pure ?_
              walk_at "sx"
              refine ERef.ok ?_
              first | exact rfl | (walk_at "fin")) fun _ => ⟨rfl, rfl⟩
        · exact SR.nil ⟨_, _, _, _, _, _, rfl⟩
  · intro s5 _ hr
    obtain ⟨c14, c9, c10, c11, c13, c12, hr⟩ := hr
    subst hr
    refine SR.ret (p := fun z => z) (v := fun v1 => .val (D.bl v1.1)) (f := fun v1 => [.own (.lst (v1.2.map D.int)), c14, c9, c10, c11, c13, c12]) (by
        refine ERef.pure ?_
        walk_at "sx"
        refine ERef.ok ?_
        first | exact rfl | (walk_at "fin")) fun _ => ⟨rfl, rfl⟩
def M_law (C : Nat → Addr) (cells : List Int) : R (Bool) := retOf (
  R.bind (R.bind (R.range1 (if (if 6 < (cells.length : Int) then 6 else (cells.length : Int)) > 2 then (if 6 < (cells.length : Int) then 6 else (cells.length : Int)) else 2)) fun xs => R.bind (R.grd (xs.length ≤ sizeLine) (noX (compR (fun x => .ok true) (fun x => R.bind (M_l_jar cells x) fun jar => R.bind (noX (M_l_right C jar)) fun p => .ok p.1) xs))) fun ys => .ok (ys.all id)) fun v => .ok (.ret v) : R (Ctl Unit Unit (Bool)))
theorem S_law (C : Nat → Addr) (cells : List Int) : RefF (fun z => .val (D.bl z)) (F_law C [D.scr cells]) (M_law C cells) := by
  unfold M_law F_law
  refine RefF.of ?_
  rw [show startR 2 [D.scr cells] = ([.val (D.scr cells), .un] : Rho) from rfl]
  unfold sv_law
  refine SR.ret (p := fun z => z) (v := fun v => .val (D.bl v)) (f := fun v => [.val (D.scr cells), .un]) (by
      refine ERef.pure ?_
      walk_at "sx"
      refine ERef.bind (op_rg1 _) fun xs => ?_
      walk_at "sx"
      refine ERef.bind (op_comp (e := D.int) (eY := D.bl) (r0 := [.val (D.scr cells), .un]) (ve := fun z => .val (D.bl z)) (fun _ => rfl) (by first | rfl | (walk_at "sx")) (by first | rfl | (walk_at "sx")) fun x => ⟨[.val (D.scr cells), .val (D.int x)], rfl, fun _ => [.val (D.scr cells), .val (D.int x)], by
            walk_at "un"
            refine ERef.pure ?_
            walk_at "sx"
            refine ERef.ok ?_
            first | exact rfl | (walk_at "fin"), by first | rfl | (walk_at "sx"), fun _ => [.val (D.scr cells), .val (D.int x)], by
            walk_at "un"
            refine ERef.pure ?_
            walk_at "sx"
            refine ERef.bind (op_call (by first | exact trivial | rfl) (S_l_jar C cells x)) fun jar => ?_
            walk_at "sx"
            refine ERef.bind (op_mut1 (S_l_right C jar)) fun p => ?_
            walk_at "sx"
            refine ERef.ok ?_
            first | exact rfl | (walk_at "fin"), fun _ => by first | rfl | (walk_at "sx")⟩) fun ys => ?_
      walk_at "sx"
      refine ERef.ok ?_
      first | exact rfl | (walk_at "fin")) fun _ => rfl
end Mp
set_option Elab.async false
set_option linter.all false
set_option maxRecDepth 100000
namespace Mp
open PySem PySem.Spec PyProof.Rows L2 Evl SX
/-! ### == of typed values -/
structure EqV {A : Type} (e : A → D) (f : A → PyData) (ok : A → Prop) (k : Nat) : Prop where
  py : ∀ a, toPy (e a) = some (f a)
  lay : ∀ a, ok a → (f a).canLay0 = true ∧ (f a).depth ≤ k
  inj : ∀ a b, PyData.eqv (f a) (f b) = true ↔ a = b
theorem EqV.eq {A : Type} [DecidableEq A] {e : A → D} {f : A → PyData} {ok : A → Prop} {k : Nat} (h : EqV e f ok k) (hk : k ≤ 64) {a b : A} (ha : ok a) (hb : ok b) : R.eqD (e a) (e b) = .ok (decide (a = b)) := by
  unfold R.eqD dEqB
  rw [h.py, h.py]
  dsimp only
  obtain ⟨a1, a2⟩ := h.lay a ha
  obtain ⟨b1, b2⟩ := h.lay b hb
  have s1 : SeqAt.shaped (f a) = true := by show (_ && _) = true; rw [a1, decide_eq_true (Nat.le_trans a2 hk)]; rfl
  have s2 : SeqAt.shaped (f b) = true := by show (_ && _) = true; rw [b1, decide_eq_true (Nat.le_trans b2 hk)]; rfl
  rw [s1, s2]
  show R.ofO (some _) = _
  show R.ok _ = _
  congr 1
  by_cases q : a = b
  · rw [decide_eq_true q]; exact (h.inj a b).mpr q
  · rw [decide_eq_false q]; exact Bool.eq_false_iff.mpr fun z => q ((h.inj a b).mp z)
theorem eqv_str : EqV D.str PyData.str Sgn 0 :=
  ⟨fun _ => rfl, fun a h => ⟨h.ok, Nat.le_refl _⟩, fun a b => by rw [PyData.eqv]; exact beq_iff_eq⟩
theorem eqv_int : EqV D.int PyData.int (fun _ => True) 0 :=
  ⟨fun _ => rfl, fun a h => ⟨rfl, Nat.le_refl _⟩, fun a b => by rw [PyData.eqv]; exact beq_iff_eq⟩
theorem toPyAll_map {A : Type} {e : A → D} {f : A → PyData} (h : ∀ a, toPy (e a) = some (f a)) : ∀ l : List A, toPy.toPyAll (l.map e) = some (l.map f)
  | [] => rfl
  | a :: l => by rw [List.map_cons, toPy.toPyAll, h, toPyAll_map h l]; rfl
theorem eqvAll_map {A : Type} {f : A → PyData} (h : ∀ a b, PyData.eqv (f a) (f b) = true ↔ a = b) : ∀ l m : List A, PyData.eqvAll (l.map f) (m.map f) = true ↔ l = m
  | [], [] => by simp [PyData.eqvAll]
  | [], b :: m => by simp [PyData.eqvAll]
  | a :: l, [] => by simp [PyData.eqvAll]
  | a :: l, b :: m => by
    rw [List.map_cons, List.map_cons, PyData.eqvAll, Bool.and_eq_true, h, eqvAll_map h l m, List.cons.injEq]
theorem lay_map {A : Type} {f : A → PyData} {ok : A → Prop} {k : Nat} (h : ∀ a, ok a → (f a).canLay0 = true ∧ (f a).depth ≤ k) : ∀ l : List A, (∀ a ∈ l, ok a) → PyData.canLayAll0 (l.map f) = true ∧ PyData.depthAll (l.map f) ≤ k
  | [], _ => ⟨rfl, by simp [PyData.depthAll]⟩
  | a :: l, hl => by
    obtain ⟨h1, h2⟩ := h a (hl a List.mem_cons_self)
    obtain ⟨i1, i2⟩ := lay_map h l fun x hx => hl x (List.mem_cons_of_mem _ hx)
    refine ⟨by rw [List.map_cons, PyData.canLayAll0, h1, i1]; rfl, ?_⟩
    rw [List.map_cons, PyData.depthAll]
    omega
theorem EqV.list {A : Type} {e : A → D} {f : A → PyData} {ok : A → Prop} {k : Nat} (h : EqV e f ok k) : EqV (fun l : List A => D.lst (l.map e)) (fun l : List A => .list (l.map f)) (fun l => ∀ a ∈ l, ok a) (k + 1) :=
  ⟨fun l => by rw [toPy, toPyAll_map h.py]; rfl, fun l hl => by
    obtain ⟨a, b⟩ := lay_map h.lay l hl
    exact ⟨by rw [PyData.canLay0]; exact a, by rw [PyData.depth]; omega⟩, fun l m => by
    rw [PyData.eqv, eqvAll_map h.inj]⟩
theorem EqV.tuple {A : Type} {e : A → D} {f : A → PyData} {ok : A → Prop} {k : Nat} (h : EqV e f ok k) : EqV (fun l : List A => D.tup (l.map e)) (fun l : List A => .tuple (l.map f)) (fun l => ∀ a ∈ l, ok a) (k + 1) :=
  ⟨fun l => by rw [toPy, toPyAll_map h.py]; rfl, fun l hl => by
    obtain ⟨a, b⟩ := lay_map h.lay l hl
    exact ⟨by rw [PyData.canLay0]; exact a, by rw [PyData.depth]; omega⟩, fun l m => by
    rw [PyData.eqv, eqvAll_map h.inj]⟩
end Mp
set_option Elab.async false
set_option linter.all false
set_option maxRecDepth 100000
namespace Mp
open PySem PySem.Spec PyProof.Rows L2 Evl SX
/-! ### texts by their signs -/
def SG (a : List Nat) : Prop := ∀ c ∈ a, c < 1114112
theorem SG.s {a : List Nat} (h : SG a) : Sgn (S a) := fun c hc => h c (by simpa using hc)
theorem SG.app {a b : List Nat} (h : SG a) (k : SG b) : SG (a ++ b) := fun c hc => by
  rcases List.mem_append.mp hc with q | q
  · exact h c q
  · exact k c q
theorem SG.sub {a b : List Nat} (h : SG a) (k : ∀ c ∈ b, c ∈ a) : SG b := fun c hc => h c (k c hc)
theorem SG.take {a : List Nat} (h : SG a) (n : Nat) : SG (a.take n) := h.sub fun c => List.mem_of_mem_take
theorem SG.drop {a : List Nat} (h : SG a) (n : Nat) : SG (a.drop n) := h.sub fun c => List.mem_of_mem_drop
theorem SG.one {c : Nat} (h : c < 1114112) : SG [c] := fun d hd => by rw [List.mem_singleton] at hd; subst hd; exact h
theorem SG.nil : SG [] := fun _ h => nomatch h
theorem SG.small {a : List Nat} (h : a.all (fun c => decide (c < 1114112)) = true) : SG a := fun c hc => of_decide_eq_true (List.all_eq_true.mp h c hc)
theorem sz_eq : sizeLine = 16777216 := sizeLine_eq
theorem S_len' (a : List Nat) : (S a).length = a.length := S_len a
theorem r_eqS {a b : List Nat} (ha : SG a) (hb : SG b) : R.eqD (D.str (S a)) (D.str (S b)) = .ok (decide (a = b)) := by
  rw [eqv_str.eq (by omega) ha.s hb.s]
  congr 1
  exact decide_eq_decide.mpr ⟨S_inj, fun h => by rw [h]⟩
theorem r_inS (c : Nat) (z : List Nat) : R.inD (D.str (S [c])) (D.str (S z)) = .ok (decide (c ∈ z)) := by
  show R.ofO (some _) = _
  simp
  rfl
theorem r_lenS {a : List Nat} (h : a.length ≤ 16777216) : R.lenS (S a) = .ok (a.length : Int) := by
  unfold R.lenS
  rw [R.grd_pos (by rw [sz_eq, S_len]; exact h), S_len]
theorem r_cut {a : List Nat} {lo hi : Option Int} (h : a.length ≤ 16777216) : R.cutZ (S a) lo hi = .ok (Txt.slice (S a) lo hi) := by
  unfold R.cutZ
  rw [R.grd_pos (by rw [sz_eq, S_len]; exact h), C8.cutS_slice]
theorem r_butlast {a : List Nat} (h : a.length ≤ 16777216) : R.cutZ (S a) none (some (-1)) = .ok (S (a.take (a.length - 1))) := by
  rw [r_cut h]
  by_cases e : a = []
  · subst e; rfl
  · rw [slice_butlast e]
theorem r_last {a : List Nat} (h : a.length ≤ 16777216) : R.cutZ (S a) (some (-1)) none = .ok (S (a.drop (a.length - 1))) := by
  rw [r_cut h]
  by_cases e : a = []
  · subst e; rfl
  · rw [slice_last e]
theorem r_to {a : List Nat} {i : Int} (h : a.length ≤ 16777216) (hi : 0 ≤ i) : R.cutZ (S a) none (some i) = .ok (S (a.take i.toNat)) := by rw [r_cut h, slice_to hi]
theorem r_from {a : List Nat} {i : Int} (h : a.length ≤ 16777216) (hi : 0 ≤ i) : R.cutZ (S a) (some i) none = .ok (S (a.drop i.toNat)) := by rw [r_cut h, slice_from hi]
theorem r_catS {a b : List Nat} (h : a.length + b.length ≤ 16777216) : R.catS (S a) (S b) = .ok (S (a ++ b)) := by
  unfold R.catS
  rw [R.grd_pos (by rw [sz_eq, S_len, S_len]; exact h), S_cat]
theorem at_nat {A : Type} (l : List A) (k : Nat) : atI l (k : Int) = l[k]? := by
  unfold atI ixN
  rw [if_pos (Int.natCast_nonneg k)]
  by_cases h : k < l.length
  · rw [if_pos (by omega)]; rfl
  · rw [if_neg (by omega), List.getElem?_eq_none (by omega)]; rfl
theorem r_at {A : Type} {l : List A} {k : Nat} {x : A} (h : l[k]? = some x) : R.at_ l (k : Int) = .ok x := by
  unfold R.at_; rw [at_nat, h]; rfl
theorem r_atS {a : List Nat} {c : Nat} (k : Nat) (h : a.length ≤ 16777216) (e : a[k]? = some c) : R.atS (S a) (k : Int) = .ok (S [c]) := by
  unfold R.atS
  rw [R.grd_pos (by rw [sz_eq, S_len]; exact h)]
  have : atI (S a).cps.toList (k : Int) = some c := by
    rw [at_nat]; exact e
  rw [this]
  rfl
theorem r_split {a b : List Nat} (hb : b ≠ []) (hk : b.all (· < 256) = true) (h : a.length + 2 ≤ 16777216) : R.split (S a) (S b) = .ok ((TL.spl b 0 [] a).map S) := by
  unfold R.split
  rw [R.grd_pos ⟨by rw [S_len]; cases b with
    | nil => exact absurd rfl hb
    | cons c b => rfl, by rw [sz_eq, S_len]; exact h⟩, split_S hb hk]
theorem r_join {a : List Nat} {ys : List (List Nat)} (h : (ys.map (·.length)).sum + ys.length * a.length ≤ 16777216) : R.join (S a) (ys.map S) = .ok (S (TL.joinL a ys)) := by
  unfold R.join
  rw [R.grd_pos (by rw [lens, List.length_map, S_len]; exact h), join_S]
theorem r_chars (a : List Nat) : R.chars (S a) = a.map fun c => S [c] := rfl
theorem r_listS {a : List Nat} (h : a.length ≤ 16777216) : R.listS (S a) = .ok (a.map fun c => S [c]) := by
  unfold R.listS
  rw [R.grd_pos (by rw [sz_eq, S_len]; exact h), r_chars]
theorem l_sp : (" " : Str) = S [32] := rfl
theorem l_em : ("" : Str) = S [] := rfl
theorem l_co : (":" : Str) = S [58] := rfl
theorem l_mi : ("-" : Str) = S [45] := rfl
theorem l_dg : ("0123456789" : Str) = S [48, 49, 50, 51, 52, 53, 54, 55, 56, 57] := rfl
theorem l_hu : ("abcdef" : Str) = S [97, 98, 99, 100, 101, 102] := rfl
theorem l_0 : ("0" : Str) = S [48] := rfl
theorem cutD_from {A : Type} (l : List A) (k : Nat) : cutD l (some (k : Int)) none = l.drop k := by
  unfold cutD HT.sIx
  simp only [show ¬ ((k : Int) < 0) by omega, if_false]
  by_cases h : k ≤ l.length
  · rw [show min ((k : Int)).toNat l.length = k by omega]
    exact List.take_of_length_le (by rw [List.length_drop]; omega)
  · rw [List.drop_eq_nil_of_le (by omega), List.drop_eq_nil_of_le (by omega), List.take_nil]
theorem cutD_to {A : Type} (l : List A) (k : Nat) : cutD l none (some (k : Int)) = l.take k := by
  unfold cutD HT.sIx
  simp only [show ¬ ((k : Int) < 0) by omega, if_false, List.drop_zero, Nat.sub_zero]
  by_cases h : k ≤ l.length
  · rw [show min ((k : Int)).toNat l.length = k by omega]
  · rw [List.take_of_length_le (by omega), List.take_of_length_le (by omega)]
/-- a text split and joined again -/
theorem spl_back {b : List Nat} (hb : b ≠ []) (hk : b.all (· < 256) = true) (a : List Nat) : TL.joinL b (TL.spl b 0 [] a) = a := by
  have h := StrLaws.join_split (S a) (S b)
  rw [← TL.join_eq, split_S hb hk, join_S] at h
  exact S_inj h
end Mp
set_option Elab.async false
set_option linter.all false
set_option maxRecDepth 100000
namespace Mp
open PySem PySem.Spec PyProof.Rows L2 Evl SX
def isDig (c : Nat) : Bool := decide (48 ≤ c) && decide (c ≤ 57)
theorem mem_dg (c : Nat) : decide (c ∈ [48, 49, 50, 51, 52, 53, 54, 55, 56, 57]) = isDig c := by
  unfold isDig
  rw [← Bool.decide_and]
  refine decide_eq_decide.mpr ?_
  simp only [List.mem_cons, List.not_mem_nil, or_false]
  omega
def num (a : List Nat) : Int := if a = [] ∨ a.all isDig = false ∨ (a.head? = some 48 ∧ a ≠ [48]) then -1 else ((NumText.digitsVal a : Nat) : Int)
theorem comp_nd : ∀ a : List Nat, compR (fun x => R.bind (R.inD (D.str x) (D.str ("0123456789" : Str))) fun k1 => .ok (!k1)) (fun x => .ok x) (a.map fun c => S [c]) = .ok ((a.filter fun c => !isDig c).map fun c => S [c])
  | [] => rfl
  | c :: a => by
    rw [List.map_cons, compR, l_dg, r_inS, mem_dg, R.ok_bind, R.ok_bind, List.filter_cons]
    have ih := comp_nd a
    rw [l_dg] at ih
    cases isDig c with
    | true => rw [if_neg (by decide), if_neg (by decide)]; exact ih
    | false => rw [if_pos (by decide), if_pos (by decide), R.ok_bind, ih, R.ok_bind]; rfl
theorem nd_nil (a : List Nat) : decide ((a.filter fun c => !isDig c).map (fun c => S [c]) = []) = a.all isDig := by
  rw [Bool.eq_iff_iff, decide_eq_true_iff, List.map_eq_nil_iff, List.filter_eq_nil_iff, List.all_eq_true]
  exact forall_congr' fun c => forall_congr' fun _ => by cases isDig c <;> simp
theorem M_num {a : List Nat} (h : SG a) (hl : a.length ≤ 640) : M_l_number (S a) = .ok (num a) := by
  have hz : a.length ≤ 16777216 := by omega
  unfold M_l_number
  rw [l_em, r_eqS h SG.nil, R.ok_bind]
  by_cases e : a = []
  · subst e; rfl
  rw [decide_eq_false e, if_neg Bool.false_ne_true, R.grd_pos (by rw [r_chars, List.length_map, sz_eq]; exact hz), r_chars, comp_nd, noX_ok, R.ok_bind]
  have hy : ∀ y ∈ (a.filter fun c => !isDig c).map (fun c => S [c]), Sgn y := fun y hy => by
    obtain ⟨c, hc, rfl⟩ := List.mem_map.mp hy
    exact (SG.one (h c (List.mem_filter.mp hc).1)).s
  rw [show R.eqD ((eL D.str) ((a.filter fun c => !isDig c).map fun c => S [c])) ((eL D.str) []) = _ from eqv_str.list.eq (by omega) hy (fun _ z => nomatch z), R.ok_bind, nd_nil]
  cases hd : a.all isDig with
  | false =>
    rw [show num a = -1 from if_pos (.inr (.inl hd))]; rfl
  | true =>
    obtain ⟨c, r, rfl⟩ : ∃ c r, a = c :: r := by cases a with | nil => exact absurd rfl e | cons c r => exact ⟨c, r, rfl⟩
    rw [if_neg (by decide), show (0 : Int) = ((0 : Nat) : Int) from rfl, r_atS 0 hz rfl, R.ok_bind, l_0, r_eqS (SG.one (h c List.mem_cons_self)) (SG.small (by decide)), R.ok_bind, r_eqS h (SG.small (by decide)), R.ok_bind]
    have hint : R.intS (S (c :: r)) = .ok ((NumText.digitsVal (c :: r) : Nat) : Int) := by
      unfold R.intS
      rw [R.grd_pos (by rw [S_len]; exact hl), int_S (by simpa [isDig] using hd) (by simp) (by omega)]
      rfl
    rw [hint]
    by_cases e0 : c = 48
    · subst e0
      by_cases e1 : r = []
      · subst e1
        rfl
      · rw [show num (48 :: r) = -1 from if_pos (.inr (.inr ⟨rfl, by simpa using e1⟩))]
        simp [retOf, R.bind, e1]
    · rw [show num (c :: r) = _ from if_neg (by simp [e0, hd])]
      simp [retOf, R.bind, e0]
end Mp
set_option Elab.async false
set_option linter.all false
set_option maxRecDepth 100000
namespace Mp
open PySem PySem.Spec PyProof.Rows L2 Evl SX
theorem dv_mono (cs : List Nat) : ∀ acc : Nat, acc ≤ cs.foldl (fun acc c => acc * 10 + (c - 48)) acc := by
  induction cs with
  | nil => exact fun acc => Nat.le_refl _
  | cons c cs ih => exact fun acc => Nat.le_trans (by show acc ≤ acc * 10 + (c - 48); omega) (ih _)
theorem num_small {a : List Nat} (h0 : 0 ≤ num a) (h1 : num a < 10) : ∃ n : Nat, n < 10 ∧ a = [48 + n] ∧ num a = (n : Int) := by
  unfold num at h0 h1 ⊢
  split at h0
  · omega
  rename_i hn
  rw [if_neg hn] at h1 ⊢
  simp only [not_or, not_and, Bool.not_eq_false] at hn
  obtain ⟨n1, n2, n3⟩ := hn
  match a, n1, n2, n3 with
  | [c], _, n2, _ =>
    have hc : isDig c = true := by simpa using n2
    unfold isDig at hc
    simp only [Bool.and_eq_true, decide_eq_true_eq] at hc
    refine ⟨c - 48, by omega, by rw [show 48 + (c - 48) = c by omega], ?_⟩
    show ((NumText.digitsVal [c] : Nat) : Int) = _
    show (((0 * 10 + (c - 48) : Nat)) : Int) = _
    omega
  | c :: d :: r, _, n2, n3 =>
    exfalso
    have hc : isDig c = true := by
      simp only [List.all_cons, Bool.and_eq_true] at n2; exact n2.1
    unfold isDig at hc
    simp only [Bool.and_eq_true, decide_eq_true_eq] at hc
    have c48 : c ≠ 48 := fun e => by
      subst e
      exact absurd (n3 rfl) (by simp)
    have : 10 ≤ NumText.digitsVal (c :: d :: r) := by
      show 10 ≤ r.foldl (fun acc c => acc * 10 + (c - 48)) ((0 * 10 + (c - 48)) * 10 + (d - 48))
      exact Nat.le_trans (by omega) (dv_mono r _)
    omega
theorem num_dig : ∀ n : _root_.Fin 10, num [48 + (n : Nat)] = ((n : Nat) : Int) := by decide +kernel
theorem num_dig' {n : Nat} (h : n < 10) : num [48 + n] = (n : Int) := num_dig ⟨n, h⟩
/-! words -/
theorem joinL_mem (b : List Nat) : ∀ ws : List (List Nat), ∀ w ∈ ws, w.length ≤ (TL.joinL b ws).length ∧ ∀ c ∈ w, c ∈ TL.joinL b ws
  | [], w, h => nomatch h
  | [p], w, h => by rw [List.mem_singleton] at h; subst h; exact ⟨Nat.le_refl _, fun c h => h⟩
  | p :: q :: r, w, h => by
    rw [TL.joinL]
    rcases List.mem_cons.mp h with rfl | h
    · exact ⟨by rw [List.length_append]; omega, fun c hc => List.mem_append_left _ hc⟩
    · obtain ⟨h1, h2⟩ := joinL_mem b (q :: r) w h
      refine ⟨by rw [List.length_append, List.length_append]; omega, fun c hc => List.mem_append_right _ (List.mem_append_right _ (h2 c hc))⟩
theorem joinL_len (b : List Nat) : ∀ ws : List (List Nat), ws ≠ [] → (TL.joinL b ws).length + b.length = (ws.map (·.length)).sum + ws.length * b.length
  | [], h => absurd rfl h
  | [p], _ => by simp [TL.joinL]
  | p :: q :: r, _ => by
    rw [TL.joinL, List.length_append, List.length_append]
    have := joinL_len b (q :: r) (by simp)
    simp only [List.map_cons, List.sum_cons, List.length_cons] at this ⊢
    rw [Nat.succ_mul (r.length + 1)]
    omega
def Wd (a : List Nat) : List (List Nat) := TL.spl [32] 0 [] a
theorem Wd_back (a : List Nat) : TL.joinL [32] (Wd a) = a := spl_back (by simp) (by decide) a
theorem spl_ne (b : List Nat) : ∀ (a acc : List Nat) (k : Nat), TL.spl b k acc a ≠ []
  | [], acc, k => by rw [TL.spl_nil]; simp
  | c :: r, acc, 0 => by
    rw [TL.spl]
    split
    · simp
    · exact spl_ne b r _ 0
  | c :: r, acc, k + 1 => by rw [TL.spl]; exact spl_ne b r acc k
theorem Wd_ne (a : List Nat) : Wd a ≠ [] := spl_ne _ _ _ _
theorem Wd_cons (a : List Nat) : ∃ w ws, Wd a = w :: ws := by
  cases h : Wd a with
  | nil => exact absurd h (Wd_ne a)
  | cons w ws => exact ⟨w, ws, rfl⟩
theorem Wd_mem {a w : List Nat} (h : w ∈ Wd a) : w.length ≤ a.length ∧ ∀ c ∈ w, c ∈ a := by
  have := joinL_mem [32] (Wd a) w h
  rw [Wd_back] at this
  exact this
theorem Wd_len (a : List Nat) : (Wd a).length ≤ a.length + 1 := by
  have := joinL_len [32] (Wd a) (Wd_ne a)
  rw [Wd_back] at this
  simp only [List.length_singleton, Nat.mul_one] at this
  omega
/-! a road's word -/
def isHue (c : Nat) : Bool := decide (97 ≤ c) && decide (c ≤ 102)
theorem mem_hu (c : Nat) : decide (c ∈ [97, 98, 99, 100, 101, 102]) = isHue c := by
  unfold isHue
  rw [← Bool.decide_and]
  refine decide_eq_decide.mpr ?_
  simp only [List.mem_cons, List.not_mem_nil, or_false]
  omega
/-- low, high, hue of a word that is right for n places -/
def pw (n : Nat) : List Nat → Option (Nat × Nat × Nat)
  | [x, m, y, h] => if isDig x && isDig y && isHue h && decide (m = 45) && decide (x < y) && decide (y < 48 + n) then some (x - 48, y - 48, h) else none
  | _ => none
theorem pw_some {n : Nat} {w : List Nat} {a b h : Nat} (e : pw n w = some (a, b, h)) (hn : n ≤ 9) : w = [48 + a, 45, 48 + b, h] ∧ a < b ∧ b < n ∧ isHue h = true := by
  unfold pw at e
  split at e
  · split at e
    · rename_i hc
      unfold isDig at hc
      simp only [Bool.and_eq_true, decide_eq_true_eq] at hc
      obtain ⟨⟨⟨⟨⟨hx, hy⟩, hh⟩, rfl⟩, h1⟩, h2⟩ := hc
      simp only [Option.some.injEq, Prod.mk.injEq] at e
      obtain ⟨rfl, rfl, rfl⟩ := e
      rename_i x y h
      exact ⟨by rw [show 48 + (x - 48) = x by omega, show 48 + (y - 48) = y by omega], by omega, by omega, hh⟩
    · cases e
  · cases e
theorem pw_of {n a b h : Nat} (hn : n ≤ 9) (h1 : a < b) (h2 : b < n) (h3 : isHue h = true) : pw n [48 + a, 45, 48 + b, h] = some (a, b, h) := by
  have hc : (isDig (48 + a) && isDig (48 + b) && isHue h && decide ((45 : Nat) = 45) && decide (48 + a < 48 + b) && decide (48 + b < 48 + n)) = true := by
    unfold isDig
    simp only [Bool.and_eq_true, decide_eq_true_eq]
    exact ⟨⟨⟨⟨⟨⟨by omega, by omega⟩, by omega, by omega⟩, h3⟩, trivial⟩, by omega⟩, by omega⟩
  show (if _ then some (48 + a - 48, 48 + b - 48, h) else none) = _
  rw [if_pos hc, show 48 + a - 48 = a by omega, show 48 + b - 48 = b by omega]
theorem take_drop_one {w : List Nat} {h : Nat} (e : w.drop (w.length - 1) = [h]) : w = w.take (w.length - 1) ++ [h] := by
  conv => lhs; rw [← List.take_append_drop (w.length - 1) w, e]
theorem spl_two : ∀ a b : _root_.Fin 10, TL.spl [45] 0 [] [48 + (a : Nat), 45, 48 + (b : Nat)] = [[48 + (a : Nat)], [48 + (b : Nat)]] := by decide +kernel
/-- what the law asks of a word -/
theorem word_iff {n : Nat} (hn : n ≤ 9) (w : List Nat) : (∃ a b h, pw n w = some (a, b, h)) ↔ (∃ h, isHue h = true ∧ w.drop (w.length - 1) = [h]) ∧ ∃ p q, TL.spl [45] 0 [] (w.take (w.length - 1)) = [p, q] ∧ 0 ≤ num p ∧ num p < num q ∧ num q < (n : Int) := by
  constructor
  · rintro ⟨a, b, h, e⟩
    obtain ⟨rfl, h1, h2, h3⟩ := pw_some e hn
    refine ⟨⟨h, h3, rfl⟩, [48 + a], [48 + b], spl_two ⟨a, by omega⟩ ⟨b, by omega⟩, ?_⟩
    rw [num_dig' (by omega), num_dig' (by omega)]
    omega
  · rintro ⟨⟨h, h3, e⟩, p, q, e2, k1, k2, k3⟩
    obtain ⟨a, ha, rfl, na⟩ := num_small k1 (by omega)
    obtain ⟨b, hb, rfl, nb⟩ := num_small (a := q) (by omega) (by omega)
    have back := spl_back (b := [45]) (by simp) (by decide) (w.take (w.length - 1))
    rw [e2] at back
    have back : [48 + a, 45, 48 + b] = w.take (w.length - 1) := back
    have hw := take_drop_one e
    rw [← back] at hw
    exact ⟨a, b, h, by rw [hw]; exact pw_of hn (by omega) (by omega) h3⟩
end Mp
set_option Elab.async false
set_option linter.all false
set_option maxRecDepth 100000
namespace Mp
open PySem PySem.Spec PyProof.Rows L2 Evl SX
def lpB (q1 : Int) (s2 : Int × Int) (x2 : Str) : R (Ctl (Int × Int) (Int × Int) Bool) :=
      R.bind (R.bind (R.cutZ x2 none (some (-1))) fun s3 => R.bind (R.split s3 ("-" : Str)) fun l1 => R.bind (R.grd (l1.length ≤ sizeLine) (noX (compR (fun x3 => .ok true) (fun x3 => R.bind (M_l_number x3) fun number1 => .ok number1) l1))) fun ys => .ok ys) fun ends =>
      R.bind (R.bind (R.cutZ x2 (some (-1)) none) fun s4 => R.bind (R.listS ("abcdef" : Str)) fun l2 => R.bind (R.inD (D.str s4) ((eL D.str) l2)) fun k7 => R.bind ((if (!k7) then .ok true else R.bind ((if (!(decide ((ends.length : Int) = 2))) then .ok true else R.bind (R.at_ ends 0) fun x4 => R.bind ((if (decide (0 ≤ x4)) then R.bind (R.at_ ends 1) fun x5 => R.bind ((.ok ((decide (x4 < x5)) && (decide (x5 < q1))) : R Bool)) fun k8 => .ok k8 else .ok false : R Bool)) fun k9 => .ok (!k9) : R Bool)) fun k10 => .ok k10 : R Bool)) fun k11 => .ok k11) fun k12 => if k12 then
        R.bind (.ok false) fun v2 => .ok (.ret v2)
      else
      R.bind (R.bind (R.at_ ends 0) fun x6 => R.bind (R.at_ ends 1) fun x7 => .ok (!(HT.lexLt [(s2).1, (s2).2] [((x6, x7)).1, ((x6, x7)).2]))) fun k13 => if k13 then
        R.bind (.ok false) fun v3 => .ok (.ret v3)
      else
      R.bind (R.bind (R.at_ ends 0) fun x8 => R.bind (R.at_ ends 1) fun x9 => .ok (x8, x9)) fun last =>
      .ok (.nx last)
theorem page_eq (page : Str) : M_l_is_page page = retOf (
  R.bind (R.bind ((if (!true) then .ok true else R.bind (R.eqD (D.str page) (D.str ("" : Str))) fun k => .ok k : R Bool)) fun k1 => .ok k1) fun k2 => if k2 then
    R.bind (.ok false) fun v => .ok (.ret v)
  else
  R.bind (R.bind (R.split page (" " : Str)) fun l => .ok l) fun words =>
  R.bind (R.bind (R.at_ words 0) fun x => R.bind (R.cutZ x none (some (-1))) fun s => R.bind (M_l_number s) fun number => .ok (number, ((-1), (-1)))) fun q =>
  R.bind (R.bind (R.at_ words 0) fun x1 => R.bind (R.cutZ x1 (some (-1)) none) fun s1 => R.bind (R.eqD (D.str s1) (D.str (":" : Str))) fun k3 => R.bind ((if (!k3) then .ok true else R.bind ((.ok ((decide (0 < q.1)) && (decide (q.1 < 10))) : R Bool)) fun k4 => .ok (!k4) : R Bool)) fun k5 => .ok k5) fun k6 => if k6 then
    R.bind (.ok false) fun v1 => .ok (.ret v1)
  else
  R.seq (R.bind (.ok (cutD words (some 1) none)) fun xs => forC (lpB q.1) xs q.2) fun (s5 : ((Int × Int))) =>
  R.bind (.ok true) fun v4 => .ok (.ret v4) : R (Ctl Unit Unit (Bool))) := rfl
theorem lexLt2 (x y z w : Int) : HT.lexLt [x, y] [z, w] = decide (x < z ∨ (x = z ∧ y < w)) := by
  rw [HT.lexLt_cons, HT.lexLt_cons, HT.lexLt_nil_nil]
  by_cases h : x = z
  · subst h
    rw [if_pos rfl]
    by_cases k : y = w
    · subst k
      rw [if_pos rfl]
      simp
    · rw [if_neg k]
      simp
  · rw [if_neg h]
    simp [h]
theorem comp_num : ∀ ps : List (List Nat), (∀ p ∈ ps, SG p ∧ p.length ≤ 640) → compR (fun x3 => .ok true) (fun x3 => R.bind (M_l_number x3) fun number1 => .ok number1) (ps.map S) = .ok (ps.map num)
  | [], _ => rfl
  | p :: ps, h => by
    obtain ⟨h1, h2⟩ := h p List.mem_cons_self
    rw [List.map_cons, compR, R.ok_bind, if_pos rfl, M_num h1 h2, R.ok_bind, R.ok_bind, comp_num ps fun q hq => h q (List.mem_cons_of_mem _ hq), R.ok_bind]
    rfl
/-- s is one of the hues, as the law asks it -/
def hueEnd : List Nat → Bool
  | [h] => isHue h
  | _ => false
theorem hueEnd_iff {a : List Nat} : hueEnd a = true ↔ ∃ h, isHue h = true ∧ a = [h] := by
  constructor
  · intro h
    match a, h with
    | [c], h => exact ⟨c, h, rfl⟩
  · rintro ⟨h, k, rfl⟩; exact k
theorem in_hues {a : List Nat} : R.inD (D.str (S a)) ((eL D.str) ([97, 98, 99, 100, 101, 102].map fun c => S [c])) = .ok (hueEnd a) := by
  have e : R.inD (D.str (S a)) ((eL D.str) ([97, 98, 99, 100, 101, 102].map fun c => S [c])) = .ok (inV (.str (S a)) ([97, 98, 99, 100, 101, 102].map fun c => V.str (S [c]))) := rfl
  rw [e]
  congr 1
  rw [Bool.eq_iff_iff, hueEnd_iff]
  simp only [inV, List.map_cons, List.map_nil, List.any_cons, List.any_nil, eqV, S_beq_eq, Bool.or_eq_true, decide_eq_true_iff, Bool.or_false]
  constructor
  · rintro (h | h | h | h | h | h) <;> first | exact ⟨97, rfl, h.symm⟩ | exact ⟨98, rfl, h.symm⟩ | exact ⟨99, rfl, h.symm⟩ | exact ⟨100, rfl, h.symm⟩ | exact ⟨101, rfl, h.symm⟩ | exact ⟨102, rfl, h.symm⟩ | exact ⟨97, rfl, h⟩ | exact ⟨98, rfl, h⟩ | exact ⟨99, rfl, h⟩ | exact ⟨100, rfl, h⟩ | exact ⟨101, rfl, h⟩ | exact ⟨102, rfl, h⟩
  · rintro ⟨c, hc, rfl⟩
    simp only [isHue, Bool.and_eq_true, decide_eq_true_eq] at hc
    simp only [List.cons.injEq, and_true]
    omega
/-- the last low and high, as the law holds them -/
def li : Option (Nat × Nat) → Int × Int
  | none => (-1, -1)
  | some (a, b) => ((a : Int), (b : Int))
def lexok (l : Option (Nat × Nat)) (a b : Nat) : Bool := match l with
  | none => true
  | some (c, d) => decide (c < a ∨ (c = a ∧ d < b))
theorem lex_li (l : Option (Nat × Nat)) (a b : Nat) : HT.lexLt [(li l).1, (li l).2] [(a : Int), (b : Int)] = lexok l a b := by
  rw [lexLt2]
  cases l with
  | none => simp [li, lexok]; omega
  | some p => obtain ⟨c, d⟩ := p; simp only [li, lexok]; refine decide_eq_decide.mpr ?_; omega
theorem lpB_ok {n : Nat} (hn : n ≤ 9) (l : Option (Nat × Nat)) {w : List Nat} (h : SG w) (hl : w.length ≤ 600) : lpB (n : Int) (li l) (S w) = .ok (match pw n w with
    | none => .ret false
    | some (a, b, _) => if lexok l a b then .nx (li (some (a, b))) else .ret false) := by
  have hz : w.length ≤ 16777216 := by omega
  have hp : ∀ p ∈ TL.spl [45] 0 [] (w.take (w.length - 1)), SG p ∧ p.length ≤ 640 := fun p hp => by
    have := joinL_mem [45] _ p hp
    rw [spl_back (by simp) (by decide)] at this
    exact ⟨(h.take _).sub this.2, by have := this.1; rw [List.length_take] at this; omega⟩
  have hlen : (TL.spl [45] 0 [] (w.take (w.length - 1))).length ≤ 16777216 := by
    have := joinL_len [45] (TL.spl [45] 0 [] (w.take (w.length - 1))) (spl_ne _ _ _ _)
    rw [spl_back (by simp) (by decide), List.length_take] at this
    simp only [List.length_singleton, Nat.mul_one] at this
    omega
  unfold lpB
  rw [r_butlast hz, R.ok_bind, l_mi, r_split (by simp) (by decide) (by rw [List.length_take]; omega), R.ok_bind, R.grd_pos (by rw [sz_eq, List.length_map]; exact hlen), comp_num _ hp, noX_ok, R.ok_bind, R.ok_bind, r_last hz, R.ok_bind, l_hu, r_listS (by decide), R.ok_bind, in_hues, R.ok_bind]
  cases hc : hueEnd (w.drop (w.length - 1)) with
  | false =>
    have c1 : ¬ ∃ h, isHue h = true ∧ w.drop (w.length - 1) = [h] := fun z => by rw [hueEnd_iff.mpr z] at hc; cases hc
    have hnone : pw n w = none := by
      cases e : pw n w with
      | none => rfl
      | some t => obtain ⟨a, b, h⟩ := t; exact absurd ((word_iff hn w).mp ⟨a, b, h, e⟩).1 c1
    rw [hnone]
    rfl
  | true =>
  have c1 := hueEnd_iff.mp hc
  by_cases c2 : ∃ p q, TL.spl [45] 0 [] (w.take (w.length - 1)) = [p, q]
  case neg =>
    have hnone : pw n w = none := by
      cases e : pw n w with
      | none => rfl
      | some t => obtain ⟨a, b, h⟩ := t; obtain ⟨p, q, k, _⟩ := ((word_iff hn w).mp ⟨a, b, h, e⟩).2; exact absurd ⟨p, q, k⟩ c2
    have : ¬ ((((TL.spl [45] 0 [] (w.take (w.length - 1))).map num).length : Int) = 2) := fun e => by
      rw [List.length_map] at e
      generalize hg : TL.spl [45] 0 [] (w.take (w.length - 1)) = L at e c2
      match L, e with
      | [p, q], _ => exact c2 ⟨p, q, rfl⟩
    rw [hnone, decide_eq_false this]
    rfl
  obtain ⟨p, q, e2⟩ := c2
  rw [e2]
  have a0 : R.at_ (List.map num [p, q]) 0 = .ok (num p) := r_at (k := 0) rfl
  have a1 : R.at_ (List.map num [p, q]) 1 = .ok (num q) := r_at (k := 1) rfl
  rw [a0, a1]
  simp only [R.ok_bind]
  by_cases c3 : 0 ≤ num p ∧ num p < num q ∧ num q < (n : Int)
  case neg =>
    have hnone : pw n w = none := by
      cases e : pw n w with
      | none => rfl
      | some t =>
        obtain ⟨a, b, h⟩ := t
        obtain ⟨p', q', k, k2⟩ := ((word_iff hn w).mp ⟨a, b, h, e⟩).2
        rw [e2] at k
        cases k
        exact absurd k2 c3
    rw [hnone]
    by_cases d0 : 0 ≤ num p
    · have : ¬ (num p < num q ∧ num q < (n : Int)) := fun z => c3 ⟨d0, z⟩
      have hf : (decide (num p < num q) && decide (num q < (n : Int))) = false := by rw [← Bool.decide_and]; exact decide_eq_false this
      simp [d0, hf, R.bind]
    · simp [d0, R.bind]
  · obtain ⟨a, b, hh, e⟩ := (word_iff hn w).mpr ⟨c1, p, q, e2, c3⟩
    obtain ⟨rfl, k1, k2, k3⟩ := pw_some e hn
    have e3 : TL.spl [45] 0 [] [48 + a, 45, 48 + b] = [p, q] := e2
    rw [spl_two ⟨a, by omega⟩ ⟨b, by omega⟩] at e3
    simp only [List.cons.injEq, and_true] at e3
    obtain ⟨rfl, rfl⟩ := e3
    rw [e, num_dig' (by omega), num_dig' (by omega), lex_li]
    have d0 : decide (0 ≤ (a : Int)) = true := decide_eq_true (by omega)
    have d1 : decide ((a : Int) < (b : Int)) = true := decide_eq_true (by omega)
    have d2 : decide ((b : Int) < (n : Int)) = true := decide_eq_true (by omega)
    rw [d0, d1, d2]
    cases hlx : lexok l a b <;> simp [hlx, li, R.bind]
def goodF (n : Nat) : Option (Nat × Nat) → List (List Nat) → Bool
  | _, [] => true
  | l, w :: ws => match pw n w with
    | none => false
    | some (a, b, _) => lexok l a b && goodF n (some (a, b)) ws
theorem page_loop {L : Type} {n : Nat} (hn : n ≤ 9) : ∀ (ws : List (List Nat)) (l : Option (Nat × Nat)), (∀ w ∈ ws, SG w ∧ w.length ≤ 600) →
    (goodF n l ws = true → ∃ s, (forC (lpB (n : Int)) (ws.map S) (li l) : R (Ctl (Int × Int) L Bool)) = .ok (.nx s)) ∧ (goodF n l ws = false → (forC (lpB (n : Int)) (ws.map S) (li l) : R (Ctl (Int × Int) L Bool)) = .ok (.ret false))
  | [], l, _ => ⟨fun _ => ⟨_, rfl⟩, fun h => by cases h⟩
  | w :: ws, l, h => by
    obtain ⟨h1, h2⟩ := h w List.mem_cons_self
    rw [List.map_cons, forC, lpB_ok hn l h1 h2, R.ok_bind, goodF]
    cases pw n w with
    | none => exact ⟨fun z => (by cases z), fun _ => rfl⟩
    | some t =>
      obtain ⟨a, b, hh⟩ := t
      cases hx : lexok l a b with
      | false => simp [hx]
      | true =>
        simp only [hx, if_pos, Bool.true_and]
        exact page_loop hn ws (some (a, b)) fun w hw => h w (List.mem_cons_of_mem _ hw)
/-- the number of places that the first word tells -/
def hdW : List Nat → Option Nat
  | [x, c] => if c = 58 ∧ 49 ≤ x ∧ x ≤ 57 then some (x - 48) else none
  | _ => none
def pageOk (a : List Nat) : Bool := match Wd a with
  | [] => false
  | w0 :: ws => match hdW w0 with
    | some n => goodF n none ws
    | none => false
theorem hdW_some {w : List Nat} {n : Nat} (h : hdW w = some n) : 1 ≤ n ∧ n ≤ 9 ∧ w = [48 + n, 58] := by
  unfold hdW at h
  split at h
  · split at h
    · rename_i hc
      cases h
      obtain ⟨rfl, h1, h2⟩ := hc
      rename_i x
      exact ⟨by omega, by omega, by rw [show 48 + (x - 48) = x by omega]⟩
    · cases h
  · cases h
theorem hdW_iff (w : List Nat) : (∃ n, hdW w = some n) ↔ w.drop (w.length - 1) = [58] ∧ 0 < num (w.take (w.length - 1)) ∧ num (w.take (w.length - 1)) < 10 := by
  constructor
  · rintro ⟨n, h⟩
    obtain ⟨h1, h2, rfl⟩ := hdW_some h
    refine ⟨rfl, ?_⟩
    show 0 < num [48 + n] ∧ num [48 + n] < 10
    rw [num_dig' (by omega)]
    omega
  · rintro ⟨e, h1, h2⟩
    obtain ⟨n, hn, e2, e3⟩ := num_small (by omega) h2
    have hw := take_drop_one e
    rw [e2] at hw
    refine ⟨n, ?_⟩
    rw [hw]
    show (if 58 = 58 ∧ 49 ≤ 48 + n ∧ 48 + n ≤ 57 then some (48 + n - 48) else none) = _
    rw [if_pos (by omega), show 48 + n - 48 = n by omega]
theorem M_page {a : List Nat} (h : SG a) (hl : a.length ≤ 600) : M_l_is_page (S a) = .ok (pageOk a) := by
  have hz : a.length ≤ 16777216 := by omega
  rw [page_eq, l_em, r_eqS h SG.nil]
  by_cases e : a = []
  · subst e; rfl
  rw [decide_eq_false e, l_sp, r_split (by simp) (by decide) (by omega)]
  obtain ⟨w0, ws, ew⟩ := Wd_cons a
  have ew' : TL.spl [32] 0 [] a = w0 :: ws := ew
  have hw : ∀ w ∈ w0 :: ws, SG w ∧ w.length ≤ 600 := fun w hw => by
    obtain ⟨h1, h2⟩ := Wd_mem (a := a) (w := w) (by rw [ew]; exact hw)
    exact ⟨h.sub h2, by omega⟩
  obtain ⟨g0, l0⟩ := hw w0 List.mem_cons_self
  have a0 : R.at_ ((w0 :: ws).map S) 0 = .ok (S w0) := r_at (k := 0) rfl
  rw [ew']
  simp only [R.ok_bind, Bool.not_true, Bool.false_eq_true, if_false, R.bind_bind]
  rw [a0]
  simp only [R.ok_bind]
  rw [r_butlast (by omega), R.ok_bind, M_num (g0.take _) (by rw [List.length_take]; omega), R.ok_bind, r_last (by omega)]
  simp only [R.ok_bind]
  rw [l_co, r_eqS (g0.drop _) (SG.small (by decide)), R.ok_bind]
  have hpage : pageOk a = (match hdW w0 with
    | some n => goodF n none ws
    | none => false) := by unfold pageOk; rw [ew]
  by_cases c1 : w0.drop (w0.length - 1) = [58] ∧ 0 < num (w0.take (w0.length - 1)) ∧ num (w0.take (w0.length - 1)) < 10
  · obtain ⟨n, hn⟩ := (hdW_iff w0).mpr c1
    obtain ⟨n1, n2, rfl⟩ := hdW_some hn
    rw [decide_eq_true c1.1]
    have e4 : num (List.take ([48 + n, 58].length - 1) [48 + n, 58]) = (n : Int) := num_dig' (by omega)
    rw [e4, decide_eq_true (show (0 : Int) < (n : Int) by omega), decide_eq_true (show (n : Int) < 10 by omega)]
    have ex : cutD (List.map S ([48 + n, 58] :: ws)) (some 1) none = ws.map S := cutD_from _ 1
    rw [ex, hpage, hn]
    obtain ⟨lp1, lp2⟩ := page_loop (L := Unit) n2 ws none fun w hw' => hw w (List.mem_cons_of_mem _ hw')
    simp only [Bool.not_true, Bool.false_eq_true, if_false, R.ok_bind, Bool.and_true]
    cases hg : goodF n none ws with
    | true =>
      obtain ⟨s, hs⟩ := lp1 hg
      have hs : forC (lpB (n : Int)) (ws.map S) (-1, -1) = .ok (.nx s) := hs
      rw [hs]
      rfl
    | false =>
      have hs : forC (lpB (n : Int)) (ws.map S) (-1, -1) = .ok (.ret false) := lp2 hg
      rw [hs]
      rfl
  · have hnone : hdW w0 = none := by
      cases e4 : hdW w0 with
      | none => rfl
      | some n => exact absurd ((hdW_iff w0).mp ⟨n, e4⟩) c1
    rw [hpage, hnone]
    by_cases c2 : w0.drop (w0.length - 1) = [58]
    · have : (decide (0 < num (w0.take (w0.length - 1))) && decide (num (w0.take (w0.length - 1)) < 10)) = false := by
        rw [← Bool.decide_and]; exact decide_eq_false fun z => c1 ⟨c2, z⟩
      rw [decide_eq_true c2]
      simp [this, retOf, R.bind]
    · rw [decide_eq_false c2]
      simp [retOf, R.bind]
end Mp
set_option Elab.async false
set_option linter.all false
set_option maxRecDepth 100000
namespace Mp
open PySem PySem.Spec PyProof.Rows L2 Evl SX
def sizeOfW : List Nat → Option Int
  | [x, c] => if isDig x = true ∧ c = 58 then some ((x - 48 : Nat) : Int) else none
  | _ => none
def roadOf : List Nat → Option (Int × Int × Str)
  | [x, m, y, h] => if isDig x = true ∧ m = 45 ∧ isDig y = true then some (((x - 48 : Nat) : Int), ((y - 48 : Nat) : Int), S [h]) else none
  | _ => none
theorem int_dig {x : Nat} (h : isDig x = true) : R.intS (S [x]) = .ok ((x - 48 : Nat) : Int) := by
  unfold R.intS
  rw [R.grd_pos (by rw [S_len]; simp), int_S (by simpa [isDig] using h) (by simp) (by simp)]
  show R.ok _ = R.ok _
  congr 1
  show ((0 * 10 + (x - 48) : Nat) : Int) = _
  rw [Nat.zero_mul, Nat.zero_add]
theorem M_size {w : List Nat} (h : SG w) (hl : w.length ≤ 600) : M_size_in (S w) = .ok (sizeOfW w) := by
  unfold M_size_in
  rw [r_lenS (by omega), R.ok_bind]
  by_cases e : w.length = 2
  · match w, e with
    | [x, c], _ =>
      have z : ∀ k, SG [k] → True := fun _ _ => trivial
      have a0 : R.atS (S [x, c]) 0 = .ok (S [x]) := r_atS 0 (by simp) rfl
      have a1 : R.atS (S [x, c]) 1 = .ok (S [c]) := r_atS 1 (by simp) rfl
      rw [decide_eq_true (show (([x, c].length : Nat) : Int) = 2 from rfl), a0, a1]
      simp only [R.ok_bind]
      rw [l_dg, r_inS, mem_dg, l_co, r_eqS (SG.one (h c (by simp))) (SG.small (by decide))]
      simp only [R.ok_bind]
      unfold sizeOfW
      cases hx : isDig x with
      | false => simp [retOf, R.bind, hx]
      | true =>
        by_cases hc : c = 58
        · subst hc
          rw [int_dig hx]
          simp [retOf, R.bind, hx]
        · simp [retOf, R.bind, hx, hc]
  · have : ¬ ((w.length : Int) = 2) := by omega
    rw [decide_eq_false this]
    have e2 : sizeOfW w = none := by
      unfold sizeOfW
      split
      · exact absurd rfl e
      · rfl
    rw [e2]
    rfl
theorem M_road {w : List Nat} (h : SG w) (hl : w.length ≤ 600) : M_road_in (S w) = .ok (roadOf w) := by
  unfold M_road_in
  rw [r_lenS (by omega), R.ok_bind]
  by_cases e : w.length = 4
  · match w, e with
    | [x, m, y, c], _ =>
      have a0 : R.atS (S [x, m, y, c]) 0 = .ok (S [x]) := r_atS 0 (by simp) rfl
      have a1 : R.atS (S [x, m, y, c]) 1 = .ok (S [m]) := r_atS 1 (by simp) rfl
      have a2 : R.atS (S [x, m, y, c]) 2 = .ok (S [y]) := r_atS 2 (by simp) rfl
      have a3 : R.atS (S [x, m, y, c]) 3 = .ok (S [c]) := r_atS 3 (by simp) rfl
      rw [decide_eq_true (show (([x, m, y, c].length : Nat) : Int) = 4 from rfl), a0, a1, a2, a3]
      simp only [R.ok_bind]
      rw [l_dg, r_inS, r_inS, mem_dg, mem_dg, l_mi, r_eqS (SG.one (h m (by simp))) (SG.small (by decide))]
      simp only [R.ok_bind]
      unfold roadOf
      cases hx : isDig x with
      | false => simp [retOf, R.bind, hx]
      | true =>
        by_cases hm : m = 45
        · subst hm
          cases hy : isDig y with
          | false => simp [retOf, R.bind, hx, hy]
          | true =>
            rw [int_dig hx, int_dig hy]
            simp [retOf, R.bind, hx, hy]
        · simp [retOf, R.bind, hx, hm]
  · have : ¬ ((w.length : Int) = 4) := by omega
    rw [decide_eq_false this]
    have e2 : roadOf w = none := by
      unfold roadOf
      split
      · exact absurd rfl e
      · rfl
    rw [e2]
    rfl
theorem M_place (a n : Int) : M_is_place (D.int a) n = .ok (decide (0 ≤ a) && decide (a ≤ n - 1)) := by
  unfold M_is_place M_is_integer_from M_is_integer
  have e1 : R.ofO (isT "int" false (D.int a)) = .ok true := rfl
  have e2 : R.ofO (isT "bool" false (D.int a)) = .ok false := rfl
  have e3 : ∀ x y : Int, R.leD (D.int x) (eD (D.int y)) = .ok (decide (x ≤ y)) := fun _ _ => rfl
  have e4 : ∀ x y : Int, R.leD (eD (D.int x)) (D.int y) = .ok (decide (x ≤ y)) := fun _ _ => rfl
  rw [e1, e2, e3, e4]
  cases decide (0 ≤ a) <;> rfl
theorem M_hue (h : Nat) : M_is_hue (D.str (S [h])) = .ok (isHue h) := by
  unfold M_is_hue
  have e1 : R.ofO (isT "str" false (D.str (S [h]))) = .ok true := rfl
  have e2 : R.lenD (D.str (S [h])) = .ok 1 := by
    unfold R.lenD dLen
    dsimp only
    rw [if_pos (by rw [sz_eq, S_len]; simp)]
    rfl
  rw [e1, e2, l_hu, show eD (D.str (S [h])) = D.str (S [h]) from rfl, r_inS, mem_hu]
  rfl
/-- a road that is one, as pw has it -/
def okRd (n : Int) : Option (Int × Int × Str) → Bool
  | none => false
  | some (a, b, z) => decide (0 ≤ a) && decide (a ≤ n - 1) && (decide (0 ≤ b) && decide (b ≤ n - 1)) && decide (a < b) && hueEnd z.cps.toList
theorem okRd_some (a b n : Int) (h : Nat) : okRd n (some (a, b, S [h])) = (decide (0 ≤ a) && decide (a ≤ n - 1) && (decide (0 ≤ b) && decide (b ≤ n - 1)) && decide (a < b) && isHue h) := rfl
theorem M_road_none (n : Int) : M_is_road (eO (e3T D.int D.int D.str) none) n = .ok false := rfl
theorem M_road_some (a b n : Int) (h : Nat) : M_is_road (eO (e3T D.int D.int D.str) (some (a, b, S [h]))) n = .ok (okRd n (some (a, b, S [h]))) := by
  unfold M_is_road
  have e0 : eO (e3T D.int D.int D.str) (some (a, b, S [h])) = D.tup [D.int a, D.int b, D.str (S [h])] := rfl
  have e1 : R.ofO (isT "tuple" false (D.tup [D.int a, D.int b, D.str (S [h])])) = .ok true := rfl
  have e2 : R.lenD (D.tup [D.int a, D.int b, D.str (S [h])]) = .ok 3 := rfl
  have e3 : R.ltD (eD (D.int a)) (eD (D.int b)) = .ok (decide (a < b)) := rfl
  have e4 : R.un3 (D.tup [D.int a, D.int b, D.str (S [h])]) = .ok (D.int a, D.int b, D.str (S [h])) := rfl
  rw [e0, e1, e2]
  simp only [R.ok_bind, e4, M_place, e3, M_hue]
  rw [okRd_some]
  cases (decide (0 ≤ a) && decide (a ≤ n - 1)) <;> cases (decide (0 ≤ b) && decide (b ≤ n - 1)) <;> cases decide (a < b) <;> cases isHue h <;> rfl
theorem roadOf_pw {n a b h : Nat} {w : List Nat} (hn : n ≤ 9) (e : pw n w = some (a, b, h)) : roadOf w = some ((a : Int), (b : Int), S [h]) := by
  obtain ⟨rfl, h1, h2, h3⟩ := pw_some e hn
  unfold roadOf isDig
  show (if _ then some (((48 + a - 48 : Nat) : Int), ((48 + b - 48 : Nat) : Int), S [h]) else none) = _
  rw [if_pos (by simp; omega), show 48 + a - 48 = a by omega, show 48 + b - 48 = b by omega]
theorem M_isroad {n : Nat} (hn : n ≤ 9) (w : List Nat) : M_is_road (eO (e3T D.int D.int D.str) (roadOf w)) (n : Int) = .ok (pw n w).isSome := by
  cases e : pw n w with
  | some t =>
    obtain ⟨a, b, h⟩ := t
    obtain ⟨rfl, h1, h2, h3⟩ := pw_some e hn
    rw [roadOf_pw hn e, M_road_some]
    show R.ok _ = R.ok true
    congr 1
    rw [okRd_some, h3]
    simp only [Bool.and_eq_true, decide_eq_true_eq]
    exact ⟨⟨⟨⟨by omega, by omega⟩, by omega, by omega⟩, by omega⟩, trivial⟩
  | none =>
    unfold roadOf
    split
    · rename_i x m y h
      split
      · rename_i hc
        obtain ⟨hx, rfl, hy⟩ := hc
        rw [M_road_some]
        show R.ok _ = R.ok false
        congr 1
        have e : (if (isDig x && isDig y && isHue h && decide ((45 : Nat) = 45) && decide (x < y) && decide (y < 48 + n)) = true then some (x - 48, y - 48, h) else none) = none := e
        rw [hx, hy] at e
        unfold isDig at hx hy
        simp only [Bool.and_eq_true, decide_eq_true_eq] at hx hy
        rw [okRd_some]
        cases hh : isHue h with
        | false => simp
        | true =>
          rw [hh] at e
          by_cases q : x < y ∧ y < 48 + n
          · rw [if_pos (by simp [q.1, q.2])] at e; cases e
          · rw [Bool.eq_false_iff]
            intro z
            simp only [Bool.and_eq_true, decide_eq_true_eq] at z
            exact q (by omega)
      · exact M_road_none _
    · exact M_road_none _
theorem lexLe2 (x y z w : Int) : lexLe [x, y] [z, w] = decide (x < z ∨ (x = z ∧ y ≤ w)) := by
  unfold lexLe
  simp only [List.length_cons, List.length_nil, Nat.zero_add, Nat.reduceAdd, Nat.min_self, Ob.lexAt_succ, Ob.lexAt_zero, List.getD_cons_zero, List.getD_cons_succ, decide_eq_true_eq]
  by_cases h : x = z
  · subst h
    by_cases k : y = w
    · subst k; simp
    · simp [k]
  · simp [h]; omega
def fwB (roads : List (Option (Int × Int × Str))) (size : Int) (s : Unit) (x : Int × Option (Int × Int × Str)) : R (Ctl Unit Unit (Option Int)) :=
      R.bind (R.bind (M_is_road ((eO (e3T D.int D.int D.str)) x.2) size) fun is_road => .ok (!is_road)) fun k => if k then
        R.bind (.ok (some x.1)) fun v => .ok (.ret v)
      else
      R.bind (R.bind ((if (decide (0 < x.1)) then R.bind (R.slD ((eO (e3T D.int D.int D.str)) x.2) none (some 2)) fun d => R.bind (R.at_ roads (x.1 - 1)) fun x1 => R.bind (R.slD ((eO (e3T D.int D.int D.str)) x1) none (some 2)) fun d1 => R.bind (R.leD (eD d) (eD d1)) fun k1 => .ok k1 else .ok false : R Bool)) fun k2 => .ok k2) fun k3 => if k3 then
        R.bind (.ok (some x.1)) fun v1 => .ok (.ret v1)
      else
      .ok (.nx ())
theorem fw_eq (roads : List (Option (Int × Int × Str))) (size : Int) : M_first_wrong_road roads size = retOf (
  R.seq (R.bind (.ok (enumT roads)) fun xs => forC (fwB roads size) xs ()) fun (s1 : Unit) =>
  R.bind (.ok none) fun v2 => .ok (.ret v2) : R (Ctl Unit Unit (Option (Int)))) := rfl
theorem sl_two (a b : Int) (z : Str) : R.slD (eO (e3T D.int D.int D.str) (some (a, b, z))) none (some 2) = .ok (D.tup [D.int a, D.int b]) := rfl
theorem le_two (a b c d : Int) : R.leD (eD (D.tup [D.int a, D.int b])) (eD (D.tup [D.int c, D.int d])) = .ok (lexLe [a, b] [c, d]) := rfl
def enumF {A : Type} (k : Nat) : List A → List (Int × A)
  | [] => []
  | x :: xs => ((k : Int), x) :: enumF (k + 1) xs
theorem enumF_eq {A : Type} : ∀ (l : List A) (k : Nat), (l.zipIdx k).map (fun p => ((p.2 : Int), p.1)) = enumF k l
  | [], _ => rfl
  | x :: xs, k => by rw [List.zipIdx_cons, List.map_cons, enumF_eq xs (k + 1)]; rfl
theorem enumT_eq {A : Type} (l : List A) : enumT l = enumF 0 l := enumF_eq l 0
theorem fwB_ok {n : Nat} (hn : n ≤ 9) (roads : List (Option (Int × Int × Str))) (w : List Nat) (k : Nat) (l : Option (Nat × Nat)) (hl : match l with | none => k = 0 | some (c, d) => 0 < k ∧ ∃ z, roads[k - 1]? = some (some ((c : Int), (d : Int), z))) :
    fwB roads (n : Int) () ((k : Int), roadOf w) = .ok (match pw n w with
      | none => .ret (some (k : Int))
      | some (a, b, _) => if lexok l a b then .nx () else .ret (some (k : Int))) := by
  unfold fwB
  dsimp only
  rw [M_isroad hn]
  cases e : pw n w with
  | none => rfl
  | some t =>
    obtain ⟨a, b, hh⟩ := t
    have er := roadOf_pw hn e
    cases l with
    | none =>
      have hk : k = 0 := hl
      subst hk
      rfl
    | some p =>
      obtain ⟨c, d⟩ := p
      obtain ⟨hk, z, hz⟩ := hl
      have a1 : R.at_ roads ((k : Int) - 1) = .ok (some ((c : Int), (d : Int), z)) := by
        rw [show (k : Int) - 1 = ((k - 1 : Nat) : Int) by omega]; exact r_at hz
      have hd : decide ((0 : Int) < (k : Int)) = true := decide_eq_true (by omega)
      rw [er, hd, sl_two, a1]
      simp only [R.ok_bind, sl_two, le_two, lexLe2]
      have hx : decide ((a : Int) < (c : Int) ∨ ((a : Int) = (c : Int) ∧ (b : Int) ≤ (d : Int))) = !lexok (some (c, d)) a b := by
        unfold lexok
        rw [← decide_not]
        refine decide_eq_decide.mpr ?_
        omega
      rw [hx]
      cases lexok (some (c, d)) a b <;> rfl
theorem fw_loop {L : Type} {n : Nat} (hn : n ≤ 9) (roads : List (Option (Int × Int × Str))) : ∀ (ws : List (List Nat)) (k : Nat) (l : Option (Nat × Nat)), (match l with | none => k = 0 | some (c, d) => 0 < k ∧ ∃ z, roads[k - 1]? = some (some ((c : Int), (d : Int), z))) →
    (∀ j, roads[k + j]? = (ws.map roadOf)[j]?) →
    (goodF n l ws = true → (forC (fwB roads (n : Int)) (enumF k (ws.map roadOf)) () : R (Ctl Unit L (Option Int))) = .ok (.nx ())) ∧ (goodF n l ws = false → ∃ i, (forC (fwB roads (n : Int)) (enumF k (ws.map roadOf)) () : R (Ctl Unit L (Option Int))) = .ok (.ret (some i)))
  | [], k, l, _, _ => ⟨fun _ => rfl, fun h => nomatch h⟩
  | w :: ws, k, l, hl, hr => by
    rw [List.map_cons, enumF, forC, goodF, fwB_ok hn roads w k l hl, R.ok_bind]
    cases e : pw n w with
    | none => exact ⟨fun z => (nomatch z), fun _ => ⟨(k : Int), rfl⟩⟩
    | some t =>
      obtain ⟨a, b, hh⟩ := t
      have er := roadOf_pw hn e
      have hr0 : roads[k]? = some (some ((a : Int), (b : Int), S [hh])) := by have := hr 0; rw [Nat.add_zero, List.map_cons, er] at this; exact this
      have next := fw_loop (L := L) hn roads ws (k + 1) (some (a, b)) ⟨by omega, S [hh], by rw [show k + 1 - 1 = k by omega]; exact hr0⟩ (fun j => by
        have := hr (j + 1)
        rw [List.map_cons, List.getElem?_cons_succ] at this
        rw [← this]; congr 1; omega)
      cases hx : lexok l a b with
      | false => exact ⟨fun z => (by simp [hx] at z), fun _ => ⟨(k : Int), by simp [hx]⟩⟩
      | true =>
        simp only [hx, if_pos, Bool.true_and]
        exact next
theorem M_fw {n : Nat} (hn : n ≤ 9) (ws : List (List Nat)) : ∃ o, M_first_wrong_road (ws.map roadOf) (n : Int) = .ok o ∧ o.isSome = !goodF n none ws := by
  rw [fw_eq, enumT_eq, R.ok_bind]
  obtain ⟨h1, h2⟩ := fw_loop (L := Unit) hn (ws.map roadOf) ws 0 none rfl (fun j => by rw [Nat.zero_add])
  cases hg : goodF n none ws with
  | true => exact ⟨none, by rw [h1 hg]; rfl, rfl⟩
  | false => obtain ⟨i, hi⟩ := h2 hg; exact ⟨some i, by rw [hi]; rfl, rfl⟩
end Mp
set_option Elab.async false
set_option linter.all false
set_option maxRecDepth 100000
namespace Mp
open PySem PySem.Spec PyProof.Rows L2 Evl SX
def trW (w : List Nat) : Int × Int × Str := (roadOf w).getD (0, 0, S [])
theorem good_mem {n : Nat} : ∀ {ws : List (List Nat)} {l : Option (Nat × Nat)}, goodF n l ws = true → ∀ w ∈ ws, ∃ a b h, pw n w = some (a, b, h)
  | [], _, _, w, hw => nomatch hw
  | v :: ws, l, h, w, hw => by
    rw [goodF] at h
    cases e : pw n v with
    | none => rw [e] at h; cases h
    | some t =>
      obtain ⟨a, b, hh⟩ := t
      rw [e] at h
      have h2 : goodF n (some (a, b)) ws = true := by
        have h : (lexok l a b && goodF n (some (a, b)) ws) = true := h
        rw [Bool.and_eq_true] at h; exact h.2
      rcases List.mem_cons.mp hw with rfl | hw
      · exact ⟨a, b, hh, e⟩
      · exact good_mem h2 w hw
theorem trW_pw {n a b h : Nat} {w : List Nat} (hn : n ≤ 9) (e : pw n w = some (a, b, h)) : trW w = ((a : Int), (b : Int), S [h]) := by
  unfold trW; rw [roadOf_pw hn e]; rfl
theorem good_roads {n : Nat} (hn : n ≤ 9) {ws : List (List Nat)} (h : ∀ w ∈ ws, ∃ a b h, pw n w = some (a, b, h)) : ws.map roadOf = (ws.map trW).map some := by
  rw [List.map_map]
  refine List.map_congr_left fun w hw => ?_
  obtain ⟨a, b, hh, e⟩ := h w hw
  show roadOf w = some (trW w)
  rw [trW_pw hn e, roadOf_pw hn e]
theorem allO_some {A : Type} : ∀ l : List A, R.allO (l.map some) = .ok l
  | [] => rfl
  | a :: l => by rw [List.map_cons, R.allO, allO_some l]; rfl
theorem M_place1 (a n : Int) : M_is_place_1 a n = .ok (decide (0 ≤ a) && decide (a ≤ n - 1)) := by
  unfold M_is_place_1 M_is_integer_from_1 M_is_integer_1
  rfl
theorem M_hue1 (h : Nat) : M_is_hue_1 (S [h]) = .ok (isHue h) := by
  unfold M_is_hue_1
  rw [r_lenS (by simp), l_hu, r_inS, mem_hu]
  rfl
theorem M_size1 {n : Nat} (h1 : 1 ≤ n) (h2 : n ≤ 9) : M_is_size_1 (n : Int) = .ok true := by
  unfold M_is_size_1 M_is_integer_from_1 M_is_integer_1
  have e : (decide ((1 : Int) ≤ (n : Int)) && decide ((n : Int) ≤ 9)) = true := by simp only [Bool.and_eq_true, decide_eq_true_eq]; omega
  simp [retOf, R.bind, e]
theorem M_road1 {n a b h : Nat} (h1 : a < b) (h2 : b < n) (h3 : isHue h = true) : M_is_road_1 ((a : Int), (b : Int), S [h]) (n : Int) = .ok true := by
  unfold M_is_road_1
  simp only [R.ok_bind, M_place1, M_hue1, h3]
  have e1 : (decide ((0 : Int) ≤ (a : Int)) && decide ((a : Int) ≤ (n : Int) - 1)) = true := by simp only [Bool.and_eq_true, decide_eq_true_eq]; omega
  have e2 : (decide ((0 : Int) ≤ (b : Int)) && decide ((b : Int) ≤ (n : Int) - 1)) = true := by simp only [Bool.and_eq_true, decide_eq_true_eq]; omega
  have e3 : decide ((a : Int) < (b : Int)) = true := decide_eq_true (by omega)
  rw [e1, e2, e3]
  rfl
def fwB1 (roads : List (Int × Int × Str)) (size : Int) (s : Unit) (x : Int × Int × Int × Str) : R (Ctl Unit Unit (Option Int)) :=
      R.bind (R.bind (M_is_road_1 x.2 size) fun is_road => .ok (!is_road)) fun k => if k then
        R.bind (.ok (some x.1)) fun v => .ok (.ret v)
      else
      R.bind (R.bind ((if (decide (0 < x.1)) then R.bind (R.at_ roads (x.1 - 1)) fun x1 => .ok (lexLe [(((x.2).1, (x.2).2.1)).1, (((x.2).1, (x.2).2.1)).2] [(((x1).1, (x1).2.1)).1, (((x1).1, (x1).2.1)).2]) else .ok false : R Bool)) fun k1 => .ok k1) fun k2 => if k2 then
        R.bind (.ok (some x.1)) fun v1 => .ok (.ret v1)
      else
      .ok (.nx ())
theorem fw1_eq (roads : List (Int × Int × Str)) (size : Int) : M_first_wrong_road_1 roads size = retOf (
  R.seq (R.bind (.ok (enumT roads)) fun xs => forC (fwB1 roads size) xs ()) fun (s1 : Unit) =>
  R.bind (.ok none) fun v2 => .ok (.ret v2) : R (Ctl Unit Unit (Option (Int)))) := rfl
theorem fw1_loop {L : Type} {n : Nat} (hn : n ≤ 9) (roads : List (Int × Int × Str)) : ∀ (ws : List (List Nat)) (k : Nat) (l : Option (Nat × Nat)), (match l with | none => k = 0 | some (c, d) => 0 < k ∧ ∃ z, roads[k - 1]? = some ((c : Int), (d : Int), z)) →
    (∀ j, roads[k + j]? = (ws.map trW)[j]?) → goodF n l ws = true → (forC (fwB1 roads (n : Int)) (enumF k (ws.map trW)) () : R (Ctl Unit L (Option Int))) = .ok (.nx ())
  | [], k, l, _, _, _ => rfl
  | w :: ws, k, l, hl, hr, hg => by
    rw [goodF] at hg
    cases e : pw n w with
    | none => rw [e] at hg; cases hg
    | some t =>
      obtain ⟨a, b, hh⟩ := t
      rw [e] at hg
      have hg : (lexok l a b && goodF n (some (a, b)) ws) = true := hg
      rw [Bool.and_eq_true] at hg
      have et := trW_pw hn e
      obtain ⟨_, h1, h2, h3⟩ := pw_some e hn
      have hr0 : roads[k]? = some ((a : Int), (b : Int), S [hh]) := by have := hr 0; rw [Nat.add_zero, List.map_cons, et] at this; exact this
      have next := fw1_loop (L := L) hn roads ws (k + 1) (some (a, b)) ⟨by omega, S [hh], by rw [show k + 1 - 1 = k by omega]; exact hr0⟩ (fun j => by
        have := hr (j + 1)
        rw [List.map_cons, List.getElem?_cons_succ] at this
        rw [← this]; congr 1; omega) hg.2
      rw [List.map_cons, enumF, forC, et]
      have body : fwB1 roads (n : Int) () ((k : Int), (a : Int), (b : Int), S [hh]) = .ok (.nx ()) := by
        unfold fwB1
        dsimp only
        rw [M_road1 h1 h2 h3]
        cases l with
        | none =>
          have hk : k = 0 := hl
          subst hk
          rfl
        | some p =>
          obtain ⟨c, d⟩ := p
          obtain ⟨hk, z, hz⟩ := hl
          have a1 : R.at_ roads ((k : Int) - 1) = .ok ((c : Int), (d : Int), z) := by
            rw [show (k : Int) - 1 = ((k - 1 : Nat) : Int) by omega]; exact r_at hz
          have hd : decide ((0 : Int) < (k : Int)) = true := decide_eq_true (by omega)
          rw [hd, a1]
          simp only [R.ok_bind, lexLe2]
          have hx : decide ((a : Int) < (c : Int) ∨ ((a : Int) = (c : Int) ∧ (b : Int) ≤ (d : Int))) = false := by
            have hl2 := hg.1
            unfold lexok at hl2
            simp only [decide_eq_true_eq] at hl2
            exact decide_eq_false (by omega)
          rw [hx]
          rfl
      rw [body]
      exact next
theorem M_fw1 {n : Nat} (hn : n ≤ 9) {ws : List (List Nat)} (hg : goodF n none ws = true) : M_first_wrong_road_1 (ws.map trW) (n : Int) = .ok none := by
  rw [fw1_eq, enumT_eq, R.ok_bind, fw1_loop (L := Unit) hn (ws.map trW) ws 0 none rfl (fun j => by rw [Nat.zero_add]) hg]
  rfl
theorem M_init {C : Nat → Addr} {n : Nat} (h1 : 1 ≤ n) (hn : n ≤ 9) {ws : List (List Nat)} (hg : goodF n none ws = true) (hl : ws.length ≤ 16777216) : ∃ m, M_NetD_initD C (n : Int) (ws.map trW) = .ok ((), ⟨(n : Int), ws.map trW, m⟩) := by
  unfold M_NetD_initD
  rw [M_size1 h1 hn, M_fw1 hn hg, R.grd_pos (by rw [List.length_map, sz_eq]; exact hl), dcR_pure, noX_ok]
  exact ⟨_, rfl⟩
theorem str_dig : ∀ n : _root_.Fin 10, (Str.ofString (toString (((n : Nat)) : Int))) = S [48 + (n : Nat)] := by decide +kernel
theorem r_str {n : Nat} (h : n < 10) : R.str (n : Int) = .ok (S [48 + n]) := by
  unfold R.str
  rw [R.grd_pos (by
    have : ((n : Int)).natAbs = n := by omega
    rw [this]
    exact Nat.lt_of_le_of_lt (Nat.log2_le_self n) (by omega))]
  exact congrArg R.ok (str_dig ⟨n, h⟩)
theorem emp_cat (a : List Nat) : Str.empty ++ S a = S a := S_cat [] a
theorem comp_str {n : Nat} (hn : n ≤ 9) : ∀ ws : List (List Nat), (∀ w ∈ ws, ∃ a b h, pw n w = some (a, b, h)) →
    compR (fun x => .ok true) (fun (x : Int × Int × Str) => R.bind (R.str x.1) fun s => R.grd (((Str.empty ++ s)).length ≤ sizeLine) (R.grd ((((Str.empty ++ s) ++ ("-" : Str))).length ≤ sizeLine) (R.bind (R.str x.2.1) fun s1 => R.grd (((((Str.empty ++ s) ++ ("-" : Str)) ++ s1)).length ≤ sizeLine) (R.bind (R.fmtS x.2.2) fun s2 => R.grd ((((((Str.empty ++ s) ++ ("-" : Str)) ++ s1) ++ s2)).length ≤ sizeLine) (.ok ((((Str.empty ++ s) ++ ("-" : Str)) ++ s1) ++ s2)))))) (ws.map trW) = .ok (ws.map S)
  | [], _ => rfl
  | w :: ws, h => by
    obtain ⟨a, b, hh, e⟩ := h w List.mem_cons_self
    obtain ⟨ew, h1, h2, h3⟩ := pw_some e hn
    rw [List.map_cons, compR, trW_pw hn e, comp_str hn ws fun v hv => h v (List.mem_cons_of_mem _ hv)]
    simp only [R.ok_bind, if_pos]
    rw [r_str (by omega), r_str (by omega)]
    simp only [R.ok_bind, l_mi, emp_cat, S_cat, S_len]
    rw [R.grd_pos (by rw [sz_eq]; simp), R.grd_pos (by rw [sz_eq]; simp), R.grd_pos (by rw [sz_eq]; simp)]
    have hf : R.fmtS (S [hh]) = .ok (S [hh]) := R.grd_pos (by rw [sz_eq, S_len]; simp)
    rw [hf]
    simp only [R.ok_bind, S_cat, S_len]
    rw [R.grd_pos (by rw [sz_eq]; simp), List.map_cons, ew]
    rfl
theorem M_str {n : Nat} (hn : n ≤ 9) {a : List Nat} (hl : a.length ≤ 600) {w0 : List Nat} {ws : List (List Nat)} (ew : Wd a = w0 :: ws) (e0 : w0 = [48 + n, 58]) (h : ∀ w ∈ ws, ∃ a b h, pw n w = some (a, b, h)) (m : List ((Int × Int) × Str)) :
    M_NetD_strD ⟨(n : Int), ws.map trW, m⟩ = .ok (S a) := by
  have hlen := Wd_len a
  rw [ew, List.length_cons] at hlen
  unfold M_NetD_strD
  dsimp only
  rw [R.grd_pos (by rw [List.length_map, sz_eq]; omega), comp_str hn ws h, noX_ok, r_str (by omega)]
  simp only [R.ok_bind, l_co, emp_cat, S_cat, S_len]
  rw [R.grd_pos (by rw [sz_eq]; simp), R.grd_pos (by rw [sz_eq]; simp), R.grd_pos (by rw [sz_eq, List.length_append, List.length_map]; simp; omega)]
  rw [R.ok_bind, l_sp]
  have eall : [S ([48 + n] ++ [58])] ++ ws.map S = (Wd a).map S := by rw [ew, e0]; rfl
  have jl := joinL_len [32] (Wd a) (Wd_ne a)
  rw [Wd_back] at jl
  simp only [List.length_singleton] at jl
  rw [eall, r_join (by simp only [List.length_singleton]; omega), Wd_back]
  rfl
theorem sizeOf_hd {w : List Nat} {n : Nat} (h : hdW w = some n) : sizeOfW w = some (n : Int) := by
  obtain ⟨h1, h2, rfl⟩ := hdW_some h
  show (if isDig (48 + n) = true ∧ 58 = 58 then some ((48 + n - 48 : Nat) : Int) else none) = _
  rw [if_pos ⟨by unfold isDig; simp; omega, rfl⟩, show 48 + n - 48 = n by omega]
theorem isSize_none : M_is_size (eO D.int none) = .ok false := rfl
theorem isSize_some (i : Int) : M_is_size (eO D.int (some i)) = .ok (decide (1 ≤ i) && decide (i ≤ 9)) := by
  unfold M_is_size M_is_integer_from M_is_integer
  have e0 : eO D.int (some i) = D.int i := rfl
  have e1 : R.ofO (isT "int" false (D.int i)) = .ok true := rfl
  have e2 : R.ofO (isT "bool" false (D.int i)) = .ok false := rfl
  have e3 : ∀ x y : Int, R.leD (D.int x) (eD (D.int y)) = .ok (decide (x ≤ y)) := fun _ _ => rfl
  have e4 : ∀ x y : Int, R.leD (eD (D.int x)) (D.int y) = .ok (decide (x ≤ y)) := fun _ _ => rfl
  rw [e0, e1, e2, e3, e4]
  cases decide (1 ≤ i) <;> rfl
theorem isSize_hd (w : List Nat) : M_is_size (eO D.int (sizeOfW w)) = .ok (hdW w).isSome := by
  unfold sizeOfW
  split
  · rename_i x c
    split
    · rename_i hc
      obtain ⟨hx, rfl⟩ := hc
      rw [isSize_some]
      congr 1
      unfold isDig at hx
      simp only [Bool.and_eq_true, decide_eq_true_eq] at hx
      show _ = (if 58 = 58 ∧ 49 ≤ x ∧ x ≤ 57 then some (x - 48) else none).isSome
      by_cases q : 49 ≤ x
      · rw [if_pos (by omega)]
        show _ = true
        simp only [Bool.and_eq_true, decide_eq_true_eq]
        omega
      · rw [if_neg (by omega)]
        show _ = false
        rw [← Bool.decide_and]
        exact decide_eq_false (by omega)
    · rename_i hc
      rw [isSize_none]
      congr 1
      show false = (if c = 58 ∧ 49 ≤ x ∧ x ≤ 57 then some (x - 48) else none).isSome
      rw [if_neg (by
        rintro ⟨rfl, h1, h2⟩
        exact hc ⟨by unfold isDig; simp; omega, rfl⟩)]
      rfl
  · rename_i hne
    rw [isSize_none]
    congr 1
    unfold hdW
    split
    · exact absurd rfl (hne _ _)
    · rfl
theorem comp_road : ∀ ws : List (List Nat), (∀ w ∈ ws, SG w ∧ w.length ≤ 600) → compR (fun x1 => .ok true) (fun x1 => R.bind (M_road_in x1) fun road_in => .ok road_in) (ws.map S) = .ok (ws.map roadOf)
  | [], _ => rfl
  | w :: ws, h => by
    obtain ⟨h1, h2⟩ := h w List.mem_cons_self
    rw [List.map_cons, compR, R.ok_bind, if_pos rfl, M_road h1 h2, R.ok_bind, R.ok_bind, comp_road ws fun q hq => h q (List.mem_cons_of_mem _ hq), R.ok_bind]
    rfl
/-- what the program's own reading comes to -/
theorem M_read {C : Nat → Addr} {a : List Nat} (h : SG a) (hl : a.length ≤ 600) :
    (pageOk a = true → ∃ net, M_Net_read C (S a) = .ok net ∧ M_NetD_strD net = .ok (S a)) ∧ (pageOk a = false → M_Net_read C (S a) = .exc ⟨1, C 1, some ("given", D.str (S a))⟩) := by
  obtain ⟨w0, ws, ew⟩ := Wd_cons a
  have ew' : TL.spl [32] 0 [] a = w0 :: ws := ew
  have hlen := Wd_len a
  rw [ew, List.length_cons] at hlen
  have hw : ∀ w ∈ w0 :: ws, SG w ∧ w.length ≤ 600 := fun w hw => by
    obtain ⟨h1, h2⟩ := Wd_mem (a := a) (w := w) (by rw [ew]; exact hw)
    exact ⟨h.sub h2, by omega⟩
  obtain ⟨g0, l0⟩ := hw w0 List.mem_cons_self
  have a0 : R.at_ ((w0 :: ws).map S) 0 = .ok (S w0) := r_at (k := 0) rfl
  have ex : cutD (List.map S (w0 :: ws)) (some 1) none = ws.map S := cutD_from _ 1
  have hpage : pageOk a = (match hdW w0 with
    | some n => goodF n none ws
    | none => false) := by unfold pageOk; rw [ew] <;> rfl
  unfold M_Net_read
  rw [l_sp, r_split (by simp) (by decide) (by omega), ew']
  simp only [R.ok_bind, Bool.not_true, Bool.false_eq_true, if_false, R.bind_bind]
  rw [a0]
  simp only [R.ok_bind]
  rw [M_size g0 l0]
  simp only [R.ok_bind, ex]
  rw [R.grd_pos (by rw [List.length_map, sz_eq]; omega), comp_road ws fun w hw' => hw w (List.mem_cons_of_mem _ hw'), noX_ok]
  simp only [R.ok_bind]
  rw [isSize_hd]
  cases hn : hdW w0 with
  | none =>
    rw [hn] at hpage
    exact ⟨fun z => (by rw [hpage] at z; cases z), fun _ => rfl⟩
  | some n =>
    rw [hn] at hpage
    obtain ⟨n1, n2, e0⟩ := hdW_some hn
    rw [sizeOf_hd hn]
    obtain ⟨o, ho, hs⟩ := M_fw n2 ws
    simp only [Option.isSome_some, R.ok_bind, Bool.not_true, Bool.false_eq_true, if_false, R.ofO_some, ho, hs]
    have hpage : pageOk a = goodF n none ws := hpage
    rw [hpage]
    cases hg : goodF n none ws with
    | false => exact ⟨fun z => (nomatch z), fun _ => rfl⟩
    | true =>
      refine ⟨fun _ => ?_, fun z => (nomatch z)⟩
      have gm := good_mem hg
      obtain ⟨m, hm⟩ := M_init (C := C) n1 n2 hg (by omega)
      rw [good_roads n2 gm, allO_some]
      simp only [R.ok_bind, hm, Bool.not_true, Bool.false_eq_true, if_false]
      exact ⟨_, rfl, M_str n2 hl ew e0 gm m⟩
end Mp
set_option Elab.async false
set_option linter.all false
set_option maxRecDepth 100000
namespace Mp
open PySem PySem.Spec PyProof.Rows L2 Evl SX
def Jar (j : List Int) : Prop := ∃ a b c, j = [a, b, c]
theorem dip_ok {j : List Int} (h : Jar j) {top : Int} (h1 : 0 < top) (h2 : top < 1073741824) : ∃ v j', M_l_dip j top = .ok (v, j') ∧ Jar j' ∧ 0 ≤ v ∧ v < top := by
  obtain ⟨a, b, c, rfl⟩ := h
  obtain ⟨v, a', b', c', e, h3, h4⟩ := M_dip_ok a b c top h1 h2
  exact ⟨v, _, e, ⟨_, _, _, rfl⟩, h3, h4⟩
theorem at_some {A : Type} {l : List A} {i : Int} (h0 : 0 ≤ i) (h1 : i < (l.length : Int)) : ∃ x ∈ l, R.at_ l i = .ok x := by
  have hk : i.toNat < l.length := by omega
  refine ⟨l[i.toNat], List.getElem_mem hk, ?_⟩
  have := r_at (List.getElem?_eq_getElem hk)
  rwa [show ((i.toNat : Nat) : Int) = i by omega] at this
theorem one_of_gen {A : Type} {j : List Int} (h : Jar j) {l : List A} (hne : l ≠ []) (hl : l.length < 1073741824) : ∃ x j', (retM (R.bind (R.bind (noX (M_l_dip j (l.length : Int))) fun p => R.bind (R.at_ l p.1) fun x => .ok (x, p.2)) fun v => .ok (.ret v) : R (Ctl Unit Unit (A × List Int)))) = .ok (x, j') ∧ x ∈ l ∧ Jar j' := by
  have hpos : 0 < l.length := List.length_pos_iff.mpr hne
  obtain ⟨v, j', e, h1, h2, h3⟩ := dip_ok h (top := (l.length : Int)) (by omega) (by omega)
  obtain ⟨x, hx, e2⟩ := at_some h2 h3
  refine ⟨x, j', ?_, hx, h1⟩
  rw [e, noX_ok, R.ok_bind, e2]
  rfl
theorem one_of_ok {j : List Int} (h : Jar j) {l : List Int} (hne : l ≠ []) (hl : l.length < 1073741824) : ∃ x j', M_l_one_of j l = .ok (x, j') ∧ x ∈ l ∧ Jar j' := one_of_gen h hne hl
theorem one_of1_ok {j : List Int} (h : Jar j) {l : List Str} (hne : l ≠ []) (hl : l.length < 1073741824) : ∃ x j', M_l_one_of_1 j l = .ok (x, j') ∧ x ∈ l ∧ Jar j' := one_of_gen h hne hl
theorem one_of2_ok {j : List Int} (h : Jar j) {l : List D} (hne : l ≠ []) (hl : l.length < 1073741824) : ∃ x j', M_l_one_of_2 j l = .ok (x, j') ∧ x ∈ l ∧ Jar j' := one_of_gen h hne hl
theorem forN_inv {X T : Type} {B : T → X → R T} (P : Nat → T → Prop) (K : Nat) : ∀ (xs : List X) (s : T) (k : Nat), k + xs.length ≤ K → P k s → (∀ s k, k < K → ∀ x ∈ xs, P k s → ∃ s', B s x = .ok s' ∧ P (k + 1) s') → ∃ s', forN B xs s = .ok s' ∧ P (k + xs.length) s'
  | [], s, k, _, h, _ => ⟨s, rfl, h⟩
  | x :: xs, s, k, hK, h, hb => by
    rw [List.length_cons] at hK
    obtain ⟨s1, e1, h1⟩ := hb s k (by omega) x List.mem_cons_self h
    obtain ⟨s2, e2, h2⟩ := forN_inv P K xs s1 (k + 1) (by omega) h1 fun s k hk y hy => hb s k hk y (List.mem_cons_of_mem _ hy)
    refine ⟨s2, by rw [forN, e1, R.ok_bind, e2], ?_⟩
    rw [List.length_cons, show k + (xs.length + 1) = k + 1 + xs.length by omega]
    exact h2
theorem forC_inv {X T L P : Type} {B : T → X → R (Ctl T T P)} (I : T → Prop) : ∀ (xs : List X) (s : T), I s → (∀ s, ∀ x ∈ xs, I s → ∃ s', B s x = .ok (.nx s') ∧ I s') → ∃ s', (forC B xs s : R (Ctl T L P)) = .ok (.nx s') ∧ I s'
  | [], s, h, _ => ⟨s, rfl, h⟩
  | x :: xs, s, h, hb => by
    obtain ⟨s1, e1, h1⟩ := hb s x List.mem_cons_self h
    obtain ⟨s2, e2, h2⟩ := forC_inv (L := L) I xs s1 h1 fun s y hy => hb s y (List.mem_cons_of_mem _ hy)
    exact ⟨s2, by rw [forC, e1, R.ok_bind]; exact e2, h2⟩
/-- a drawn road -/
def RdE (r : Int × Int × Str) : Prop := ∃ a b h : Nat, a < 10 ∧ b < 10 ∧ h < 128 ∧ r = ((a : Int), (b : Int), S [h])
theorem rg1 {n : Nat} (h : n < 1000) : R.range1 (n : Int) = .ok ((List.range n).map fun i => (i : Nat)) := by
  unfold R.range1 okR
  rw [R.grd_pos (by simp; omega), Int.toNat_natCast]
theorem rg2 {a b : Int} (h : 0 ≤ a ∧ a < 1000 ∧ 0 ≤ b ∧ b < 1000) : R.range2 a b = .ok ((List.range (b - a).toNat).map fun n => a + (n : Nat)) := by
  unfold R.range2 okR
  rw [R.grd_pos (by simp; omega)]
theorem huestr {q : Str} (h : q ∈ [("ab" : Str), ("ab" : Str), ("abc" : Str), ("abcdef" : Str)]) : ∃ l : List Nat, R.listS q = .ok (l.map fun c => S [c]) ∧ l ≠ [] ∧ l.length < 100 ∧ ∀ c ∈ l, c < 128 := by
  have key : ∀ l : List Nat, q = S l → l ≠ [] → l.length < 100 → (∀ c ∈ l, c < 128) → ∃ l : List Nat, R.listS q = .ok (l.map fun c => S [c]) ∧ l ≠ [] ∧ l.length < 100 ∧ ∀ c ∈ l, c < 128 := fun l e h1 h2 h3 => ⟨l, by rw [e]; exact r_listS (by omega), h1, h2, h3⟩
  simp only [List.mem_cons, List.not_mem_nil, or_false] at h
  rcases h with h | h | h | h
  · exact key [97, 98] h (by decide) (by decide) (by decide)
  · exact key [97, 98] h (by decide) (by decide) (by decide)
  · exact key [97, 98, 99] h (by decide) (by decide) (by decide)
  · exact key [97, 98, 99, 100, 101, 102] h (by decide) (by decide) (by decide)
def rdI (t : Int) (q : Str) (x : Int) (s1 : List Int × List (Int × Int × Str)) (x1 : Int) : R (List Int × List (Int × Int × Str)) :=
          R.bind (R.bind (R.bind (noX (M_l_dip s1.1 6)) fun p2 => .ok ((decide (p2.1 < t)), p2.2)) fun k => if k.1 then
            R.bind (R.bind (R.listS q) fun l => R.bind (noX (M_l_one_of_1 k.2 l)) fun p3 => R.bind (R.push s1.2 (x, x1, p3.1)) fun found => .ok (p3.2, found)) fun jar_here1 =>
            .ok (jar_here1.1, jar_here1.2)
          else
            .ok (k.2, s1.2)) fun (s2 : (List (Int)) × (List ((Int × Int × Str)))) =>
          .ok (s2.1, s2.2)
def rdO (t : Int) (q : Str) (size : Int) (s : List Int × List (Int × Int × Str)) (x : Int) : R (List Int × List (Int × Int × Str)) :=
      R.bind (R.bind (R.bind (R.range2 (x + 1) size) fun xs2 => .ok xs2) fun xs3 => forN (rdI t q x) xs3 (s.1, s.2)) fun (s3 : (List (Int)) × (List ((Int × Int × Str)))) =>
      .ok (s3.1, s3.2)
theorem roads_eq (j : List Int) (size : Int) : M_l_roads j size = retM (
  R.bind (R.bind (noX (M_l_one_of j [2, 3, 4, 5])) fun p => R.bind (noX (M_l_one_of_1 p.2 [("ab" : Str), ("ab" : Str), ("abc" : Str), ("abcdef" : Str)])) fun p1 => .ok (p.1, p1.1, [], p1.2)) fun q =>
  R.bind (R.bind (R.bind (R.range1 size) fun xs => .ok xs) fun xs1 => forN (rdO q.1 q.2.1 size) xs1 (q.2.2.2, q.2.2.1)) fun (s4 : (List (Int)) × (List ((Int × Int × Str)))) =>
  R.bind (.ok (s4.2, s4.1)) fun v => .ok (.ret v) : R (Ctl Unit Unit (List ((Int × Int × Str)) × List (Int)))) := rfl
theorem rdI_ok {t : Int} {q : Str} {hl : List Nat} (el : R.listS q = .ok (hl.map fun c => S [c])) (ne : hl ≠ []) (hlen : hl.length < 100) (hsm : ∀ c ∈ hl, c < 128) {x x1 : Nat} (hx : x < 10) (hx1 : x1 < 10) {L m : Nat} (hL : L ≤ 1000) (hm : m < 1000) {s : List Int × List (Int × Int × Str)}
    (h : Jar s.1 ∧ s.2.length ≤ L + m ∧ ∀ r ∈ s.2, RdE r) : ∃ s', rdI t q (x : Int) s (x1 : Int) = .ok s' ∧ Jar s'.1 ∧ s'.2.length ≤ L + (m + 1) ∧ ∀ r ∈ s'.2, RdE r := by
  obtain ⟨p1, p2, p3⟩ := h
  obtain ⟨v, j', e, h1, _, _⟩ := dip_ok p1 (top := 6) (by decide) (by decide)
  unfold rdI
  rw [e, noX_ok, R.ok_bind, R.ok_bind]
  dsimp only
  by_cases hv : v < t
  · rw [decide_eq_true hv, if_pos rfl, el, R.ok_bind]
    obtain ⟨z, j2, e2, hz, h2⟩ := one_of1_ok h1 (l := hl.map fun c => S [c]) (by simpa using ne) (by rw [List.length_map]; omega)
    obtain ⟨c, hc, rfl⟩ := List.mem_map.mp hz
    have hp : R.push s.2 ((x : Int), (x1 : Int), S [c]) = .ok (s.2 ++ [((x : Int), (x1 : Int), S [c])]) := by
      unfold R.push
      rw [R.grd_pos (by rw [sz_eq]; omega)]
    rw [e2, noX_ok, R.ok_bind, hp]
    refine ⟨_, rfl, h2, by rw [List.length_append, List.length_singleton]; omega, fun r hr => ?_⟩
    rcases List.mem_append.mp hr with hr | hr
    · exact p3 r hr
    · rw [List.mem_singleton] at hr
      exact ⟨x, x1, c, hx, hx1, hsm c hc, hr⟩
  · rw [decide_eq_false hv]
    exact ⟨_, rfl, h1, by show s.2.length ≤ _; omega, p3⟩
theorem rdO_ok {t : Int} {q : Str} {hl : List Nat} (el : R.listS q = .ok (hl.map fun c => S [c])) (ne : hl ≠ []) (hlen : hl.length < 100) (hsm : ∀ c ∈ hl, c < 128) {x n : Nat} (hx : x < n) (hn : n ≤ 9) {k : Nat} (hk : k < 10) {s : List Int × List (Int × Int × Str)}
    (h : Jar s.1 ∧ s.2.length ≤ k * 10 ∧ ∀ r ∈ s.2, RdE r) : ∃ s', rdO t q (n : Int) s (x : Int) = .ok s' ∧ Jar s'.1 ∧ s'.2.length ≤ (k + 1) * 10 ∧ ∀ r ∈ s'.2, RdE r := by
  unfold rdO
  rw [rg2 (by omega), R.ok_bind, R.ok_bind]
  obtain ⟨s', e, h1, h2, h3⟩ := forN_inv (B := rdI t q (x : Int)) (fun m s => Jar s.1 ∧ s.2.length ≤ k * 10 + m ∧ ∀ r ∈ s.2, RdE r) 10 ((List.range ((n : Int) - ((x : Int) + 1)).toNat).map fun i => (x : Int) + 1 + ((i : Nat) : Int)) (s.1, s.2) 0 (by rw [List.length_map, List.length_range]; omega) h (fun s m hm y hy hP => by
    obtain ⟨i, hi, rfl⟩ := List.mem_map.mp hy
    have hi := List.mem_range.mp hi
    rw [show (x : Int) + 1 + ((i : Nat) : Int) = ((x + 1 + i : Nat) : Int) by omega]
    exact rdI_ok el ne hlen hsm (by omega) (by omega) (by omega) (by omega) hP)
  rw [e]
  rw [List.length_map, List.length_range] at h2
  exact ⟨_, rfl, h1, by show s'.2.length ≤ _; omega, h3⟩
theorem M_roads {j : List Int} (h : Jar j) {n : Nat} (hn : n ≤ 9) : ∃ rs j', M_l_roads j (n : Int) = .ok (rs, j') ∧ Jar j' ∧ rs.length ≤ 100 ∧ ∀ r ∈ rs, RdE r := by
  rw [roads_eq]
  obtain ⟨t, j1, e1, _, h1⟩ := one_of_ok h (l := [2, 3, 4, 5]) (by decide) (by decide)
  obtain ⟨q, j2, e2, hq, h2⟩ := one_of1_ok h1 (l := [("ab" : Str), ("ab" : Str), ("abc" : Str), ("abcdef" : Str)]) (by simp) (by simp)
  obtain ⟨hl, el, ne, hlen, hsm⟩ := huestr hq
  rw [e1, noX_ok, R.ok_bind, e2, noX_ok, R.ok_bind, R.ok_bind]
  dsimp only
  rw [rg1 (by omega), R.ok_bind, R.ok_bind]
  obtain ⟨s', e, k1, k2, k3⟩ := forN_inv (B := rdO t q (n : Int)) (fun k s => Jar s.1 ∧ s.2.length ≤ k * 10 ∧ ∀ r ∈ s.2, RdE r) 10 ((List.range n).map fun i => ((i : Nat) : Int)) (j2, []) 0 (by rw [List.length_map, List.length_range]; omega) ⟨h2, Nat.le_refl _, fun _ z => nomatch z⟩ (fun s k hk y hy hP => by
    obtain ⟨i, hi, rfl⟩ := List.mem_map.mp hy
    exact rdO_ok el ne hlen hsm (List.mem_range.mp hi) hn hk hP)
  rw [e]
  rw [List.length_map, List.length_range] at k2
  exact ⟨_, _, rfl, k1, by omega, k3⟩
end Mp
set_option Elab.async false
set_option linter.all false
set_option maxRecDepth 100000
namespace Mp
open PySem PySem.Spec PyProof.Rows L2 Evl SX
/-- lengths of parts, one more each -/
def wt (ws : List (List Nat)) : Nat := (ws.map (·.length)).sum + ws.length
theorem wt_app (a b : List (List Nat)) : wt (a ++ b) = wt a + wt b := by unfold wt; rw [List.map_append, List.sum_append, List.length_append]; omega
theorem wt_mem {ws : List (List Nat)} {w : List Nat} (h : w ∈ ws) : w.length + 1 ≤ wt ws := by
  obtain ⟨a, b, rfl⟩ := List.append_of_mem h
  rw [wt_app]
  have : wt (w :: b) = w.length + 1 + wt b := by unfold wt; simp only [List.map_cons, List.sum_cons, List.length_cons]; omega
  omega
theorem wt_Wd (a : List Nat) : wt (Wd a) = a.length + 1 := by
  have := joinL_len [32] (Wd a) (Wd_ne a)
  rw [Wd_back] at this
  unfold wt
  simp only [List.length_singleton] at this
  omega
theorem wt_take (ws : List (List Nat)) (k : Nat) : wt (ws.take k) + wt (ws.drop k) = wt ws := by rw [← wt_app, List.take_append_drop]
theorem wt_rev (ws : List (List Nat)) : wt ws.reverse = wt ws := by unfold wt; rw [List.map_reverse, List.sum_reverse, List.length_reverse]
theorem joinL_sub (b : List Nat) : ∀ ws : List (List Nat), ∀ c ∈ TL.joinL b ws, c ∈ b ∨ ∃ w ∈ ws, c ∈ w
  | [], c, h => nomatch h
  | [p], c, h => .inr ⟨p, List.mem_cons_self, h⟩
  | p :: q :: r, c, h => by
    rw [TL.joinL] at h
    rcases List.mem_append.mp h with h | h
    · exact .inr ⟨p, List.mem_cons_self, h⟩
    · rcases List.mem_append.mp h with h | h
      · exact .inl h
      · rcases joinL_sub b (q :: r) c h with h | ⟨w, hw, h⟩
        · exact .inl h
        · exact .inr ⟨w, List.mem_cons_of_mem _ hw, h⟩
/-- parts joined by blanks -/
theorem join_ok {ws : List (List Nat)} (h : wt ws ≤ 100000) (g : ∀ w ∈ ws, SG w) : R.join (" " : Str) (ws.map S) = .ok (S (TL.joinL [32] ws)) ∧ SG (TL.joinL [32] ws) ∧ (TL.joinL [32] ws).length ≤ wt ws := by
  have h' := h
  unfold wt at h'
  refine ⟨by rw [l_sp]; exact r_join (by simp only [List.length_singleton]; omega), fun c hc => ?_, ?_⟩
  · rcases joinL_sub _ ws c hc with h | ⟨w, hw, h⟩
    · rw [List.mem_singleton] at h; omega
    · exact g w hw c h
  · by_cases e : ws = []
    · subst e; exact Nat.zero_le _
    · have := joinL_len [32] ws e
      unfold wt
      simp only [List.length_singleton] at this
      omega
theorem comp_text : ∀ rs : List (Int × Int × Str), (∀ r ∈ rs, RdE r) → ∃ ws : List (List Nat), compR (fun x => .ok true) (fun (x : Int × Int × Str) => R.bind (R.str x.1) fun s2 => R.bind (R.catS s2 ("-" : Str)) fun s3 => R.bind (R.str x.2.1) fun s4 => R.bind (R.catS s3 s4) fun s5 => R.bind (R.catS s5 x.2.2) fun s6 => .ok s6) rs = .ok (ws.map S) ∧ wt ws = 5 * rs.length ∧ ws.length = rs.length ∧ ∀ w ∈ ws, SG w
  | [], _ => ⟨[], rfl, rfl, rfl, fun _ z => nomatch z⟩
  | r :: rs, h => by
    obtain ⟨a, b, hh, h1, h2, h3, rfl⟩ := h r List.mem_cons_self
    obtain ⟨ws, e, e2, e3, e4⟩ := comp_text rs fun x hx => h x (List.mem_cons_of_mem _ hx)
    refine ⟨[48 + a, 45, 48 + b, hh] :: ws, ?_, ?_, by rw [List.length_cons, List.length_cons, e3], fun w hw => ?_⟩
    · rw [compR, e]
      simp only [R.ok_bind, if_pos]
      rw [r_str h1, r_str h2]
      simp only [R.ok_bind, l_mi]
      rw [r_catS (by simp)]
      simp only [R.ok_bind]
      rw [r_catS (by simp)]
      simp only [R.ok_bind]
      rw [r_catS (by simp)]
      rfl
    · have : wt ([48 + a, 45, 48 + b, hh] :: ws) = 5 + wt ws := by unfold wt; simp only [List.map_cons, List.sum_cons, List.length_cons, List.length_nil]; omega
      rw [this, e2, List.length_cons]; omega
    · rcases List.mem_cons.mp hw with rfl | hw
      · exact SG.small (by simp; omega)
      · exact e4 w hw
theorem M_text {n : Nat} (hn : n ≤ 9) {rs : List (Int × Int × Str)} (h : ∀ r ∈ rs, RdE r) (hl : rs.length ≤ 9) : ∃ a, M_l_text (n : Int) rs = .ok (S a) ∧ SG a ∧ a.length ≤ 60 := by
  obtain ⟨ws, e, e2, e3, e4⟩ := comp_text rs h
  unfold M_l_text
  rw [r_str (by omega), R.ok_bind, l_co, r_catS (by simp), R.ok_bind, R.grd_pos (by rw [sz_eq]; omega), e, noX_ok, R.ok_bind]
  have hc : R.cat [S ([48 + n] ++ [58])] (ws.map S) = .ok (([48 + n, 58] :: ws).map S) := by
    unfold R.cat
    rw [R.grd_pos (by rw [sz_eq, List.length_map]; simp; omega)]
    rfl
  have hw : wt ([48 + n, 58] :: ws) = 3 + wt ws := by unfold wt; simp only [List.map_cons, List.sum_cons, List.length_cons, List.length_nil]; omega
  obtain ⟨j1, j2, j3⟩ := join_ok (ws := [48 + n, 58] :: ws) (by omega) (fun w hw => by
    rcases List.mem_cons.mp hw with rfl | hw
    · exact SG.small (by simp; omega)
    · exact e4 w hw)
  rw [hc, R.ok_bind, j1]
  exact ⟨_, rfl, j2, by omega⟩
theorem cutD_from' {A : Type} (l : List A) {i : Int} (h : 0 ≤ i) : cutD l (some i) none = l.drop i.toNat := by
  have := cutD_from l i.toNat
  rwa [show ((i.toNat : Nat) : Int) = i by omega] at this
theorem cutD_to' {A : Type} (l : List A) {i : Int} (h : 0 ≤ i) : cutD l none (some i) = l.take i.toNat := by
  have := cutD_to l i.toNat
  rwa [show ((i.toNat : Nat) : Int) = i by omega] at this
theorem sign_ok {j : List Int} (h : Jar j) : ∃ sg j', (R.bind (R.listS ("0123456789 -:abfgx" : Str)) fun l1 => R.bind (R.cat l1 [(" 0-1a" : Str), ("\n" : Str), ("--" : Str), ("ab" : Str), ("9:" : Str)]) fun l2 => R.bind (noX (M_l_one_of_1 j l2)) fun p3 => .ok (p3.1, p3.2)) = .ok (S sg, j') ∧ Jar j' ∧ SG sg ∧ sg.length ≤ 5 := by
  have e1 : ("0123456789 -:abfgx" : Str) = S [48, 49, 50, 51, 52, 53, 54, 55, 56, 57, 32, 45, 58, 97, 98, 102, 103, 120] := rfl
  have e2 : [(" 0-1a" : Str), ("\n" : Str), ("--" : Str), ("ab" : Str), ("9:" : Str)] = [[32, 48, 45, 49, 97], [10], [45, 45], [97, 98], [57, 58]].map S := rfl
  rw [e1, r_listS (by decide), R.ok_bind, e2]
  have hc : R.cat ([48, 49, 50, 51, 52, 53, 54, 55, 56, 57, 32, 45, 58, 97, 98, 102, 103, 120].map fun c => S [c]) ([[32, 48, 45, 49, 97], [10], [45, 45], [97, 98], [57, 58]].map S) = .ok (([48, 49, 50, 51, 52, 53, 54, 55, 56, 57, 32, 45, 58, 97, 98, 102, 103, 120].map (fun c => [c]) ++ [[32, 48, 45, 49, 97], [10], [45, 45], [97, 98], [57, 58]]).map S) := by
    unfold R.cat
    rw [R.grd_pos (by rw [sz_eq]; simp)]
    rfl
  rw [hc, R.ok_bind]
  obtain ⟨x, j', e, hx, hj⟩ := one_of1_ok h (l := ([48, 49, 50, 51, 52, 53, 54, 55, 56, 57, 32, 45, 58, 97, 98, 102, 103, 120].map (fun c => [c]) ++ [[32, 48, 45, 49, 97], [10], [45, 45], [97, 98], [57, 58]]).map S) (by simp) (by simp)
  obtain ⟨sg, hs, rfl⟩ := List.mem_map.mp hx
  have hall : ∀ sg ∈ ([48, 49, 50, 51, 52, 53, 54, 55, 56, 57, 32, 45, 58, 97, 98, 102, 103, 120].map (fun c => [c]) ++ [[32, 48, 45, 49, 97], [10], [45, 45], [97, 98], [57, 58]] : List (List Nat)), (∀ c ∈ sg, c < 1114112) ∧ sg.length ≤ 5 := by decide
  obtain ⟨g1, g2⟩ := hall sg hs
  rw [e]
  exact ⟨sg, j', rfl, hj, g1, g2⟩
theorem M_bent {j : List Int} (h : Jar j) {a : List Nat} (g : SG a) (hl : a.length ≤ 300) : ∃ a' j', M_l_bent j (S a) = .ok (S a', j') ∧ Jar j' ∧ SG a' ∧ a'.length ≤ 2 * a.length + 5 := by
  obtain ⟨way, j1, e1, h1, w0, w1⟩ := dip_ok h (top := 6) (by decide) (by decide)
  obtain ⟨at_, j2, e2, h2, p0, p1⟩ := dip_ok h1 (top := (a.length : Int) + 1) (by omega) (by omega)
  have hWl := Wd_len a
  have hWp : 0 < (Wd a).length := List.length_pos_iff.mpr (Wd_ne a)
  obtain ⟨k, j3, e3, h3, k0, k1⟩ := dip_ok h2 (top := ((Wd a).length : Int)) (by omega) (by omega)
  obtain ⟨sg, j4, e4, h4, g4, l4⟩ := sign_ok h3
  have gW : ∀ w ∈ Wd a, SG w := fun w hw => g.sub (Wd_mem hw).2
  have hwt := wt_Wd a
  unfold M_l_bent
  rw [l_sp, r_split (by simp) (by decide) (by omega), R.ok_bind, e1, noX_ok, R.ok_bind, r_lenS (by omega), R.ok_bind, e2, noX_ok, R.ok_bind, R.ok_bind]
  dsimp only
  rw [show TL.spl [32] 0 [] a = Wd a from rfl, List.length_map, e3, noX_ok, R.ok_bind, R.ok_bind, e4, R.ok_bind]
  dsimp only
  by_cases c1 : way < 3
  · rw [decide_eq_true c1, R.ok_bind, if_pos rfl, r_to (by omega) p0, R.ok_bind]
    obtain ⟨x, hx, ex⟩ := at_some (l := [("" : Str), S sg, S sg]) w0 c1
    obtain ⟨xs, rfl, gx, lx⟩ : ∃ xs, x = S xs ∧ SG xs ∧ xs.length ≤ 5 := by
      simp only [List.mem_cons, List.not_mem_nil, or_false] at hx
      rcases hx with rfl | rfl | rfl
      · exact ⟨[], rfl, SG.nil, by decide⟩
      · exact ⟨sg, rfl, g4, l4⟩
      · exact ⟨sg, rfl, g4, l4⟩
    obtain ⟨y, hy, ey⟩ := at_some (l := [(1 : Int), 0, 1]) w0 c1
    have y01 : 0 ≤ y ∧ y ≤ 1 := by
      simp only [List.mem_cons, List.not_mem_nil, or_false] at hy
      rcases hy with rfl | rfl | rfl <;> decide
    have t1 := List.length_take_le at_.toNat a
    have t2 : (a.drop (at_ + y).toNat).length ≤ a.length - at_.toNat := by rw [List.length_drop]; omega
    have t3 : (a.take at_.toNat).length ≤ at_.toNat := by rw [List.length_take]; omega
    rw [ex, R.ok_bind, r_catS (by omega), R.ok_bind, ey, R.ok_bind, r_from (by omega) (by omega), R.ok_bind, r_catS (by rw [List.length_append]; omega)]
    refine ⟨_, _, rfl, h4, ((g.take _).app gx).app (g.drop _), ?_⟩
    rw [List.length_append, List.length_append]
    omega
  rw [decide_eq_false c1, R.ok_bind, if_neg Bool.false_ne_true]
  have hk : k.toNat < (Wd a).length := by omega
  have d1 := wt_take (Wd a) k.toNat
  have d2 := wt_take (Wd a) (k.toNat + 1)
  have gT : ∀ n, ∀ w ∈ (Wd a).take n, SG w := fun n w hw => gW w (List.mem_of_mem_take hw)
  have gD : ∀ n, ∀ w ∈ (Wd a).drop n, SG w := fun n w hw => gW w (List.mem_of_mem_drop hw)
  have cat2 : ∀ u v : List (List Nat), wt u ≤ 10000 → wt v ≤ 10000 → R.cat (u.map S) (v.map S) = .ok ((u ++ v).map S) := fun u v hu hv => by
    unfold R.cat
    unfold wt at hu hv
    rw [R.grd_pos (by rw [sz_eq, List.length_map, List.length_map]; omega), List.map_append]
  have cT : ∀ i : Int, 0 ≤ i → cutD ((Wd a).map S) none (some i) = ((Wd a).take i.toNat).map S := fun i hi => by rw [cutD_to' _ hi, List.map_take]
  have cD : ∀ i : Int, 0 ≤ i → cutD ((Wd a).map S) (some i) none = ((Wd a).drop i.toNat).map S := fun i hi => by rw [cutD_from' _ hi, List.map_drop]
  by_cases c2 : way = 3
  · rw [decide_eq_true c2, R.ok_bind, if_pos rfl, cT k k0, cD (k + 1) (by omega), cat2 _ _ (by omega) (by rw [show (k + 1).toNat = k.toNat + 1 by omega]; omega), R.ok_bind]
    obtain ⟨j1', j2', j3'⟩ := join_ok (ws := (Wd a).take k.toNat ++ (Wd a).drop (k + 1).toNat) (by rw [wt_app, show (k + 1).toNat = k.toNat + 1 by omega]; omega) (fun w hw => by
      rcases List.mem_append.mp hw with hw | hw
      · exact gT _ w hw
      · exact gD _ w hw)
    rw [wt_app, show (k + 1).toNat = k.toNat + 1 by omega] at j3'
    have := wt_take (Wd a) k.toNat
    have d3 : wt ((Wd a).drop (k.toNat + 1)) ≤ wt ((Wd a).drop k.toNat) := by
      have e : (Wd a).drop k.toNat = (Wd a)[k.toNat] :: (Wd a).drop (k.toNat + 1) := List.drop_eq_getElem_cons hk
      rw [e]
      unfold wt
      simp only [List.map_cons, List.sum_cons, List.length_cons]
      omega
    rw [← l_sp, j1']
    rw [show (k + 1).toNat = k.toNat + 1 by omega] at j2' ⊢
    exact ⟨_, _, rfl, h4, j2', by omega⟩
  rw [decide_eq_false c2, R.ok_bind, if_neg Bool.false_ne_true]
  by_cases c3 : way = 4
  · obtain ⟨x2, hx2, ex2⟩ := at_some (l := (Wd a).map S) k0 (by rw [List.length_map]; exact k1)
    obtain ⟨w2, hw2, rfl⟩ := List.mem_map.mp hx2
    have dw := wt_mem hw2
    have w1t : wt [w2] = w2.length + 1 := by unfold wt; simp
    rw [decide_eq_true c3, R.ok_bind, if_pos rfl, ex2, R.ok_bind, cT k k0, cD k k0, show [S w2] = [w2].map S from rfl, cat2 _ _ (by omega) (by omega), R.ok_bind, cat2 _ _ (by rw [wt_app]; omega) (by omega), R.ok_bind]
    obtain ⟨j1', j2', j3'⟩ := join_ok (ws := (Wd a).take k.toNat ++ [w2] ++ (Wd a).drop k.toNat) (by rw [wt_app, wt_app]; omega) (fun w hw => by
      rcases List.mem_append.mp hw with hw | hw
      · rcases List.mem_append.mp hw with hw | hw
        · exact gT _ w hw
        · rw [List.mem_singleton] at hw; subst hw; exact gW w hw2
      · exact gD _ w hw)
    rw [wt_app, wt_app] at j3'
    rw [← l_sp, j1']
    exact ⟨_, _, rfl, h4, j2', by omega⟩
  rw [decide_eq_false c3, R.ok_bind, if_neg Bool.false_ne_true]
  have er : (((Wd a).map S).drop 1).reverse = (((Wd a).drop 1).reverse).map S := by rw [List.map_reverse, List.map_drop]
  have d4 := wt_take (Wd a) 1
  rw [show (some (1 : Int)) = some ((1 : Nat) : Int) from rfl, cutD_to, er, ← List.map_take, cat2 _ _ (by omega) (by rw [wt_rev]; omega), R.ok_bind]
  obtain ⟨j1', j2', j3'⟩ := join_ok (ws := (Wd a).take 1 ++ ((Wd a).drop 1).reverse) (by rw [wt_app, wt_rev]; omega) (fun w hw => by
    rcases List.mem_append.mp hw with hw | hw
    · exact gT _ w hw
    · exact gD _ w (List.mem_reverse.mp hw))
  rw [wt_app, wt_rev] at j3'
  rw [← l_sp, j1']
  exact ⟨_, _, rfl, h4, j2', by omega⟩
end Mp
set_option Elab.async false
set_option linter.all false
set_option maxRecDepth 100000
namespace Mp
open PySem PySem.Spec PyProof.Rows L2 Evl SX
theorem reprs_gd {w k : Nat} {d : D} (h : Gd w k d) (hw : w ≤ 100000) (hk : k ≤ 64) : ∃ s, R.reprs d = .ok s ∧ Sgn s := by
  obtain ⟨s, e, hs⟩ := gd_repr h hw hk
  refine ⟨s, ?_, hs⟩
  unfold R.reprs dOr
  rw [e]
  rfl
theorem reprs_S {a : List Nat} (g : SG a) (h : a.length ≤ 600) : ∃ s, R.reprs (D.str (S a)) = .ok s ∧ Sgn s := reprs_gd (gd_str g.s) (by rw [S_len]; omega) (by decide)
theorem read_exc {C : Nat → Addr} {d : D} {z : Str} (h : M_Net_read_D C d = .exc ⟨1, C 1, some ("given", d)⟩) (hz : R.reprs d = .ok z) (b : Bool) : M_l_read C d b = .ok ["refused", z] := by
  have e : (R.bind (R.bind ((if b then R.bind (M_Net_read_D C d) fun read => .ok read else R.bind (M_Net_read_D C d) fun read1 => .ok read1 : R (TNet))) fun z => .ok z) fun found => (.ok (.nx found) : R (Ctl TNet Unit (List Str)))) = .exc ⟨1, C 1, some ("given", d)⟩ := by
    rw [h]; cases b <;> rfl
  unfold M_l_read
  rw [e]
  have e2 : ∀ hd : D → R (Ctl TNet Unit (List Str)), R.tryX C [(1, true)] "given" (.exc ⟨1, C 1, some ("given", d)⟩) hd = hd d := fun hd => by
    unfold R.tryX
    dsimp only
    rw [if_pos rfl]
    show (if ("given" : Str) = "given" then hd d else .stuck) = hd d
    rw [if_pos rfl]
  rw [e2, hz]
  rfl
theorem read_ok {C : Nat → Addr} {d : D} {net : TNet} {a z : Str} (h : M_Net_read_D C d = .ok net) (hs : M_NetD_strD net = .ok a) (hz : R.reprs (D.str a) = .ok z) (b : Bool) : M_l_read C d b = .ok ["read", z] := by
  have e : (R.bind (R.bind ((if b then R.bind (M_Net_read_D C d) fun read => .ok read else R.bind (M_Net_read_D C d) fun read1 => .ok read1 : R (TNet))) fun z => .ok z) fun found => (.ok (.nx found) : R (Ctl TNet Unit (List Str)))) = .ok (.nx net) := by
    rw [h]; cases b <;> rfl
  unfold M_l_read
  rw [e]
  show retOf (R.bind (R.bind (R.strO (M_NetD_strD net)) fun s1 => R.bind (R.reprs (D.str s1)) fun s2 => .ok [("read" : Str), s2]) fun v => (.ok (.ret v) : R (Ctl Unit Unit (List Str)))) = _
  rw [hs]
  show retOf (R.bind (R.bind (R.reprs (D.str a)) fun s2 => .ok [("read" : Str), s2]) fun v => (.ok (.ret v) : R (Ctl Unit Unit (List Str)))) = _
  rw [hz]
  rfl
/-- a page that law and program read alike -/
structure Pg (C : Nat → Addr) (d : D) : Prop where
  out : ∃ (z : Str) (k : Bool), Sgn z ∧ R.reprs d = .ok z ∧ M_l_is_page_D d = .ok k ∧ ∀ b, M_l_read C d b = .ok [if k then "read" else "refused", z]
theorem pg_S {C : Nat → Addr} {a : List Nat} (g : SG a) (h : a.length ≤ 600) : Pg C (D.str (S a)) := by
  obtain ⟨z, hz, sz⟩ := reprs_S g h
  have hp : M_l_is_page_D (D.str (S a)) = .ok (pageOk a) := M_page g h
  obtain ⟨r1, r2⟩ := M_read (C := C) g h
  refine ⟨z, pageOk a, sz, hz, hp, fun b => ?_⟩
  cases hk : pageOk a with
  | true =>
    obtain ⟨net, e1, e2⟩ := r1 hk
    exact read_ok (d := D.str (S a)) e1 e2 hz b
  | false => exact read_exc (d := D.str (S a)) (r2 hk) hz b
theorem pg_str {C : Nat → Addr} (s : String) (h : (Str.ofString s).length ≤ 600) : Pg C (D.str (Str.ofString s)) := by
  have e : Str.ofString s = S (Str.ofString s).cps.toList := (S_tl _).symm
  rw [e]
  exact pg_S (fun c hc => Sgn.of s c hc) (by rw [← S_len, ← e]; exact h)
theorem pg_no {C : Nat → Addr} {d : D} {z : Str} (hz : R.reprs d = .ok z) (sz : Sgn z) (h1 : M_l_is_page_D d = .ok false) (h2 : M_Net_read_D C d = .exc ⟨1, C 1, some ("given", d)⟩) : Pg C d :=
  ⟨z, false, sz, hz, h1, fun b => read_exc h2 hz b⟩
theorem pg_gd {C : Nat → Addr} {d : D} {w k : Nat} (h : Gd w k d) (hw : w ≤ 100000) (hk : k ≤ 64) (h1 : M_l_is_page_D d = .ok false) (h2 : M_Net_read_D C d = .exc ⟨1, C 1, some ("given", d)⟩) : Pg C d := by
  obtain ⟨z, hz, sz⟩ := reprs_gd h hw hk
  exact pg_no hz sz h1 h2
theorem pg_odd {C : Nat → Addr} {a : List Nat} (g : SG a) (hl : a.length ≤ 600) : ∀ d ∈ [(eU ()), (D.int 5), (D.bl true), (D.tup []), ((eL D.str) [S a]), (D.tup [D.str (S a)]), (.dT [] : D), (D.str ("" : Str)), (D.str (":" : Str)), (D.str ("1" : Str)), (D.str ("1:" : Str)), (D.str ("0:" : Str)), (D.str ("9:" : Str)), (D.str ("10:" : Str)), (D.str ("01:" : Str))] ++ [(D.str ("9: 0-8a" : Str)), (D.str ("9: 0-9a" : Str)), (D.str (" 1:" : Str)), (D.str ("1: " : Str)), (D.str ("2: 0-1a 0-1b" : Str)), (D.str ("3: 1-2a 0-1a" : Str)), (D.str ("2: 1-0a" : Str)), (D.str ("2: 0-1" : Str))] ++ [(D.str ("2: 0-1A" : Str)), (D.str ("2: 0-1aa" : Str)), (D.str ("2: a" : Str)), (D.str ("2: 0-1g" : Str)), (D.str ("3: 00-1a" : Str))], Pg C d := by
  intro d hd
  simp only [List.cons_append, List.nil_append, List.mem_cons, List.not_mem_nil, or_false] at hd
  have gs : Gd 6002 1 (D.str (S a)) := (gd_str g.s).mono (by rw [S_len]; omega) (Nat.le_refl _)
  rcases hd with rfl | rfl | rfl | rfl | rfl | rfl | rfl | hd
  · exact pg_gd gd_non (by decide) (by decide) rfl rfl
  · exact pg_gd (gd_int (by decide) (by decide)) (by decide) (by decide) rfl rfl
  · exact pg_gd (gd_bl true) (by decide) (by decide) rfl rfl
  · exact pg_gd (gd_tup (w := 0) (k := 0) (m := 0) (fun _ z => nomatch z) (Nat.le_refl _)) (by decide) (by decide) rfl rfl
  · exact pg_gd (gd_lst (m := 1) (ds := [D.str (S a)]) (fun x hx => by rw [List.mem_singleton] at hx; subst hx; exact gs) (Nat.le_refl _)) (by decide) (by decide) rfl rfl
  · exact pg_gd (gd_tup (m := 1) (ds := [D.str (S a)]) (fun x hx => by rw [List.mem_singleton] at hx; subst hx; exact gs) (Nat.le_refl _)) (by decide) (by decide) rfl rfl
  · exact pg_no (z := "{}") rfl (.of _) rfl rfl
  · rcases hd with rfl | rfl | rfl | rfl | rfl | rfl | rfl | rfl | rfl | rfl | rfl | rfl | rfl | rfl | rfl | rfl | rfl | rfl | rfl | rfl | rfl <;> exact pg_str _ (by decide)
theorem M_jar {ns : List Int} (hl : ns.length ≤ 63) {t : Nat} (ht : t < 6) : ∃ j, M_l_jar ns (t : Int) = .ok j ∧ Jar j := by
  unfold M_l_jar
  have hcell : ∃ cell, (R.bind ((if (decide ((t : Int) < (ns.length : Int))) then R.bind (R.at_ ns (t : Int)) fun x => .ok x else R.bind (R.mul 37 (t : Int)) fun n => .ok (n + 3) : R (Int))) fun z => .ok z) = .ok cell := by
    by_cases c : (t : Int) < (ns.length : Int)
    · obtain ⟨x, _, e⟩ := at_some (l := ns) (i := (t : Int)) (by omega) c
      rw [decide_eq_true c, if_pos rfl, e]
      exact ⟨_, rfl⟩
    · rw [decide_eq_false c]
      exact ⟨_, rfl⟩
  obtain ⟨cell, ec⟩ := hcell
  have em : R.mul 9001 (t : Int) = .ok (9001 * (t : Int)) := rfl
  have ecat : R.cat (cutD ns none (some 5)) [cell] = .ok (cutD ns none (some 5) ++ [cell]) := by
    unfold R.cat
    have : (cutD ns none (some 5)).length ≤ 63 := by
      rw [show (some (5 : Int)) = some ((5 : Nat) : Int) from rfl, cutD_to, List.length_take]; omega
    rw [R.grd_pos (by rw [sz_eq, List.length_singleton]; omega)]
  rw [ec, R.ok_bind, em, R.ok_bind, R.ok_bind, ecat, R.ok_bind, R.ok_bind]
  obtain ⟨mx, emx, _⟩ := forN_inv (B := fun (s : Int) (x1 : Int) =>
      R.bind (R.bind (R.mul s 20011) fun n2 => R.bind (R.mod (n2 + x1) 2147482763) fun n3 => .ok n3) fun mixed1 => .ok mixed1) (fun _ _ => True) (cutD ns none (some 5) ++ [cell]).length (cutD ns none (some 5) ++ [cell]) (70003 + 9001 * (t : Int)) 0 (by omega) trivial (fun s k _ x _ _ => by
    have e1 : R.mul s 20011 = .ok (s * 20011) := R.grd_pos (by unfold okMul; simp)
    have e2 : ∀ y : Int, R.mod y 2147482763 = .ok (y % 2147482763) := fun y => rfl
    rw [e1, R.ok_bind, e2]
    exact ⟨_, rfl, trivial⟩)
  rw [emx]
  have ep : R.pow 10 18 = .ok (10 ^ 18) := rfl
  rw [ep]
  by_cases c1 : cell < 0
  · rw [decide_eq_true c1]
    exact ⟨_, rfl, _, _, _, rfl⟩
  · rw [decide_eq_false c1]
    by_cases c2 : (10 : Int) ^ 18 ≤ cell
    · simp only [R.ok_bind, decide_eq_true c2]
      exact ⟨_, rfl, _, _, _, rfl⟩
    · simp only [R.ok_bind, decide_eq_false c2]
      exact ⟨_, rfl, _, _, _, rfl⟩
end Mp
set_option Elab.async false
set_option linter.all false
set_option maxRecDepth 100000
namespace Mp
open PySem PySem.Spec PyProof.Rows L2 Evl SX
def rgB (C : Nat → Addr) (s : List Int) (x : Int) : R (Ctl (List Int) (List Int) (Bool × List Int)) :=
      R.bind (R.bind (noX (M_l_one_of s [1, 2, 3, 5, 9])) fun p => .ok (p.1, p.2)) fun size =>
      R.bind (R.bind (noX (M_l_roads size.2 size.1)) fun p1 => R.bind (M_l_text size.1 (cutD p1.1 none (some 9))) fun text => .ok (text, p1.2)) fun page =>
      R.bind (R.bind (R.bind (noX (M_l_dip page.2 4)) fun p2 => R.bind (R.range1 p2.1) fun xs2 => .ok (xs2, p2.2)) fun xs3 => forN (fun (s1 : (List (Int)) × (Str)) x1 =>
          R.bind (R.bind (noX (M_l_bent s1.1 s1.2)) fun p3 => .ok (p3.1, p3.2)) fun page1 =>
          .ok (page1.2, page1.1)) xs3.1 (xs3.2, page.1)) fun (s2 : (List (Int)) × (Str)) =>
      R.bind (R.bind (R.bind (noX (M_l_dip s2.1 6)) fun p4 => .ok ((decide (p4.1 = 0)), p4.2)) fun k => if k.1 then
        R.bind (.ok [(eU ()), (D.int 5), (D.bl true), (D.tup []), ((eL D.str) [s2.2]), (D.tup [D.str s2.2]), (.dT [] : D), (D.str ("" : Str)), (D.str (":" : Str)), (D.str ("1" : Str)), (D.str ("1:" : Str)), (D.str ("0:" : Str)), (D.str ("9:" : Str)), (D.str ("10:" : Str)), (D.str ("01:" : Str))]) fun odd =>
        R.bind (R.bind (R.cat odd [(D.str ("9: 0-8a" : Str)), (D.str ("9: 0-9a" : Str)), (D.str (" 1:" : Str)), (D.str ("1: " : Str)), (D.str ("2: 0-1a 0-1b" : Str)), (D.str ("3: 1-2a 0-1a" : Str)), (D.str ("2: 1-0a" : Str)), (D.str ("2: 0-1" : Str))]) fun l => .ok l) fun odd1 =>
        R.bind (R.bind (R.cat odd1 [(D.str ("2: 0-1A" : Str)), (D.str ("2: 0-1aa" : Str)), (D.str ("2: a" : Str)), (D.str ("2: 0-1g" : Str)), (D.str ("3: 00-1a" : Str))]) fun l1 => R.bind (noX (M_l_one_of_2 k.2 l1)) fun p5 => .ok (p5.1, p5.2)) fun page2 =>
        .ok (page2.2, page2.1)
      else
        .ok (k.2, (D.str s2.2))) fun (s3 : (List (Int)) × (D)) =>
      R.bind (R.bind (M_l_is_page_D s3.2) fun is_page => R.bind ((if is_page then .ok ("read" : Str) else .ok ("refused" : Str) : R (Str))) fun z => R.bind (R.reprs (eD s3.2)) fun s4 => .ok [z, s4]) fun due =>
      R.bind (R.bind (M_l_read C s3.2 false) fun read => R.bind (M_l_read C s3.2 true) fun read1 => R.bind (R.eqD ((eL (eL D.str)) [read, read1]) ((eL (eL D.str)) [due, due])) fun k1 => .ok (!k1)) fun k2 => if k2 then
        R.bind (.ok (false, s3.1)) fun v => .ok (.ret v)
      else
      .ok (.nx s3.1)
theorem right_eq (C : Nat → Addr) (j : List Int) : M_l_right C j = retM (
  R.seq (R.bind (R.bind (R.range1 12) fun xs => .ok xs) fun xs1 => forC (rgB C) xs1 j) fun (s5 : (List (Int))) =>
  R.bind (.ok (true, s5)) fun v1 => .ok (.ret v1) : R (Ctl Unit Unit (Bool × List (Int)))) := rfl
theorem due_eq {k : Bool} {z : Str} (sz : Sgn z) : R.eqD ((eL (eL D.str)) [[if k then ("read" : Str) else "refused", z], [if k then ("read" : Str) else "refused", z]]) ((eL (eL D.str)) [[if k then ("read" : Str) else "refused", z], [if k then ("read" : Str) else "refused", z]]) = .ok true := by
  have hok : ∀ l ∈ [[if k then ("read" : Str) else "refused", z], [if k then ("read" : Str) else "refused", z]], ∀ s ∈ l, Sgn s := fun l hl s hs => by
    have : l = [if k then ("read" : Str) else "refused", z] := by
      simp only [List.mem_cons, List.not_mem_nil, or_false, or_self] at hl; exact hl
    subst this
    simp only [List.mem_cons, List.not_mem_nil, or_false] at hs
    rcases hs with rfl | rfl
    · cases k
      · exact .of _
      · exact .of _
    · exact sz
  have := eqv_str.list.list.eq (by omega) hok hok
  rw [decide_eq_true rfl] at this
  exact this
theorem rgB_ok {C : Nat → Addr} {s : List Int} (h : Jar s) (x : Int) : ∃ s', rgB C s x = .ok (.nx s') ∧ Jar s' := by
  obtain ⟨n0, j1, e1, hn, h1⟩ := one_of_ok h (l := [1, 2, 3, 5, 9]) (by decide) (by decide)
  obtain ⟨n, rfl, hn9⟩ : ∃ n : Nat, n0 = (n : Int) ∧ n ≤ 9 := by
    simp only [List.mem_cons, List.not_mem_nil, or_false] at hn
    rcases hn with rfl | rfl | rfl | rfl | rfl
    · exact ⟨1, rfl, by decide⟩
    · exact ⟨2, rfl, by decide⟩
    · exact ⟨3, rfl, by decide⟩
    · exact ⟨5, rfl, by decide⟩
    · exact ⟨9, rfl, by decide⟩
  obtain ⟨rs, j2, e2, h2, l2, r2⟩ := M_roads h1 hn9
  have ecut : cutD rs none (some 9) = rs.take 9 := cutD_to rs 9
  obtain ⟨a, e3, g3, l3⟩ := M_text hn9 (rs := rs.take 9) (fun r hr => r2 r (List.mem_of_mem_take hr)) (by rw [List.length_take]; omega)
  obtain ⟨v, j4, e4, h4, v0, v1⟩ := dip_ok h2 (top := 4) (by decide) (by decide)
  have erng : R.range1 v = .ok ((List.range v.toNat).map fun i => ((i : Nat) : Int)) := by
    rw [show v = ((v.toNat : Nat) : Int) by omega]
    exact rg1 (by omega)
  obtain ⟨s2, e5, ⟨a5, es5, h5, g5, l5⟩⟩ := forN_inv (B := fun (s1 : (List (Int)) × (Str)) (x1 : Int) =>
          R.bind (R.bind (noX (M_l_bent s1.1 s1.2)) fun p3 => .ok (p3.1, p3.2)) fun page1 =>
          .ok (page1.2, page1.1)) (fun k s1 => ∃ a : List Nat, s1.2 = S a ∧ Jar s1.1 ∧ SG a ∧ a.length + 5 ≤ 65 * 2 ^ k) 3 ((List.range v.toNat).map fun i => ((i : Nat) : Int)) (j4, S a) 0 (by rw [List.length_map, List.length_range]; omega) ⟨a, rfl, h4, g3, by omega⟩ (fun s k hk y _ hP => by
    obtain ⟨a', e', h', g', l'⟩ := hP
    have hk3 : k = 0 ∨ k = 1 ∨ k = 2 := by omega
    obtain ⟨a2, j2, e, hj, gg, ll⟩ := M_bent h' g' (by rcases hk3 with rfl | rfl | rfl <;> omega)
    rw [e', e, noX_ok]
    exact ⟨_, rfl, a2, rfl, hj, gg, by rw [Nat.pow_succ]; omega⟩)
  rw [List.length_map, List.length_range] at l5
  have l5' : a5.length ≤ 600 := by
    have hv : v.toNat = 0 ∨ v.toNat = 1 ∨ v.toNat = 2 ∨ v.toNat = 3 := by omega
    rcases hv with q | q | q | q <;> rw [q] at l5 <;> omega
  obtain ⟨w, j6, e6, h6, _, _⟩ := dip_ok h5 (top := 6) (by decide) (by decide)
  unfold rgB
  rw [e1, noX_ok, R.ok_bind, R.ok_bind]
  dsimp only
  rw [e2, noX_ok, R.ok_bind]
  dsimp only
  rw [ecut, e3, R.ok_bind, R.ok_bind]
  dsimp only
  rw [e4, noX_ok, R.ok_bind, erng, R.ok_bind, R.ok_bind, e5, R.ok_bind, e6, noX_ok, R.ok_bind, R.ok_bind]
  dsimp only
  -- the page
  have page : ∃ (j7 : List Int) (d : D), (if decide (w = 0) = true then
        R.bind (.ok [(eU ()), (D.int 5), (D.bl true), (D.tup []), ((eL D.str) [s2.2]), (D.tup [D.str s2.2]), (.dT [] : D), (D.str ("" : Str)), (D.str (":" : Str)), (D.str ("1" : Str)), (D.str ("1:" : Str)), (D.str ("0:" : Str)), (D.str ("9:" : Str)), (D.str ("10:" : Str)), (D.str ("01:" : Str))]) fun odd =>
        R.bind (R.bind (R.cat odd [(D.str ("9: 0-8a" : Str)), (D.str ("9: 0-9a" : Str)), (D.str (" 1:" : Str)), (D.str ("1: " : Str)), (D.str ("2: 0-1a 0-1b" : Str)), (D.str ("3: 1-2a 0-1a" : Str)), (D.str ("2: 1-0a" : Str)), (D.str ("2: 0-1" : Str))]) fun l => .ok l) fun odd1 =>
        R.bind (R.bind (R.cat odd1 [(D.str ("2: 0-1A" : Str)), (D.str ("2: 0-1aa" : Str)), (D.str ("2: a" : Str)), (D.str ("2: 0-1g" : Str)), (D.str ("3: 00-1a" : Str))]) fun l1 => R.bind (noX (M_l_one_of_2 j6 l1)) fun p5 => .ok (p5.1, p5.2)) fun page2 =>
        .ok (page2.2, page2.1)
      else
        (.ok (j6, (D.str s2.2)) : R (List Int × D))) = .ok (j7, d) ∧ Jar j7 ∧ Pg C d := by
    by_cases c : w = 0
    · rw [decide_eq_true c, if_pos rfl, es5, R.ok_bind]
      have k1 : ∀ (u v : List D), u.length ≤ 100 → v.length ≤ 100 → R.cat u v = .ok (u ++ v) := fun u v hu hv => by
        unfold R.cat
        rw [R.grd_pos (by rw [sz_eq]; omega)]
      rw [k1 _ _ (by simp) (by simp), R.ok_bind, R.ok_bind, k1 _ _ (by simp) (by simp), R.ok_bind]
      obtain ⟨d, j7, e7, hd, h7⟩ := one_of2_ok h6 (l := [(eU ()), (D.int 5), (D.bl true), (D.tup []), ((eL D.str) [S a5]), (D.tup [D.str (S a5)]), (.dT [] : D), (D.str ("" : Str)), (D.str (":" : Str)), (D.str ("1" : Str)), (D.str ("1:" : Str)), (D.str ("0:" : Str)), (D.str ("9:" : Str)), (D.str ("10:" : Str)), (D.str ("01:" : Str))] ++ [(D.str ("9: 0-8a" : Str)), (D.str ("9: 0-9a" : Str)), (D.str (" 1:" : Str)), (D.str ("1: " : Str)), (D.str ("2: 0-1a 0-1b" : Str)), (D.str ("3: 1-2a 0-1a" : Str)), (D.str ("2: 1-0a" : Str)), (D.str ("2: 0-1" : Str))] ++ [(D.str ("2: 0-1A" : Str)), (D.str ("2: 0-1aa" : Str)), (D.str ("2: a" : Str)), (D.str ("2: 0-1g" : Str)), (D.str ("3: 00-1a" : Str))]) (by simp) (by simp)
      rw [e7, noX_ok]
      exact ⟨j7, d, rfl, h7, pg_odd g5 l5' d hd⟩
    · rw [decide_eq_false c, if_neg Bool.false_ne_true, es5]
      exact ⟨_, _, rfl, h6, pg_S g5 l5'⟩
  obtain ⟨j7, d, ep, h7, pg⟩ := page
  rw [ep, R.ok_bind]
  dsimp only
  obtain ⟨z, k, sz, hz, hk, hr⟩ := pg.out
  rw [hk, R.ok_bind, show eD d = d from rfl, hz, hr, hr]
  have hif : (if k then (.ok ("read" : Str) : R Str) else .ok ("refused" : Str)) = .ok (if k then ("read" : Str) else "refused") := by cases k <;> rfl
  rw [hif]
  simp only [R.ok_bind]
  rw [due_eq sz, R.ok_bind]
  exact ⟨j7, rfl, h7⟩
theorem M_right {C : Nat → Addr} {j : List Int} (h : Jar j) : ∃ j', M_l_right C j = .ok (true, j') := by
  rw [right_eq]
  have er : R.range1 12 = .ok ((List.range 12).map fun i => ((i : Nat) : Int)) := rg1 (by decide)
  rw [er, R.ok_bind, R.ok_bind]
  obtain ⟨s', e, _⟩ := forC_inv (L := Unit) (B := rgB C) Jar ((List.range 12).map fun i => ((i : Nat) : Int)) j h (fun s x _ hs => rgB_ok hs x)
  rw [e]
  exact ⟨_, rfl⟩
theorem M_law_ok (C : Nat → Addr) {ns : List Int} (hl : ns.length ≤ 63) : M_law C ns = .ok true := by
  unfold M_law
  have hb : ∃ m : Nat, m ≤ 6 ∧ (if (if 6 < (ns.length : Int) then 6 else (ns.length : Int)) > 2 then (if 6 < (ns.length : Int) then 6 else (ns.length : Int)) else 2) = (m : Int) := by
    by_cases c : 6 < (ns.length : Int)
    · exact ⟨6, by omega, by rw [if_pos c]; rfl⟩
    · by_cases c2 : (ns.length : Int) > 2
      · exact ⟨ns.length, by omega, by rw [if_neg c, if_pos c2]⟩
      · exact ⟨2, by omega, by rw [if_neg c, if_neg c2]; rfl⟩
  obtain ⟨m, hm, em⟩ := hb
  rw [em, rg1 (by omega), R.ok_bind, R.grd_pos (by rw [List.length_map, List.length_range, sz_eq]; omega), compR_ok (c := fun _ => true) (f := fun _ => true) _ (fun _ _ => rfl) (fun x hx _ => by
    obtain ⟨i, hi, rfl⟩ := List.mem_map.mp hx
    have hi := List.mem_range.mp hi
    obtain ⟨j, ej, hj⟩ := M_jar hl (t := i) (by omega)
    obtain ⟨j', e'⟩ := M_right (C := C) hj
    rw [ej, R.ok_bind, e', noX_ok, R.ok_bind]), noX_ok]
  have hall : ∀ l : List Int, ((l.filter fun _ => true).map fun _ => true).all id = true := fun l => by
    rw [List.all_eq_true]
    intro b hb
    obtain ⟨_, _, rfl⟩ := List.mem_map.mp hb
    rfl
  rw [R.ok_bind, hall]
  rfl
theorem law_holds (C : Nat → Addr) (ns : List Int) (h : ns.length ≤ 63) : F_law C [.scr ns] = .val (.bl true) := by
  have := S_law C ns
  rw [M_law_ok C h] at this
  exact this
end Mp
set_option Elab.async false
set_option linter.all false
set_option maxRecDepth 100000
namespace Mp
open PySem PySem.Spec PyProof.Rows L2 Evl
theorem all_mk {l : PySem.W.OpenLaw} {w : World} {K : PySem.W.Frag} {h : Heap} {mg : Str → Option Value} {fa aNet a_l_dip a_l_one_of a_l_text a_l_roads a_l_bent a_l_number a_l_is_page a_size_in a_road_in a_is_integer a_is_integer_from a_is_size a_is_place a_is_hue a_is_road a_first_wrong_road a_NetD_initD p_Net_read a_Net_read a_NetD_strD a_l_read a_l_right a_l_jar a_law ac_InvalidNumber a_xInvalidNumber ac_InvalidRoads a_xInvalidRoads ac_InvalidText a_xInvalidText : Addr} {oc_l_dip kV_l_dip dc_l_dip pm_l_dip cd_l_dip ct_l_dip oc_l_one_of kV_l_one_of dc_l_one_of pm_l_one_of cd_l_one_of ct_l_one_of oc_l_text kV_l_text dc_l_text pm_l_text cd_l_text ct_l_text oc_l_roads kV_l_roads dc_l_roads pm_l_roads cd_l_roads ct_l_roads oc_l_bent kV_l_bent dc_l_bent pm_l_bent cd_l_bent ct_l_bent oc_l_number kV_l_number dc_l_number pm_l_number cd_l_number ct_l_number oc_l_is_page kV_l_is_page dc_l_is_page pm_l_is_page cd_l_is_page ct_l_is_page oc_size_in kV_size_in dc_size_in pm_size_in cd_size_in ct_size_in oc_road_in kV_road_in dc_road_in pm_road_in cd_road_in ct_road_in oc_is_integer kV_is_integer dc_is_integer pm_is_integer cd_is_integer ct_is_integer oc_is_integer_from kV_is_integer_from dc_is_integer_from pm_is_integer_from cd_is_integer_from ct_is_integer_from oc_is_size kV_is_size dc_is_size pm_is_size cd_is_size ct_is_size oc_is_place kV_is_place dc_is_place pm_is_place cd_is_place ct_is_place oc_is_hue kV_is_hue dc_is_hue pm_is_hue cd_is_hue ct_is_hue oc_is_road kV_is_road dc_is_road pm_is_road cd_is_road ct_is_road oc_first_wrong_road kV_first_wrong_road dc_first_wrong_road pm_first_wrong_road cd_first_wrong_road ct_first_wrong_road oc_NetD_initD kV_NetD_initD dc_NetD_initD pm_NetD_initD cd_NetD_initD ct_NetD_initD oc_Net_read kV_Net_read dc_Net_read pm_Net_read cd_Net_read ct_Net_read oc_NetD_strD kV_NetD_strD dc_NetD_strD pm_NetD_strD cd_NetD_strD ct_NetD_strD oc_l_read kV_l_read dc_l_read pm_l_read cd_l_read ct_l_read oc_l_right kV_l_right dc_l_right pm_l_right cd_l_right ct_l_right oc_l_jar kV_l_jar dc_l_jar pm_l_jar cd_l_jar ct_l_jar oc_law kV_law dc_law pm_law cd_law ct_law oc_xInvalidNumber kV_xInvalidNumber dc_xInvalidNumber pm_xInvalidNumber cd_xInvalidNumber ct_xInvalidNumber oc_xInvalidRoads kV_xInvalidRoads dc_xInvalidRoads pm_xInvalidRoads cd_xInvalidRoads ct_xInvalidRoads oc_xInvalidText kV_xInvalidText dc_xInvalidText pm_xInvalidText cd_xInvalidText ct_xInvalidText : Value} {od_l_dip an_l_dip od_l_one_of an_l_one_of od_l_text an_l_text od_l_roads an_l_roads od_l_bent an_l_bent od_l_number an_l_number od_l_is_page an_l_is_page od_size_in an_size_in od_road_in an_road_in od_is_integer an_is_integer od_is_integer_from an_is_integer_from od_is_size an_is_size od_is_place an_is_place od_is_hue an_is_hue od_is_road an_is_road od_first_wrong_road an_first_wrong_road od_NetD_initD an_NetD_initD od_Net_read an_Net_read od_NetD_strD an_NetD_strD od_l_read an_l_read od_l_right an_l_right od_l_jar an_l_jar od_law an_law od_xInvalidNumber an_xInvalidNumber od_xInvalidRoads an_xInvalidRoads od_xInvalidText an_xInvalidText : Option Addr} {sl_l_dip sl_l_one_of sl_l_text sl_l_roads sl_l_bent sl_l_number sl_l_is_page sl_size_in sl_road_in sl_is_integer sl_is_integer_from sl_is_size sl_is_place sl_is_hue sl_is_road sl_first_wrong_road sl_NetD_initD sl_Net_read sl_NetD_strD sl_l_read sl_l_right sl_l_jar sl_law sl_xInvalidNumber sl_xInvalidRoads sl_xInvalidText : Array (Option Value)} {tk_DIGITS tk_HUES tk_MOST_PLACES : Tok} {rs_Net_read : List Value} {nm_InvalidNumber q_InvalidNumber : Str} {N_InvalidNumber : Addr} {bs_InvalidNumber bm_InvalidNumber sub_InvalidNumber : List Value} {sn_InvalidNumber : List Str} {ab_InvalidNumber : Bool} {col_InvalidNumber : Option Bool} {dd_InvalidNumber : Option Addr} {k0_InvalidNumber k1_InvalidNumber k2_InvalidNumber k3_InvalidNumber k5_InvalidNumber : Option Value} {nm_InvalidRoads q_InvalidRoads : Str} {N_InvalidRoads : Addr} {bs_InvalidRoads bm_InvalidRoads sub_InvalidRoads : List Value} {sn_InvalidRoads : List Str} {ab_InvalidRoads : Bool} {col_InvalidRoads : Option Bool} {dd_InvalidRoads : Option Addr} {k0_InvalidRoads k1_InvalidRoads k2_InvalidRoads k3_InvalidRoads k5_InvalidRoads : Option Value} {nm_InvalidText q_InvalidText : Str} {N_InvalidText : Addr} {bs_InvalidText bm_InvalidText sub_InvalidText : List Value} {sn_InvalidText : List Str} {ab_InvalidText : Bool} {col_InvalidText : Option Bool} {dd_InvalidText : Option Addr} {k0_InvalidText k1_InvalidText k2_InvalidText k3_InvalidText k5_InvalidText : Option Value}
    (X : K.In h) (G : h.Ns mainGlobals mg) (hfa : mg "law" = some (.ref fa))
    (aN : PySem.W.nsIn K mainGlobals "Net" = some (some (.ref aNet)))
    (g_l_dip : PySem.W.nsIn K mainGlobals "_law_dip" = some (some (.ref a_l_dip)))
    (l_l_dip : K.lookup a_l_dip = some ⟨oc_l_dip, od_l_dip, .func (PySem.W.fnOf "_law_dip" "_law_dip" (defArgs st_l_dip) (defBody st_l_dip) (defScope st_l_dip) .none kV_l_dip dc_l_dip pm_l_dip an_l_dip cd_l_dip ct_l_dip), sl_l_dip⟩)
    (c_l_dip : PySem.W.codeIn K cd_l_dip "_law_dip" = true)
    (k_l_dip : PySem.W.keepIn K (.ref a_l_dip) = true)
    (g_l_one_of : PySem.W.nsIn K mainGlobals "_law_one_of" = some (some (.ref a_l_one_of)))
    (l_l_one_of : K.lookup a_l_one_of = some ⟨oc_l_one_of, od_l_one_of, .func (PySem.W.fnOf "_law_one_of" "_law_one_of" (defArgs st_l_one_of) (defBody st_l_one_of) (defScope st_l_one_of) .none kV_l_one_of dc_l_one_of pm_l_one_of an_l_one_of cd_l_one_of ct_l_one_of), sl_l_one_of⟩)
    (c_l_one_of : PySem.W.codeIn K cd_l_one_of "_law_one_of" = true)
    (k_l_one_of : PySem.W.keepIn K (.ref a_l_one_of) = true)
    (g_l_text : PySem.W.nsIn K mainGlobals "_law_text" = some (some (.ref a_l_text)))
    (l_l_text : K.lookup a_l_text = some ⟨oc_l_text, od_l_text, .func (PySem.W.fnOf "_law_text" "_law_text" (defArgs st_l_text) (defBody st_l_text) (defScope st_l_text) .none kV_l_text dc_l_text pm_l_text an_l_text cd_l_text ct_l_text), sl_l_text⟩)
    (c_l_text : PySem.W.codeIn K cd_l_text "_law_text" = true)
    (k_l_text : PySem.W.keepIn K (.ref a_l_text) = true)
    (g_l_roads : PySem.W.nsIn K mainGlobals "_law_roads" = some (some (.ref a_l_roads)))
    (l_l_roads : K.lookup a_l_roads = some ⟨oc_l_roads, od_l_roads, .func (PySem.W.fnOf "_law_roads" "_law_roads" (defArgs st_l_roads) (defBody st_l_roads) (defScope st_l_roads) .none kV_l_roads dc_l_roads pm_l_roads an_l_roads cd_l_roads ct_l_roads), sl_l_roads⟩)
    (c_l_roads : PySem.W.codeIn K cd_l_roads "_law_roads" = true)
    (k_l_roads : PySem.W.keepIn K (.ref a_l_roads) = true)
    (g_l_bent : PySem.W.nsIn K mainGlobals "_law_bent" = some (some (.ref a_l_bent)))
    (l_l_bent : K.lookup a_l_bent = some ⟨oc_l_bent, od_l_bent, .func (PySem.W.fnOf "_law_bent" "_law_bent" (defArgs st_l_bent) (defBody st_l_bent) (defScope st_l_bent) .none kV_l_bent dc_l_bent pm_l_bent an_l_bent cd_l_bent ct_l_bent), sl_l_bent⟩)
    (c_l_bent : PySem.W.codeIn K cd_l_bent "_law_bent" = true)
    (k_l_bent : PySem.W.keepIn K (.ref a_l_bent) = true)
    (g_l_number : PySem.W.nsIn K mainGlobals "_law_number" = some (some (.ref a_l_number)))
    (l_l_number : K.lookup a_l_number = some ⟨oc_l_number, od_l_number, .func (PySem.W.fnOf "_law_number" "_law_number" (defArgs st_l_number) (defBody st_l_number) (defScope st_l_number) .none kV_l_number dc_l_number pm_l_number an_l_number cd_l_number ct_l_number), sl_l_number⟩)
    (c_l_number : PySem.W.codeIn K cd_l_number "_law_number" = true)
    (k_l_number : PySem.W.keepIn K (.ref a_l_number) = true)
    (g_l_is_page : PySem.W.nsIn K mainGlobals "_law_is_page" = some (some (.ref a_l_is_page)))
    (l_l_is_page : K.lookup a_l_is_page = some ⟨oc_l_is_page, od_l_is_page, .func (PySem.W.fnOf "_law_is_page" "_law_is_page" (defArgs st_l_is_page) (defBody st_l_is_page) (defScope st_l_is_page) .none kV_l_is_page dc_l_is_page pm_l_is_page an_l_is_page cd_l_is_page ct_l_is_page), sl_l_is_page⟩)
    (c_l_is_page : PySem.W.codeIn K cd_l_is_page "_law_is_page" = true)
    (k_l_is_page : PySem.W.keepIn K (.ref a_l_is_page) = true)
    (g_size_in : PySem.W.nsIn K mainGlobals "size_in" = some (some (.ref a_size_in)))
    (l_size_in : K.lookup a_size_in = some ⟨oc_size_in, od_size_in, .func (PySem.W.fnOf "size_in" "size_in" (defArgs st_size_in) (defBody st_size_in) (defScope st_size_in) .none kV_size_in dc_size_in pm_size_in an_size_in cd_size_in ct_size_in), sl_size_in⟩)
    (c_size_in : PySem.W.codeIn K cd_size_in "size_in" = true)
    (k_size_in : PySem.W.keepIn K (.ref a_size_in) = true)
    (g_road_in : PySem.W.nsIn K mainGlobals "road_in" = some (some (.ref a_road_in)))
    (l_road_in : K.lookup a_road_in = some ⟨oc_road_in, od_road_in, .func (PySem.W.fnOf "road_in" "road_in" (defArgs st_road_in) (defBody st_road_in) (defScope st_road_in) .none kV_road_in dc_road_in pm_road_in an_road_in cd_road_in ct_road_in), sl_road_in⟩)
    (c_road_in : PySem.W.codeIn K cd_road_in "road_in" = true)
    (k_road_in : PySem.W.keepIn K (.ref a_road_in) = true)
    (g_is_integer : PySem.W.nsIn K mainGlobals "is_integer" = some (some (.ref a_is_integer)))
    (l_is_integer : K.lookup a_is_integer = some ⟨oc_is_integer, od_is_integer, .func (PySem.W.fnOf "is_integer" "is_integer" (defArgs st_is_integer) (defBody st_is_integer) (defScope st_is_integer) .none kV_is_integer dc_is_integer pm_is_integer an_is_integer cd_is_integer ct_is_integer), sl_is_integer⟩)
    (c_is_integer : PySem.W.codeIn K cd_is_integer "is_integer" = true)
    (k_is_integer : PySem.W.keepIn K (.ref a_is_integer) = true)
    (g_is_integer_from : PySem.W.nsIn K mainGlobals "is_integer_from" = some (some (.ref a_is_integer_from)))
    (l_is_integer_from : K.lookup a_is_integer_from = some ⟨oc_is_integer_from, od_is_integer_from, .func (PySem.W.fnOf "is_integer_from" "is_integer_from" (defArgs st_is_integer_from) (defBody st_is_integer_from) (defScope st_is_integer_from) .none kV_is_integer_from dc_is_integer_from pm_is_integer_from an_is_integer_from cd_is_integer_from ct_is_integer_from), sl_is_integer_from⟩)
    (c_is_integer_from : PySem.W.codeIn K cd_is_integer_from "is_integer_from" = true)
    (k_is_integer_from : PySem.W.keepIn K (.ref a_is_integer_from) = true)
    (g_is_size : PySem.W.nsIn K mainGlobals "is_size" = some (some (.ref a_is_size)))
    (l_is_size : K.lookup a_is_size = some ⟨oc_is_size, od_is_size, .func (PySem.W.fnOf "is_size" "is_size" (defArgs st_is_size) (defBody st_is_size) (defScope st_is_size) .none kV_is_size dc_is_size pm_is_size an_is_size cd_is_size ct_is_size), sl_is_size⟩)
    (c_is_size : PySem.W.codeIn K cd_is_size "is_size" = true)
    (k_is_size : PySem.W.keepIn K (.ref a_is_size) = true)
    (g_is_place : PySem.W.nsIn K mainGlobals "is_place" = some (some (.ref a_is_place)))
    (l_is_place : K.lookup a_is_place = some ⟨oc_is_place, od_is_place, .func (PySem.W.fnOf "is_place" "is_place" (defArgs st_is_place) (defBody st_is_place) (defScope st_is_place) .none kV_is_place dc_is_place pm_is_place an_is_place cd_is_place ct_is_place), sl_is_place⟩)
    (c_is_place : PySem.W.codeIn K cd_is_place "is_place" = true)
    (k_is_place : PySem.W.keepIn K (.ref a_is_place) = true)
    (g_is_hue : PySem.W.nsIn K mainGlobals "is_hue" = some (some (.ref a_is_hue)))
    (l_is_hue : K.lookup a_is_hue = some ⟨oc_is_hue, od_is_hue, .func (PySem.W.fnOf "is_hue" "is_hue" (defArgs st_is_hue) (defBody st_is_hue) (defScope st_is_hue) .none kV_is_hue dc_is_hue pm_is_hue an_is_hue cd_is_hue ct_is_hue), sl_is_hue⟩)
    (c_is_hue : PySem.W.codeIn K cd_is_hue "is_hue" = true)
    (k_is_hue : PySem.W.keepIn K (.ref a_is_hue) = true)
    (g_is_road : PySem.W.nsIn K mainGlobals "is_road" = some (some (.ref a_is_road)))
    (l_is_road : K.lookup a_is_road = some ⟨oc_is_road, od_is_road, .func (PySem.W.fnOf "is_road" "is_road" (defArgs st_is_road) (defBody st_is_road) (defScope st_is_road) .none kV_is_road dc_is_road pm_is_road an_is_road cd_is_road ct_is_road), sl_is_road⟩)
    (c_is_road : PySem.W.codeIn K cd_is_road "is_road" = true)
    (k_is_road : PySem.W.keepIn K (.ref a_is_road) = true)
    (g_first_wrong_road : PySem.W.nsIn K mainGlobals "first_wrong_road" = some (some (.ref a_first_wrong_road)))
    (l_first_wrong_road : K.lookup a_first_wrong_road = some ⟨oc_first_wrong_road, od_first_wrong_road, .func (PySem.W.fnOf "first_wrong_road" "first_wrong_road" (defArgs st_first_wrong_road) (defBody st_first_wrong_road) (defScope st_first_wrong_road) .none kV_first_wrong_road dc_first_wrong_road pm_first_wrong_road an_first_wrong_road cd_first_wrong_road ct_first_wrong_road), sl_first_wrong_road⟩)
    (c_first_wrong_road : PySem.W.codeIn K cd_first_wrong_road "first_wrong_road" = true)
    (k_first_wrong_road : PySem.W.keepIn K (.ref a_first_wrong_road) = true)
    (at_NetD_initD : PySem.W.findIn K (.ref aNet) "__init__" = some (some (.ref a_NetD_initD)))
    (fn_NetD_initD : PySem.W.isFn K (.ref a_NetD_initD) = true)
    (l_NetD_initD : K.lookup a_NetD_initD = some ⟨oc_NetD_initD, od_NetD_initD, .func (PySem.W.fnOf "__init__" "Net.__init__" (defArgs st_NetD_initD) (defBody st_NetD_initD) (defScope st_NetD_initD) .none kV_NetD_initD dc_NetD_initD pm_NetD_initD an_NetD_initD cd_NetD_initD ct_NetD_initD), sl_NetD_initD⟩)
    (c_NetD_initD : PySem.W.codeIn K cd_NetD_initD "Net.__init__" = true)
    (k_NetD_initD : PySem.W.keepIn K (.ref a_NetD_initD) = true)
    (sa_Net_read : PySem.W.findCls K (.ref aNet) (.type "type") "read" = some (.get (.builtin "staticmethod.__get__") (.ref p_Net_read) .none (.ref aNet)))
    (sr_Net_read : PySem.W.recIn K p_Net_read "staticmethod" = some (.ref a_Net_read :: rs_Net_read))
    (l_Net_read : K.lookup a_Net_read = some ⟨oc_Net_read, od_Net_read, .func (PySem.W.fnOf "read" "Net.read" (defArgs st_Net_read) (defBody st_Net_read) (defScope st_Net_read) .none kV_Net_read dc_Net_read pm_Net_read an_Net_read cd_Net_read ct_Net_read), sl_Net_read⟩)
    (c_Net_read : PySem.W.codeIn K cd_Net_read "Net.read" = true)
    (k_Net_read : PySem.W.keepIn K (.ref a_Net_read) = true)
    (at_NetD_strD : PySem.W.findIn K (.ref aNet) "__str__" = some (some (.ref a_NetD_strD)))
    (fn_NetD_strD : PySem.W.isFn K (.ref a_NetD_strD) = true)
    (l_NetD_strD : K.lookup a_NetD_strD = some ⟨oc_NetD_strD, od_NetD_strD, .func (PySem.W.fnOf "__str__" "Net.__str__" (defArgs st_NetD_strD) (defBody st_NetD_strD) (defScope st_NetD_strD) .none kV_NetD_strD dc_NetD_strD pm_NetD_strD an_NetD_strD cd_NetD_strD ct_NetD_strD), sl_NetD_strD⟩)
    (c_NetD_strD : PySem.W.codeIn K cd_NetD_strD "Net.__str__" = true)
    (k_NetD_strD : PySem.W.keepIn K (.ref a_NetD_strD) = true)
    (g_l_read : PySem.W.nsIn K mainGlobals "_law_read" = some (some (.ref a_l_read)))
    (l_l_read : K.lookup a_l_read = some ⟨oc_l_read, od_l_read, .func (PySem.W.fnOf "_law_read" "_law_read" (defArgs st_l_read) (defBody st_l_read) (defScope st_l_read) .none kV_l_read dc_l_read pm_l_read an_l_read cd_l_read ct_l_read), sl_l_read⟩)
    (c_l_read : PySem.W.codeIn K cd_l_read "_law_read" = true)
    (k_l_read : PySem.W.keepIn K (.ref a_l_read) = true)
    (g_l_right : PySem.W.nsIn K mainGlobals "_law_right" = some (some (.ref a_l_right)))
    (l_l_right : K.lookup a_l_right = some ⟨oc_l_right, od_l_right, .func (PySem.W.fnOf "_law_right" "_law_right" (defArgs st_l_right) (defBody st_l_right) (defScope st_l_right) .none kV_l_right dc_l_right pm_l_right an_l_right cd_l_right ct_l_right), sl_l_right⟩)
    (c_l_right : PySem.W.codeIn K cd_l_right "_law_right" = true)
    (k_l_right : PySem.W.keepIn K (.ref a_l_right) = true)
    (g_l_jar : PySem.W.nsIn K mainGlobals "_law_jar" = some (some (.ref a_l_jar)))
    (l_l_jar : K.lookup a_l_jar = some ⟨oc_l_jar, od_l_jar, .func (PySem.W.fnOf "_law_jar" "_law_jar" (defArgs st_l_jar) (defBody st_l_jar) (defScope st_l_jar) .none kV_l_jar dc_l_jar pm_l_jar an_l_jar cd_l_jar ct_l_jar), sl_l_jar⟩)
    (c_l_jar : PySem.W.codeIn K cd_l_jar "_law_jar" = true)
    (k_l_jar : PySem.W.keepIn K (.ref a_l_jar) = true)
    (g_law : PySem.W.nsIn K mainGlobals "law" = some (some (.ref a_law)))
    (l_law : K.lookup a_law = some ⟨oc_law, od_law, .func (PySem.W.fnOf "law" "law" (defArgs st_law) (defBody st_law) (defScope st_law) .none kV_law dc_law pm_law an_law cd_law ct_law), sl_law⟩)
    (c_law : PySem.W.codeIn K cd_law "law" = true)
    (k_law : PySem.W.keepIn K (.ref a_law) = true)
    (gx_InvalidNumber : PySem.W.nsIn K mainGlobals "InvalidNumber" = some (some (.ref ac_InvalidNumber)))
    (lx_InvalidNumber : K.lookup ac_InvalidNumber = some (excClassObj nm_InvalidNumber q_InvalidNumber ac_InvalidNumber N_InvalidNumber bs_InvalidNumber bm_InvalidNumber true sn_InvalidNumber sub_InvalidNumber ab_InvalidNumber col_InvalidNumber dd_InvalidNumber k0_InvalidNumber k1_InvalidNumber k2_InvalidNumber k3_InvalidNumber k5_InvalidNumber "ValueError.__new__"))
    (vx_InvalidNumber : PySem.HandSPX.refsVE bm_InvalidNumber = true)
    (sx_InvalidNumber : PySem.W.findIn K (.ref ac_InvalidNumber) "__setattr__" = some (some (.builtin "object.__setattr__")))
    (ex_InvalidNumber : PySem.W.subIn K (.ref ac_InvalidNumber) (.type "BaseException") = some true)
    (yx_InvalidNumber : PySem.W.typeIn K (.ref ac_InvalidNumber) = some (.type "type"))
    (kx_InvalidNumber : PySem.W.keepIn K (.ref ac_InvalidNumber) = true)
    (dx_InvalidNumber : PySem.W.findIn K (.ref ac_InvalidNumber) "__getattribute__" = some (some (.builtin "BaseException.__getattribute__")))
    (ux_InvalidNumber : PySem.W.findIn K (.ref ac_InvalidNumber) "__getattr__" = some none)
    (hx_InvalidNumber : PySem.W.hasDictIn K ac_InvalidNumber = true)
    (nx_InvalidNumber : PySem.W.findIn K (.ref ac_InvalidNumber) "given" = some none)
    (ix_InvalidNumber : PySem.W.findIn K (.ref ac_InvalidNumber) "__init__" = some (some (.ref a_xInvalidNumber)))
    (tx_InvalidNumber : PySem.W.typeIn K (.ref a_xInvalidNumber) = some (.type "function"))
    (l_xInvalidNumber : K.lookup a_xInvalidNumber = some ⟨oc_xInvalidNumber, od_xInvalidNumber, .func (PySem.W.fnOf "__init__" "InvalidNumber.__init__" (defArgs stx_InvalidNumber) (defBody stx_InvalidNumber) (defScope stx_InvalidNumber) .none kV_xInvalidNumber dc_xInvalidNumber pm_xInvalidNumber an_xInvalidNumber cd_xInvalidNumber ct_xInvalidNumber), sl_xInvalidNumber⟩)
    (c_xInvalidNumber : PySem.W.codeIn K cd_xInvalidNumber "InvalidNumber.__init__" = true)
    (k_xInvalidNumber : PySem.W.keepIn K (.ref a_xInvalidNumber) = true)
    (gx_InvalidRoads : PySem.W.nsIn K mainGlobals "InvalidRoads" = some (some (.ref ac_InvalidRoads)))
    (lx_InvalidRoads : K.lookup ac_InvalidRoads = some (excClassObj nm_InvalidRoads q_InvalidRoads ac_InvalidRoads N_InvalidRoads bs_InvalidRoads bm_InvalidRoads true sn_InvalidRoads sub_InvalidRoads ab_InvalidRoads col_InvalidRoads dd_InvalidRoads k0_InvalidRoads k1_InvalidRoads k2_InvalidRoads k3_InvalidRoads k5_InvalidRoads "ValueError.__new__"))
    (vx_InvalidRoads : PySem.HandSPX.refsVE bm_InvalidRoads = true)
    (sx_InvalidRoads : PySem.W.findIn K (.ref ac_InvalidRoads) "__setattr__" = some (some (.builtin "object.__setattr__")))
    (ex_InvalidRoads : PySem.W.subIn K (.ref ac_InvalidRoads) (.type "BaseException") = some true)
    (yx_InvalidRoads : PySem.W.typeIn K (.ref ac_InvalidRoads) = some (.type "type"))
    (kx_InvalidRoads : PySem.W.keepIn K (.ref ac_InvalidRoads) = true)
    (dx_InvalidRoads : PySem.W.findIn K (.ref ac_InvalidRoads) "__getattribute__" = some (some (.builtin "BaseException.__getattribute__")))
    (ux_InvalidRoads : PySem.W.findIn K (.ref ac_InvalidRoads) "__getattr__" = some none)
    (hx_InvalidRoads : PySem.W.hasDictIn K ac_InvalidRoads = true)
    (nx_InvalidRoads : PySem.W.findIn K (.ref ac_InvalidRoads) "index" = some none)
    (ix_InvalidRoads : PySem.W.findIn K (.ref ac_InvalidRoads) "__init__" = some (some (.ref a_xInvalidRoads)))
    (tx_InvalidRoads : PySem.W.typeIn K (.ref a_xInvalidRoads) = some (.type "function"))
    (l_xInvalidRoads : K.lookup a_xInvalidRoads = some ⟨oc_xInvalidRoads, od_xInvalidRoads, .func (PySem.W.fnOf "__init__" "InvalidRoads.__init__" (defArgs stx_InvalidRoads) (defBody stx_InvalidRoads) (defScope stx_InvalidRoads) .none kV_xInvalidRoads dc_xInvalidRoads pm_xInvalidRoads an_xInvalidRoads cd_xInvalidRoads ct_xInvalidRoads), sl_xInvalidRoads⟩)
    (c_xInvalidRoads : PySem.W.codeIn K cd_xInvalidRoads "InvalidRoads.__init__" = true)
    (k_xInvalidRoads : PySem.W.keepIn K (.ref a_xInvalidRoads) = true)
    (gx_InvalidText : PySem.W.nsIn K mainGlobals "InvalidText" = some (some (.ref ac_InvalidText)))
    (lx_InvalidText : K.lookup ac_InvalidText = some (excClassObj nm_InvalidText q_InvalidText ac_InvalidText N_InvalidText bs_InvalidText bm_InvalidText true sn_InvalidText sub_InvalidText ab_InvalidText col_InvalidText dd_InvalidText k0_InvalidText k1_InvalidText k2_InvalidText k3_InvalidText k5_InvalidText "ValueError.__new__"))
    (vx_InvalidText : PySem.HandSPX.refsVE bm_InvalidText = true)
    (sx_InvalidText : PySem.W.findIn K (.ref ac_InvalidText) "__setattr__" = some (some (.builtin "object.__setattr__")))
    (ex_InvalidText : PySem.W.subIn K (.ref ac_InvalidText) (.type "BaseException") = some true)
    (yx_InvalidText : PySem.W.typeIn K (.ref ac_InvalidText) = some (.type "type"))
    (kx_InvalidText : PySem.W.keepIn K (.ref ac_InvalidText) = true)
    (dx_InvalidText : PySem.W.findIn K (.ref ac_InvalidText) "__getattribute__" = some (some (.builtin "BaseException.__getattribute__")))
    (ux_InvalidText : PySem.W.findIn K (.ref ac_InvalidText) "__getattr__" = some none)
    (hx_InvalidText : PySem.W.hasDictIn K ac_InvalidText = true)
    (nx_InvalidText : PySem.W.findIn K (.ref ac_InvalidText) "given" = some none)
    (ix_InvalidText : PySem.W.findIn K (.ref ac_InvalidText) "__init__" = some (some (.ref a_xInvalidText)))
    (tx_InvalidText : PySem.W.typeIn K (.ref a_xInvalidText) = some (.type "function"))
    (l_xInvalidText : K.lookup a_xInvalidText = some ⟨oc_xInvalidText, od_xInvalidText, .func (PySem.W.fnOf "__init__" "InvalidText.__init__" (defArgs stx_InvalidText) (defBody stx_InvalidText) (defScope stx_InvalidText) .none kV_xInvalidText dc_xInvalidText pm_xInvalidText an_xInvalidText cd_xInvalidText ct_xInvalidText), sl_xInvalidText⟩)
    (c_xInvalidText : PySem.W.codeIn K cd_xInvalidText "InvalidText.__init__" = true)
    (k_xInvalidText : PySem.W.keepIn K (.ref a_xInvalidText) = true)
    (em_InvalidText_InvalidText : PySem.W.subIn K (.ref ac_InvalidText) (.ref ac_InvalidText) = some true)
    (zga : PySem.W.specialIn K (.ref aNet) "__getattribute__" = some (some (.builtin "type.__getattribute__")))
    (zrd : PySem.W.readsIn K aNet (.type "type") = true)
    (zpg : PySem.W.plainGet K aNet Str.empty = true)
    (zhd : PySem.W.hasDictIn K aNet = true)
    (zpo : PySem.W.plainOver K aNet = true)
    (zsa : PySem.W.findIn K (.ref aNet) "__setattr__" = some (some (.builtin "object.__setattr__")))
    (zha : PySem.W.findIn K (.ref aNet) "__class__" = some (some (.builtin "object.__class__")))
    (zhn : PySem.W.specialIn K (.builtin "object.__class__") "__get__" = some (some (.builtin "getset_descriptor.__get__")))
    (zht : PySem.W.takesIn K (.builtin "object.__class__") = some true)
    (zhm : PySem.W.mroIn K aNet (.type "object") = some true)
    (zty : PySem.W.typeIn K (.ref aNet) = some (.type "type"))
    (zmk : PySem.W.makesIn K aNet = true)
    (zkp : PySem.W.keepIn K (.ref aNet) = true)
    (zne : PySem.W.findIn K (.ref aNet) "__ne__" = some (some (.builtin "object.__ne__")))
    (nf_NoneType : PySem.W.notFirst K aNet (.type "NoneType") = true)
    (nf_bool : PySem.W.notFirst K aNet (.type "bool") = true)
    (nf_int : PySem.W.notFirst K aNet (.type "int") = true)
    (nf_str : PySem.W.notFirst K aNet (.type "str") = true)
    (nf_tuple : PySem.W.notFirst K aNet (.type "tuple") = true)
    (nf_list : PySem.W.notFirst K aNet (.type "list") = true)
    (nf_dict : PySem.W.notFirst K aNet (.type "dict") = true)
    (cc_DIGITS : PySem.W.nsIn K mainGlobals "DIGITS" = some (some (.str "0123456789" tk_DIGITS)))
    (cc_HUES : PySem.W.nsIn K mainGlobals "HUES" = some (some (.str "abcdef" tk_HUES)))
    (cc_MOST_PLACES : PySem.W.nsIn K mainGlobals "MOST_PLACES" = some (some (.int 9 tk_MOST_PLACES)))
    (na__hues : PySem.W.findIn K (.ref aNet) "_hues" = some none)
    (na__roads : PySem.W.findIn K (.ref aNet) "_roads" = some none)
    (na__size : PySem.W.findIn K (.ref aNet) "_size" = some none)
    (z_abs : PySem.W.nsIn K mainGlobals "abs" = some none)
    (z_all : PySem.W.nsIn K mainGlobals "all" = some none)
    (z_bool : PySem.W.nsIn K mainGlobals "bool" = some none)
    (z_divmod : PySem.W.nsIn K mainGlobals "divmod" = some none)
    (z_enumerate : PySem.W.nsIn K mainGlobals "enumerate" = some none)
    (z_int : PySem.W.nsIn K mainGlobals "int" = some none)
    (z_isinstance : PySem.W.nsIn K mainGlobals "isinstance" = some none)
    (z_len : PySem.W.nsIn K mainGlobals "len" = some none)
    (z_list : PySem.W.nsIn K mainGlobals "list" = some none)
    (z_max : PySem.W.nsIn K mainGlobals "max" = some none)
    (z_min : PySem.W.nsIn K mainGlobals "min" = some none)
    (z_range : PySem.W.nsIn K mainGlobals "range" = some none)
    (z_repr : PySem.W.nsIn K mainGlobals "repr" = some none)
    (z_str : PySem.W.nsIn K mainGlobals "str" = some none)
    (z_tuple : PySem.W.nsIn K mainGlobals "tuple" = some none) :
    ∃ (fd : FuncData) (F : List D → FO), (∀ (s : Shared) (u : Value), BindsTo s fd ⟨[u], []⟩ [("_law_cells", u)]) ∧ (∀ ns : List Int, ns.length ≤ 63 → F [.scr ns] = .val (.bl true)) ∧ ∀ base : Heap, FnG l.prog w K mg base 28 fa fd ["_law_cells"] (spP K 1 F) := by
  have e := hfa.symm.trans (PySem.W.mg_of X G g_law)
  cases e
  let T : Tp K mg := { C := fun i => [aNet, ac_InvalidText, ac_InvalidNumber, 0, ac_InvalidRoads].getD i 0, a_l_dip := a_l_dip, fd_l_dip := PySem.W.fnOf "_law_dip" "_law_dip" (defArgs st_l_dip) (defBody st_l_dip) (defScope st_l_dip) .none kV_l_dip dc_l_dip pm_l_dip an_l_dip cd_l_dip ct_l_dip, F_l_dip := fun_mk l_l_dip c_l_dip k_l_dip, g_l_dip := PySem.W.mg_of X G g_l_dip, a_l_one_of := a_l_one_of, fd_l_one_of := PySem.W.fnOf "_law_one_of" "_law_one_of" (defArgs st_l_one_of) (defBody st_l_one_of) (defScope st_l_one_of) .none kV_l_one_of dc_l_one_of pm_l_one_of an_l_one_of cd_l_one_of ct_l_one_of, F_l_one_of := fun_mk l_l_one_of c_l_one_of k_l_one_of, g_l_one_of := PySem.W.mg_of X G g_l_one_of, a_l_text := a_l_text, fd_l_text := PySem.W.fnOf "_law_text" "_law_text" (defArgs st_l_text) (defBody st_l_text) (defScope st_l_text) .none kV_l_text dc_l_text pm_l_text an_l_text cd_l_text ct_l_text, F_l_text := fun_mk l_l_text c_l_text k_l_text, g_l_text := PySem.W.mg_of X G g_l_text, a_l_roads := a_l_roads, fd_l_roads := PySem.W.fnOf "_law_roads" "_law_roads" (defArgs st_l_roads) (defBody st_l_roads) (defScope st_l_roads) .none kV_l_roads dc_l_roads pm_l_roads an_l_roads cd_l_roads ct_l_roads, F_l_roads := fun_mk l_l_roads c_l_roads k_l_roads, g_l_roads := PySem.W.mg_of X G g_l_roads, a_l_bent := a_l_bent, fd_l_bent := PySem.W.fnOf "_law_bent" "_law_bent" (defArgs st_l_bent) (defBody st_l_bent) (defScope st_l_bent) .none kV_l_bent dc_l_bent pm_l_bent an_l_bent cd_l_bent ct_l_bent, F_l_bent := fun_mk l_l_bent c_l_bent k_l_bent, g_l_bent := PySem.W.mg_of X G g_l_bent, a_l_number := a_l_number, fd_l_number := PySem.W.fnOf "_law_number" "_law_number" (defArgs st_l_number) (defBody st_l_number) (defScope st_l_number) .none kV_l_number dc_l_number pm_l_number an_l_number cd_l_number ct_l_number, F_l_number := fun_mk l_l_number c_l_number k_l_number, g_l_number := PySem.W.mg_of X G g_l_number, a_l_is_page := a_l_is_page, fd_l_is_page := PySem.W.fnOf "_law_is_page" "_law_is_page" (defArgs st_l_is_page) (defBody st_l_is_page) (defScope st_l_is_page) .none kV_l_is_page dc_l_is_page pm_l_is_page an_l_is_page cd_l_is_page ct_l_is_page, F_l_is_page := fun_mk l_l_is_page c_l_is_page k_l_is_page, g_l_is_page := PySem.W.mg_of X G g_l_is_page, a_size_in := a_size_in, fd_size_in := PySem.W.fnOf "size_in" "size_in" (defArgs st_size_in) (defBody st_size_in) (defScope st_size_in) .none kV_size_in dc_size_in pm_size_in an_size_in cd_size_in ct_size_in, F_size_in := fun_mk l_size_in c_size_in k_size_in, g_size_in := PySem.W.mg_of X G g_size_in, a_road_in := a_road_in, fd_road_in := PySem.W.fnOf "road_in" "road_in" (defArgs st_road_in) (defBody st_road_in) (defScope st_road_in) .none kV_road_in dc_road_in pm_road_in an_road_in cd_road_in ct_road_in, F_road_in := fun_mk l_road_in c_road_in k_road_in, g_road_in := PySem.W.mg_of X G g_road_in, a_is_integer := a_is_integer, fd_is_integer := PySem.W.fnOf "is_integer" "is_integer" (defArgs st_is_integer) (defBody st_is_integer) (defScope st_is_integer) .none kV_is_integer dc_is_integer pm_is_integer an_is_integer cd_is_integer ct_is_integer, F_is_integer := fun_mk l_is_integer c_is_integer k_is_integer, g_is_integer := PySem.W.mg_of X G g_is_integer, a_is_integer_from := a_is_integer_from, fd_is_integer_from := PySem.W.fnOf "is_integer_from" "is_integer_from" (defArgs st_is_integer_from) (defBody st_is_integer_from) (defScope st_is_integer_from) .none kV_is_integer_from dc_is_integer_from pm_is_integer_from an_is_integer_from cd_is_integer_from ct_is_integer_from, F_is_integer_from := fun_mk l_is_integer_from c_is_integer_from k_is_integer_from, g_is_integer_from := PySem.W.mg_of X G g_is_integer_from, a_is_size := a_is_size, fd_is_size := PySem.W.fnOf "is_size" "is_size" (defArgs st_is_size) (defBody st_is_size) (defScope st_is_size) .none kV_is_size dc_is_size pm_is_size an_is_size cd_is_size ct_is_size, F_is_size := fun_mk l_is_size c_is_size k_is_size, g_is_size := PySem.W.mg_of X G g_is_size, a_is_place := a_is_place, fd_is_place := PySem.W.fnOf "is_place" "is_place" (defArgs st_is_place) (defBody st_is_place) (defScope st_is_place) .none kV_is_place dc_is_place pm_is_place an_is_place cd_is_place ct_is_place, F_is_place := fun_mk l_is_place c_is_place k_is_place, g_is_place := PySem.W.mg_of X G g_is_place, a_is_hue := a_is_hue, fd_is_hue := PySem.W.fnOf "is_hue" "is_hue" (defArgs st_is_hue) (defBody st_is_hue) (defScope st_is_hue) .none kV_is_hue dc_is_hue pm_is_hue an_is_hue cd_is_hue ct_is_hue, F_is_hue := fun_mk l_is_hue c_is_hue k_is_hue, g_is_hue := PySem.W.mg_of X G g_is_hue, a_is_road := a_is_road, fd_is_road := PySem.W.fnOf "is_road" "is_road" (defArgs st_is_road) (defBody st_is_road) (defScope st_is_road) .none kV_is_road dc_is_road pm_is_road an_is_road cd_is_road ct_is_road, F_is_road := fun_mk l_is_road c_is_road k_is_road, g_is_road := PySem.W.mg_of X G g_is_road, a_first_wrong_road := a_first_wrong_road, fd_first_wrong_road := PySem.W.fnOf "first_wrong_road" "first_wrong_road" (defArgs st_first_wrong_road) (defBody st_first_wrong_road) (defScope st_first_wrong_road) .none kV_first_wrong_road dc_first_wrong_road pm_first_wrong_road an_first_wrong_road cd_first_wrong_road ct_first_wrong_road, F_first_wrong_road := fun_mk l_first_wrong_road c_first_wrong_road k_first_wrong_road, g_first_wrong_road := PySem.W.mg_of X G g_first_wrong_road, a_NetD_initD := a_NetD_initD, fd_NetD_initD := PySem.W.fnOf "__init__" "Net.__init__" (defArgs st_NetD_initD) (defBody st_NetD_initD) (defScope st_NetD_initD) .none kV_NetD_initD dc_NetD_initD pm_NetD_initD an_NetD_initD cd_NetD_initD ct_NetD_initD, F_NetD_initD := fun_mk l_NetD_initD c_NetD_initD k_NetD_initD, at_NetD_initD := at_NetD_initD, fn_NetD_initD := fn_NetD_initD, a_Net_read := a_Net_read, fd_Net_read := PySem.W.fnOf "read" "Net.read" (defArgs st_Net_read) (defBody st_Net_read) (defScope st_Net_read) .none kV_Net_read dc_Net_read pm_Net_read an_Net_read cd_Net_read ct_Net_read, F_Net_read := fun_mk l_Net_read c_Net_read k_Net_read, p_Net_read := p_Net_read, sta_Net_read := ⟨zga, zrd, sa_Net_read, ⟨_, sr_Net_read⟩, k_Net_read⟩, a_NetD_strD := a_NetD_strD, fd_NetD_strD := PySem.W.fnOf "__str__" "Net.__str__" (defArgs st_NetD_strD) (defBody st_NetD_strD) (defScope st_NetD_strD) .none kV_NetD_strD dc_NetD_strD pm_NetD_strD an_NetD_strD cd_NetD_strD ct_NetD_strD, F_NetD_strD := fun_mk l_NetD_strD c_NetD_strD k_NetD_strD, at_NetD_strD := at_NetD_strD, fn_NetD_strD := fn_NetD_strD, a_l_read := a_l_read, fd_l_read := PySem.W.fnOf "_law_read" "_law_read" (defArgs st_l_read) (defBody st_l_read) (defScope st_l_read) .none kV_l_read dc_l_read pm_l_read an_l_read cd_l_read ct_l_read, F_l_read := fun_mk l_l_read c_l_read k_l_read, g_l_read := PySem.W.mg_of X G g_l_read, a_l_right := a_l_right, fd_l_right := PySem.W.fnOf "_law_right" "_law_right" (defArgs st_l_right) (defBody st_l_right) (defScope st_l_right) .none kV_l_right dc_l_right pm_l_right an_l_right cd_l_right ct_l_right, F_l_right := fun_mk l_l_right c_l_right k_l_right, g_l_right := PySem.W.mg_of X G g_l_right, a_l_jar := a_l_jar, fd_l_jar := PySem.W.fnOf "_law_jar" "_law_jar" (defArgs st_l_jar) (defBody st_l_jar) (defScope st_l_jar) .none kV_l_jar dc_l_jar pm_l_jar an_l_jar cd_l_jar ct_l_jar, F_l_jar := fun_mk l_l_jar c_l_jar k_l_jar, g_l_jar := PySem.W.mg_of X G g_l_jar, a_law := fa, fd_law := PySem.W.fnOf "law" "law" (defArgs st_law) (defBody st_law) (defScope st_law) .none kV_law dc_law pm_law an_law cd_law ct_law, F_law := fun_mk l_law c_law k_law, g_law := PySem.W.mg_of X G g_law, ax_InvalidNumber := a_xInvalidNumber, fx_InvalidNumber := PySem.W.fnOf "__init__" "InvalidNumber.__init__" (defArgs stx_InvalidNumber) (defBody stx_InvalidNumber) (defScope stx_InvalidNumber) .none kV_xInvalidNumber dc_xInvalidNumber pm_xInvalidNumber an_xInvalidNumber cd_xInvalidNumber ct_xInvalidNumber, Fx_InvalidNumber := fun_mk l_xInvalidNumber c_xInvalidNumber k_xInvalidNumber, g_InvalidNumber := PySem.W.mg_of X G gx_InvalidNumber, oex_InvalidNumber := oex_mk lx_InvalidNumber vx_InvalidNumber sx_InvalidNumber ex_InvalidNumber yx_InvalidNumber kx_InvalidNumber, xf_InvalidNumber := ⟨dx_InvalidNumber, ux_InvalidNumber, ex_InvalidNumber, hx_InvalidNumber⟩, no_InvalidNumber := nx_InvalidNumber, ix_InvalidNumber := ix_InvalidNumber, tx_InvalidNumber := tx_InvalidNumber, ax_InvalidRoads := a_xInvalidRoads, fx_InvalidRoads := PySem.W.fnOf "__init__" "InvalidRoads.__init__" (defArgs stx_InvalidRoads) (defBody stx_InvalidRoads) (defScope stx_InvalidRoads) .none kV_xInvalidRoads dc_xInvalidRoads pm_xInvalidRoads an_xInvalidRoads cd_xInvalidRoads ct_xInvalidRoads, Fx_InvalidRoads := fun_mk l_xInvalidRoads c_xInvalidRoads k_xInvalidRoads, g_InvalidRoads := PySem.W.mg_of X G gx_InvalidRoads, oex_InvalidRoads := oex_mk lx_InvalidRoads vx_InvalidRoads sx_InvalidRoads ex_InvalidRoads yx_InvalidRoads kx_InvalidRoads, xf_InvalidRoads := ⟨dx_InvalidRoads, ux_InvalidRoads, ex_InvalidRoads, hx_InvalidRoads⟩, no_InvalidRoads := nx_InvalidRoads, ix_InvalidRoads := ix_InvalidRoads, tx_InvalidRoads := tx_InvalidRoads, ax_InvalidText := a_xInvalidText, fx_InvalidText := PySem.W.fnOf "__init__" "InvalidText.__init__" (defArgs stx_InvalidText) (defBody stx_InvalidText) (defScope stx_InvalidText) .none kV_xInvalidText dc_xInvalidText pm_xInvalidText an_xInvalidText cd_xInvalidText ct_xInvalidText, Fx_InvalidText := fun_mk l_xInvalidText c_xInvalidText k_xInvalidText, g_InvalidText := PySem.W.mg_of X G gx_InvalidText, oex_InvalidText := oex_mk lx_InvalidText vx_InvalidText sx_InvalidText ex_InvalidText yx_InvalidText kx_InvalidText, xf_InvalidText := ⟨dx_InvalidText, ux_InvalidText, ex_InvalidText, hx_InvalidText⟩, no_InvalidText := nx_InvalidText, ix_InvalidText := ix_InvalidText, tx_InvalidText := tx_InvalidText, exm_InvalidText_InvalidText := PySem.W.exm_ref ex_InvalidText hx_InvalidText yx_InvalidText em_InvalidText_InvalidText, g_Net := PySem.W.mg_of X G aN, ins := ⟨⟨zpg, zhd, zpo, zsa⟩, zha, zhn, zht, zhm⟩, makes := zmk, kpNet := zkp, ne_Net := zne, nf := List.forall_mem_cons.mpr ⟨nf_NoneType, List.forall_mem_cons.mpr ⟨nf_bool, List.forall_mem_cons.mpr ⟨nf_int, List.forall_mem_cons.mpr ⟨nf_str, List.forall_mem_cons.mpr ⟨nf_tuple, List.forall_mem_cons.mpr ⟨nf_list, List.forall_mem_cons.mpr ⟨nf_dict, fun _ z => nomatch z⟩⟩⟩⟩⟩⟩⟩, kit_C := List.forall_mem_cons.mpr ⟨kit_own zhd zty nf_NoneType, List.forall_mem_cons.mpr ⟨kit_own zhd zty nf_bool, List.forall_mem_cons.mpr ⟨kit_own zhd zty nf_int, List.forall_mem_cons.mpr ⟨kit_own zhd zty nf_str, List.forall_mem_cons.mpr ⟨kit_own zhd zty nf_tuple, List.forall_mem_cons.mpr ⟨kit_own zhd zty nf_list, List.forall_mem_cons.mpr ⟨kit_own zhd zty nf_dict, fun _ z => nomatch z⟩⟩⟩⟩⟩⟩⟩, c_DIGITS := ⟨tk_DIGITS, PySem.W.mg_of X G cc_DIGITS⟩, c_HUES := ⟨tk_HUES, PySem.W.mg_of X G cc_HUES⟩, c_MOST_PLACES := ⟨tk_MOST_PLACES, PySem.W.mg_of X G cc_MOST_PLACES⟩, na__hues := na__hues, na__roads := na__roads, na__size := na__size, n_abs := PySem.W.mg_none_of X G z_abs, n_all := PySem.W.mg_none_of X G z_all, n_bool := PySem.W.mg_none_of X G z_bool, n_divmod := PySem.W.mg_none_of X G z_divmod, n_enumerate := PySem.W.mg_none_of X G z_enumerate, n_int := PySem.W.mg_none_of X G z_int, n_isinstance := PySem.W.mg_none_of X G z_isinstance, n_len := PySem.W.mg_none_of X G z_len, n_list := PySem.W.mg_none_of X G z_list, n_max := PySem.W.mg_none_of X G z_max, n_min := PySem.W.mg_none_of X G z_min, n_range := PySem.W.mg_none_of X G z_range, n_repr := PySem.W.mg_none_of X G z_repr, n_str := PySem.W.mg_none_of X G z_str, n_tuple := PySem.W.mg_none_of X G z_tuple }
  exact ⟨T.fd_law, F_law T.C, fun s u => .of_eq rfl, fun ns h => law_holds T.C ns h, fun base => G_law T⟩
end Mp
open PySem PySem.W PyProof.Rows
set_option maxRecDepth 100000 in
set_option maxHeartbeats 0 in
theorem PySem.Challenge.cw_hueturns_k03_whole_texts_of_nets_holds : PySem.Challenge.rw_hueturns_k03_whole_texts_of_nets.Holds := by
  w_on; o_law; k_head; (case hw => w_witness2)
  k_fill
  refine Mp.walk_ofG (n := 63) (k := 28) (x := "_law_cells") (l := PySem.Challenge.rw_hueturns_k03_whole_texts_of_nets) rfl (by decide) rfl ⟨rfl, by decide, by decide⟩ (fun w h Y => PySem.W.kIn_of Y) ?F
  case F =>
    intro w mg fa h KX G hmg
    refine' Mp.all_mk KX G hmg ?aN ?g_l_dip ?l_l_dip ?c_l_dip ?k_l_dip ?g_l_one_of ?l_l_one_of ?c_l_one_of ?k_l_one_of ?g_l_text ?l_l_text ?c_l_text ?k_l_text ?g_l_roads ?l_l_roads ?c_l_roads ?k_l_roads ?g_l_bent ?l_l_bent ?c_l_bent ?k_l_bent ?g_l_number ?l_l_number ?c_l_number ?k_l_number ?g_l_is_page ?l_l_is_page ?c_l_is_page ?k_l_is_page ?g_size_in ?l_size_in ?c_size_in ?k_size_in ?g_road_in ?l_road_in ?c_road_in ?k_road_in ?g_is_integer ?l_is_integer ?c_is_integer ?k_is_integer ?g_is_integer_from ?l_is_integer_from ?c_is_integer_from ?k_is_integer_from ?g_is_size ?l_is_size ?c_is_size ?k_is_size ?g_is_place ?l_is_place ?c_is_place ?k_is_place ?g_is_hue ?l_is_hue ?c_is_hue ?k_is_hue ?g_is_road ?l_is_road ?c_is_road ?k_is_road ?g_first_wrong_road ?l_first_wrong_road ?c_first_wrong_road ?k_first_wrong_road ?at_NetD_initD ?fn_NetD_initD ?l_NetD_initD ?c_NetD_initD ?k_NetD_initD ?sa_Net_read ?sr_Net_read ?l_Net_read ?c_Net_read ?k_Net_read ?at_NetD_strD ?fn_NetD_strD ?l_NetD_strD ?c_NetD_strD ?k_NetD_strD ?g_l_read ?l_l_read ?c_l_read ?k_l_read ?g_l_right ?l_l_right ?c_l_right ?k_l_right ?g_l_jar ?l_l_jar ?c_l_jar ?k_l_jar ?g_law ?l_law ?c_law ?k_law ?gx_InvalidNumber ?lx_InvalidNumber ?vx_InvalidNumber ?sx_InvalidNumber ?ex_InvalidNumber ?yx_InvalidNumber ?kx_InvalidNumber ?dx_InvalidNumber ?ux_InvalidNumber ?hx_InvalidNumber ?nx_InvalidNumber ?ix_InvalidNumber ?tx_InvalidNumber ?l_xInvalidNumber ?c_xInvalidNumber ?k_xInvalidNumber ?gx_InvalidRoads ?lx_InvalidRoads ?vx_InvalidRoads ?sx_InvalidRoads ?ex_InvalidRoads ?yx_InvalidRoads ?kx_InvalidRoads ?dx_InvalidRoads ?ux_InvalidRoads ?hx_InvalidRoads ?nx_InvalidRoads ?ix_InvalidRoads ?tx_InvalidRoads ?l_xInvalidRoads ?c_xInvalidRoads ?k_xInvalidRoads ?gx_InvalidText ?lx_InvalidText ?vx_InvalidText ?sx_InvalidText ?ex_InvalidText ?yx_InvalidText ?kx_InvalidText ?dx_InvalidText ?ux_InvalidText ?hx_InvalidText ?nx_InvalidText ?ix_InvalidText ?tx_InvalidText ?l_xInvalidText ?c_xInvalidText ?k_xInvalidText ?em_InvalidText_InvalidText ?zga ?zrd ?zpg ?zhd ?zpo ?zsa ?zha ?zhn ?zht ?zhm ?zty ?zmk ?zkp ?zne ?nf_NoneType ?nf_bool ?nf_int ?nf_str ?nf_tuple ?nf_list ?nf_dict ?cc_DIGITS ?cc_HUES ?cc_MOST_PLACES ?na__hues ?na__roads ?na__size ?z_abs ?z_all ?z_bool ?z_divmod ?z_enumerate ?z_int ?z_isinstance ?z_len ?z_list ?z_max ?z_min ?z_range ?z_repr ?z_str ?z_tuple
    (case aN => k_is)
    (case g_l_dip => k_is)
    (case l_l_dip => k_is)
    (case c_l_dip => k_is)
    (case k_l_dip => k_is)
    (case g_l_one_of => k_is)
    (case l_l_one_of => k_is)
    (case c_l_one_of => k_is)
    (case k_l_one_of => k_is)
    (case g_l_text => k_is)
    (case l_l_text => k_is)
    (case c_l_text => k_is)
    (case k_l_text => k_is)
    (case g_l_roads => k_is)
    (case l_l_roads => k_is)
    (case c_l_roads => k_is)
    (case k_l_roads => k_is)
    (case g_l_bent => k_is)
    (case l_l_bent => k_is)
    (case c_l_bent => k_is)
    (case k_l_bent => k_is)
    (case g_l_number => k_is)
    (case l_l_number => k_is)
    (case c_l_number => k_is)
    (case k_l_number => k_is)
    (case g_l_is_page => k_is)
    (case l_l_is_page => k_is)
    (case c_l_is_page => k_is)
    (case k_l_is_page => k_is)
    (case g_size_in => k_is)
    (case l_size_in => k_is)
    (case c_size_in => k_is)
    (case k_size_in => k_is)
    (case g_road_in => k_is)
    (case l_road_in => k_is)
    (case c_road_in => k_is)
    (case k_road_in => k_is)
    (case g_is_integer => k_is)
    (case l_is_integer => k_is)
    (case c_is_integer => k_is)
    (case k_is_integer => k_is)
    (case g_is_integer_from => k_is)
    (case l_is_integer_from => k_is)
    (case c_is_integer_from => k_is)
    (case k_is_integer_from => k_is)
    (case g_is_size => k_is)
    (case l_is_size => k_is)
    (case c_is_size => k_is)
    (case k_is_size => k_is)
    (case g_is_place => k_is)
    (case l_is_place => k_is)
    (case c_is_place => k_is)
    (case k_is_place => k_is)
    (case g_is_hue => k_is)
    (case l_is_hue => k_is)
    (case c_is_hue => k_is)
    (case k_is_hue => k_is)
    (case g_is_road => k_is)
    (case l_is_road => k_is)
    (case c_is_road => k_is)
    (case k_is_road => k_is)
    (case g_first_wrong_road => k_is)
    (case l_first_wrong_road => k_is)
    (case c_first_wrong_road => k_is)
    (case k_first_wrong_road => k_is)
    (case at_NetD_initD => k_is)
    (case fn_NetD_initD => k_is)
    (case l_NetD_initD => k_is)
    (case c_NetD_initD => k_is)
    (case k_NetD_initD => k_is)
    (case sa_Net_read => k_is)
    (case sr_Net_read => k_is)
    (case l_Net_read => k_is)
    (case c_Net_read => k_is)
    (case k_Net_read => k_is)
    (case at_NetD_strD => k_is)
    (case fn_NetD_strD => k_is)
    (case l_NetD_strD => k_is)
    (case c_NetD_strD => k_is)
    (case k_NetD_strD => k_is)
    (case g_l_read => k_is)
    (case l_l_read => k_is)
    (case c_l_read => k_is)
    (case k_l_read => k_is)
    (case g_l_right => k_is)
    (case l_l_right => k_is)
    (case c_l_right => k_is)
    (case k_l_right => k_is)
    (case g_l_jar => k_is)
    (case l_l_jar => k_is)
    (case c_l_jar => k_is)
    (case k_l_jar => k_is)
    (case g_law => k_is)
    (case l_law => k_is)
    (case c_law => k_is)
    (case k_law => k_is)
    (case gx_InvalidNumber => k_is)
    (case lx_InvalidNumber => k_is)
    (case vx_InvalidNumber => exact (by decide +kernel))
    (case sx_InvalidNumber => k_is)
    (case ex_InvalidNumber => k_is)
    (case yx_InvalidNumber => k_is)
    (case kx_InvalidNumber => k_is)
    (case dx_InvalidNumber => k_is)
    (case ux_InvalidNumber => k_is)
    (case hx_InvalidNumber => k_is)
    (case nx_InvalidNumber => k_is)
    (case ix_InvalidNumber => k_is)
    (case tx_InvalidNumber => k_is)
    (case l_xInvalidNumber => k_is)
    (case c_xInvalidNumber => k_is)
    (case k_xInvalidNumber => k_is)
    (case gx_InvalidRoads => k_is)
    (case lx_InvalidRoads => k_is)
    (case vx_InvalidRoads => exact (by decide +kernel))
    (case sx_InvalidRoads => k_is)
    (case ex_InvalidRoads => k_is)
    (case yx_InvalidRoads => k_is)
    (case kx_InvalidRoads => k_is)
    (case dx_InvalidRoads => k_is)
    (case ux_InvalidRoads => k_is)
    (case hx_InvalidRoads => k_is)
    (case nx_InvalidRoads => k_is)
    (case ix_InvalidRoads => k_is)
    (case tx_InvalidRoads => k_is)
    (case l_xInvalidRoads => k_is)
    (case c_xInvalidRoads => k_is)
    (case k_xInvalidRoads => k_is)
    (case gx_InvalidText => k_is)
    (case lx_InvalidText => k_is)
    (case vx_InvalidText => exact (by decide +kernel))
    (case sx_InvalidText => k_is)
    (case ex_InvalidText => k_is)
    (case yx_InvalidText => k_is)
    (case kx_InvalidText => k_is)
    (case dx_InvalidText => k_is)
    (case ux_InvalidText => k_is)
    (case hx_InvalidText => k_is)
    (case nx_InvalidText => k_is)
    (case ix_InvalidText => k_is)
    (case tx_InvalidText => k_is)
    (case l_xInvalidText => k_is)
    (case c_xInvalidText => k_is)
    (case k_xInvalidText => k_is)
    (case em_InvalidText_InvalidText => k_is)
    (case zga => k_is)
    (case zrd => k_is)
    (case zpg => k_is)
    (case zhd => k_is)
    (case zpo => k_is)
    (case zsa => k_is)
    (case zha => k_is)
    (case zhn => k_is)
    (case zht => k_is)
    (case zhm => k_is)
    (case zty => k_is)
    (case zmk => k_is)
    (case zkp => k_is)
    (case zne => k_is)
    (case nf_NoneType => k_is)
    (case nf_bool => k_is)
    (case nf_int => k_is)
    (case nf_str => k_is)
    (case nf_tuple => k_is)
    (case nf_list => k_is)
    (case nf_dict => k_is)
    (case cc_DIGITS => k_is)
    (case cc_HUES => k_is)
    (case cc_MOST_PLACES => k_is)
    (case na__hues => k_is)
    (case na__roads => k_is)
    (case na__size => k_is)
    (case z_abs => k_is)
    (case z_all => k_is)
    (case z_bool => k_is)
    (case z_divmod => k_is)
    (case z_enumerate => k_is)
    (case z_int => k_is)
    (case z_isinstance => k_is)
    (case z_len => k_is)
    (case z_list => k_is)
    (case z_max => k_is)
    (case z_min => k_is)
    (case z_range => k_is)
    (case z_repr => k_is)
    (case z_str => k_is)
    (case z_tuple => k_is)
