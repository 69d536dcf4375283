import PyProof.Rows.All
import Wide.All
import OpenK.AllK
import Wide.FinOn
import HandS.ForMost
import HandS.ForExc
import HandS.Evl
import HandS.CallSlots
import HandS.Deep
import HandS.TupAny
import HandS.TupMul
import HandS.Style
import HandS.TupLe
import HandS.IsInst
import HandS.FStr
import HandS.Property
import PyProof.ReprRoads
import PyProof.CallFns
import KE.GoesMore
import KE.GoesEnum
import HandS.Star
import HandS.Records
import HandS.Conv
import PyProof.ListStr
import HandS.Ends
import HandS.DictComp
import PySem.Challenge.RW_hueturns_k02_nets_made_and_told
import HandS.Text
import PyProof.StrBlockL
import PyProof.ReprReads
import PyProof.StrLawsRepr
import PyProof.Fits
set_option Elab.async false
set_option linter.all false
set_option maxRecDepth 100000
namespace Mp
open PySem L2 Evl
/-! ### data -/
inductive D where
  | non | bl (b : Bool) | int (i : Int) | str (x : Str)
  | tup (l : List D) | lst (l : List D) | scr (l : List Int)
  | dT (l : List (List Key × D)) | dK (l : List (Key × D))
  | ins (C : Addr) (l : List (Str × D))
mutual
inductive Rp (K : PySem.W.Frag) (H : Hp) : V → D → Prop
  | non : Rp K H .non .non
  | bl (b : Bool) : Rp K H (.bl b) (.bl b)
  | int (i : Int) : Rp K H (.int i) (.int i)
  | str (x : Str) : Rp K H (.str x) (.str x)
  | lst {a : Addr} {xs : List V} {ds : List D} : H a = some (.lst xs) → RpAll K H xs ds → Rp K H (.ref a) (.lst ds)
  | tup {a : Addr} {xs : List V} {ds : List D} : H a = some (.tup xs) → RpAll K H xs ds → Rp K H (.ref a) (.tup ds)
  | scr {a : Addr} {ns : List Int} : SqL K H a (ns.map V.int) → Rp K H (.ref a) (.scr ns)
  | dT {a : Addr} {kvs : List (List Key × V)} {l : List (List Key × D)} : H a = some (.dT kvs) → kvs.map (·.1) = l.map (·.1) → RpAll K H (kvs.map (·.2)) (l.map (·.2)) → Rp K H (.ref a) (.dT l)
  | dK {a : Addr} {kvs : List (Key × V)} {l : List (Key × D)} : H a = some (.dK kvs) → kvs.map (·.1) = l.map (·.1) → RpAll K H (kvs.map (·.2)) (l.map (·.2)) → Rp K H (.ref a) (.dK l)
  | ins {a C dx : Addr} {fs : List (Str × V)} {l : List (Str × D)} : H a = some (.ins C dx fs) → fs.map (·.1) = l.map (·.1) → RpAll K H (fs.map (·.2)) (l.map (·.2)) → Rp K H (.ref a) (.ins C l)
inductive RpAll (K : PySem.W.Frag) (H : Hp) : List V → List D → Prop
  | nil : RpAll K H [] []
  | cons {v : V} {vs : List V} {d : D} {ds : List D} : Rp K H v d → RpAll K H vs ds → RpAll K H (v :: vs) (d :: ds)
end
theorem ex_l' {K : PySem.W.Frag} {H H' : Hp} {a : Addr} {xs : List V} (e : Ex H H') (h : SqL K H a xs) : SqL K H' a xs := ex_l e h
mutual
theorem Rp.mono {K : PySem.W.Frag} {H H' : Hp} (e : Ex H H') : ∀ {v : V} {d : D}, Rp K H v d → Rp K H' v d
  | _, _, .non => .non
  | _, _, .bl b => .bl b
  | _, _, .int i => .int i
  | _, _, .str x => .str x
  | _, _, .lst h r => .lst (e _ _ h) (RpAll.mono e r)
  | _, _, .tup h r => .tup (e _ _ h) (RpAll.mono e r)
  | _, _, .scr h => .scr (ex_l e h)
  | _, _, .dT h k r => .dT (e _ _ h) k (RpAll.mono e r)
  | _, _, .dK h k r => .dK (e _ _ h) k (RpAll.mono e r)
  | _, _, .ins h k r => .ins (e _ _ h) k (RpAll.mono e r)
theorem RpAll.mono {K : PySem.W.Frag} {H H' : Hp} (e : Ex H H') : ∀ {vs : List V} {ds : List D}, RpAll K H vs ds → RpAll K H' vs ds
  | _, _, .nil => .nil
  | _, _, .cons a b => .cons (Rp.mono e a) (RpAll.mono e b)
end
theorem RpAll.length {K : PySem.W.Frag} {H : Hp} : ∀ {vs : List V} {ds : List D}, RpAll K H vs ds → vs.length = ds.length
  | _, _, .nil => rfl
  | _, _, .cons _ b => congrArg (· + 1) b.length
theorem RpAll.get {K : PySem.W.Frag} {H : Hp} : ∀ {vs : List V} {ds : List D} {i : Nat} {d : D}, RpAll K H vs ds → ds[i]? = some d → ∃ v, vs[i]? = some v ∧ Rp K H v d
  | _, _, _, _, .nil, e => by simp at e
  | _, _, 0, _, .cons a _, e => by simp at e; subst e; exact ⟨_, rfl, a⟩
  | _, _, i + 1, _, .cons _ b, e => by
    obtain ⟨v, h1, h2⟩ := RpAll.get (i := i) b (by simpa using e)
    exact ⟨v, by simpa using h1, h2⟩
theorem RpAll.getV {K : PySem.W.Frag} {H : Hp} : ∀ {vs : List V} {ds : List D} {i : Nat} {v : V}, RpAll K H vs ds → vs[i]? = some v → ∃ d, ds[i]? = some d ∧ Rp K H v d
  | _, _, _, _, .nil, e => by simp at e
  | _, _, 0, _, .cons a _, e => by simp at e; subst e; exact ⟨_, rfl, a⟩
  | _, _, i + 1, _, .cons _ b, e => by
    obtain ⟨v, h1, h2⟩ := RpAll.getV (i := i) b (by simpa using e)
    exact ⟨v, by simpa using h1, h2⟩
theorem RpAll.append {K : PySem.W.Frag} {H : Hp} : ∀ {vs : List V} {ds : List D} {us : List V} {es : List D}, RpAll K H vs ds → RpAll K H us es → RpAll K H (vs ++ us) (ds ++ es)
  | _, _, _, _, .nil, r => r
  | _, _, _, _, .cons a b, r => .cons a (b.append r)
theorem RpAll.set {K : PySem.W.Frag} {H : Hp} {v : V} {d : D} (r : Rp K H v d) : ∀ {vs : List V} {ds : List D} (i : Nat), RpAll K H vs ds → RpAll K H (vs.set i v) (ds.set i d)
  | _, _, _, .nil => .nil
  | _, _, 0, .cons _ b => .cons r b
  | _, _, i + 1, .cons a b => .cons a (RpAll.set r i b)
theorem RpAll.take {K : PySem.W.Frag} {H : Hp} : ∀ {vs : List V} {ds : List D} (n : Nat), RpAll K H vs ds → RpAll K H (vs.take n) (ds.take n)
  | _, _, 0, _ => .nil
  | _, _, n + 1, .nil => .nil
  | _, _, n + 1, .cons a b => .cons a (b.take n)
theorem RpAll.drop {K : PySem.W.Frag} {H : Hp} : ∀ {vs : List V} {ds : List D} (n : Nat), RpAll K H vs ds → RpAll K H (vs.drop n) (ds.drop n)
  | _, _, 0, r => r
  | _, _, n + 1, .nil => .nil
  | _, _, n + 1, .cons a b => b.drop n
/-! ### what a def's frame holds -/
inductive Own where
  | lst (l : List D) | dT (l : List (List Key × D)) | dK (l : List (Key × D)) | ins (C : Addr) (l : List (Str × D))
def Own.data : Own → D
  | .lst l => .lst l
  | .dT l => .dT l
  | .dK l => .dK l
  | .ins C l => .ins C l
inductive Cell where
  | un | val (d : D) | own (o : Own)
abbrev Rho := List Cell
def OwnAt (K : PySem.W.Frag) (Hs H : Hp) (a : Addr) : Own → Prop
  | .lst l => ∃ vs, H a = some (.lst vs) ∧ RpAll K Hs vs l
  | .dT l => ∃ kvs : List (List Key × V), H a = some (.dT kvs) ∧ kvs.map (·.1) = l.map (·.1) ∧ RpAll K Hs (kvs.map (·.2)) (l.map (·.2))
  | .dK l => ∃ kvs : List (Key × V), H a = some (.dK kvs) ∧ kvs.map (·.1) = l.map (·.1) ∧ RpAll K Hs (kvs.map (·.2)) (l.map (·.2))
  | .ins C l => ∃ (dx : Addr) (fs : List (Str × V)), H a = some (.ins C dx fs) ∧ fs.map (·.1) = l.map (·.1) ∧ RpAll K Hs (fs.map (·.2)) (l.map (·.2))
theorem OwnAt.here {K : PySem.W.Frag} {Hs H : Hp} {a : Addr} {o : Own} (h : OwnAt K Hs H a o) : ∃ u, H a = some u := by
  cases o <;> simp only [OwnAt] at h
  · obtain ⟨_, h, _⟩ := h; exact ⟨_, h⟩
  · obtain ⟨_, h, _⟩ := h; exact ⟨_, h⟩
  · obtain ⟨_, h, _⟩ := h; exact ⟨_, h⟩
  · obtain ⟨_, _, h, _⟩ := h; exact ⟨_, h⟩
theorem OwnAt.mono {K : PySem.W.Frag} {Hs H Hs' H' : Hp} {a : Addr} {o : Own} (e : Ex Hs Hs') (k : H' a = H a) (h : OwnAt K Hs H a o) : OwnAt K Hs' H' a o := by
  cases o <;> simp only [OwnAt] at h ⊢
  · obtain ⟨_, h, r⟩ := h; exact ⟨_, k ▸ h, r.mono e⟩
  · obtain ⟨_, h, q, r⟩ := h; exact ⟨_, k ▸ h, q, r.mono e⟩
  · obtain ⟨_, h, q, r⟩ := h; exact ⟨_, k ▸ h, q, r.mono e⟩
  · obtain ⟨_, _, h, q, r⟩ := h; exact ⟨_, _, k ▸ h, q, r.mono e⟩
/-- what stands at a in the full heap, read as data there -/
theorem OwnAt.rp {K : PySem.W.Frag} {Hs H : Hp} {a : Addr} {o : Own} (e : Ex Hs H) (h : OwnAt K Hs H a o) : Rp K H (.ref a) o.data := by
  cases o <;> simp only [OwnAt] at h
  · obtain ⟨_, h, r⟩ := h; exact .lst h (r.mono e)
  · obtain ⟨_, h, q, r⟩ := h; exact .dT h q (r.mono e)
  · obtain ⟨_, h, q, r⟩ := h; exact .dK h q (r.mono e)
  · obtain ⟨_, _, h, q, r⟩ := h; exact .ins h q (r.mono e)
structure EnvOk (K : PySem.W.Frag) (Bs B Hs H : Hp) (s : St) (r : Rho) : Prop where
  sub : Ex Hs H
  ext1 : Ex Bs Hs
  ext2 : ∀ b o, B b = some o → Bs b = none → Hs b = none ∧ H b = some o
  ext3 : Ex Bs B
  len : s.length = r.length
  val : ∀ (i : Nat) d, r[i]? = some (.val d) → ∃ v, s[i]? = some (some v) ∧ Rp K Hs v d
  own : ∀ (i : Nat) o, r[i]? = some (.own o) → ∃ a, s[i]? = some (some (.ref a)) ∧ Hs a = none ∧ B a = none ∧ OwnAt K Hs H a o
  dis : ∀ (i j : Nat) a oi oj, i ≠ j → r[i]? = some (.own oi) → r[j]? = some (.own oj) → s[i]? = some (some (.ref a)) → s[j]? ≠ some (some (.ref a))
/-- from one pair of heaps to the next: what is shared stays, what is not shared (and not at x) stays and isn't shared -/
structure Step (Hs H Hs' H' : Hp) : Prop where
  sh : Ex Hs Hs'
  sub : Ex Hs' H'
  fr : ∀ b o, H b = some o → Hs b = none → Hs' b = none ∧ H' b = some o
theorem Step.refl {Hs H : Hp} (e : Ex Hs H) : Step Hs H Hs H := ⟨Ex.refl _, e, fun _ _ h n => ⟨n, h⟩⟩
theorem Step.trans {Hs H Hs1 H1 Hs2 H2 : Hp} (a : Step Hs H Hs1 H1) (b : Step Hs1 H1 Hs2 H2) : Step Hs H Hs2 H2 :=
  ⟨a.sh.trans b.sh, b.sub, fun x o h n => by obtain ⟨n1, h1⟩ := a.fr x o h n; exact b.fr x o h1 n1⟩
theorem Step.ex {Hs H Hs' H' : Hp} (e : Ex Hs H) (a : Step Hs H Hs' H') : Ex H H' := fun b o h => by
  cases q : Hs b with
  | none => exact (a.fr b o h q).2
  | some u =>
    have := e b u q
    rw [h] at this; cases this
    exact a.sub b o (a.sh b o q)
/-- a new shared object -/
theorem Step.new {Hs H : Hp} {p : Addr} {o : HO} (e : Ex Hs H) (hp : H p = none) : Step Hs H (upd Hs p o) (upd H p o) := by
  have hs : Hs p = none := fresh_back e hp
  refine ⟨Ex.new hs, fun b u h => ?_, fun b u h n => ?_⟩
  · by_cases hb : b = p
    · subst hb; rw [upd_same] at h ⊢; exact h
    · rw [upd_ne hb] at h ⊢; exact e b u h
  · have hb : b ≠ p := ne_of_none h hp
    rw [upd_ne hb, upd_ne hb]; exact ⟨n, h⟩
/-- a new object that is not shared -/
theorem Step.newO {Hs H : Hp} {p : Addr} {o : HO} (e : Ex Hs H) (hp : H p = none) : Step Hs H Hs (upd H p o) := by
  have hs : Hs p = none := fresh_back e hp
  refine ⟨Ex.refl _, Ex.mut e hs, fun b u h n => ?_⟩
  rw [upd_ne (ne_of_none h hp)]; exact ⟨n, h⟩
/-- an object that is not shared becomes shared -/
theorem EnvOk.step {K : PySem.W.Frag} {Bs B Hs H Hs' H' : Hp} {s : St} {r : Rho} (E : EnvOk K Bs B Hs H s r) (a : Step Hs H Hs' H') : EnvOk K Bs B Hs' H' s r := by
  refine ⟨a.sub, E.ext1.trans a.sh, fun b o h n => ?_, E.ext3, E.len, fun i d h => ?_, fun i o h => ?_, E.dis⟩
  · obtain ⟨n1, h1⟩ := E.ext2 b o h n
    exact a.fr b o h1 n1
  · obtain ⟨v, h1, h2⟩ := E.val i d h
    exact ⟨v, h1, h2.mono a.sh⟩
  · obtain ⟨x, h1, h2, h3, h4⟩ := E.own i o h
    obtain ⟨u, hu⟩ := h4.here
    obtain ⟨n1, k1⟩ := a.fr x u hu h2
    exact ⟨x, h1, n1, h3, h4.mono a.sh (by rw [k1, hu])⟩
/-! ### what an expression comes to -/
inductive Rv where
  | val (d : D) | new (o : Own)
def Rv.data : Rv → D
  | .val d => d
  | .new o => o.data
/-- an exception: its class, its one attribute -/
structure Exn where
  cls : Addr
  fld : Option (Str × D)
inductive EO (A : Type) where
  | stuck | ok (a : A) (r : Rho) | exc (x : Exn) (r : Rho)
abbrev Ev (A : Type) := Rho → EO A
def EO.bind {A B : Type} (m : EO A) (f : A → Rho → EO B) : EO B := match m with
  | .stuck => .stuck
  | .ok a r => f a r
  | .exc x r => .exc x r
def RvAt (K : PySem.W.Frag) (B Hs H : Hp) (s : St) (r : Rho) (v : V) : Rv → Prop
  | .val d => Rp K Hs v d
  | .new o => ∃ a, v = .ref a ∧ Hs a = none ∧ B a = none ∧ OwnAt K Hs H a o ∧ ∀ (i : Nat) oi, r[i]? = some (.own oi) → s[i]? ≠ some (some (.ref a))
def ExAt (K : PySem.W.Frag) (Hs H : Hp) (cls : Value) (d : Option Addr) (x : Exn) : Prop :=
  cls = .ref x.cls ∧ match x.fld with
    | none => True
    | some (f, y) => ∃ a v, d = some a ∧ H a = some (.xd [(f, v)]) ∧ Rp K Hs v y
/-- what is asked of what follows -/
def PostE {A Y : Type} (K : PySem.W.Frag) (W : WX) (Bs B Hs : Hp) (s : St) (Rel : Hp → Hp → Rho → Y → A → Prop) (Q : Y → Hp → Prop) : EO A → Prop
  | .stuck => False
  | .ok a r => ∀ y Hs' H', Ex Hs Hs' → EnvOk K Bs B Hs' H' s r → Rel Hs' H' r y a → Q y H'
  | .exc x r => ∀ cls d Hs' H', Ex Hs Hs' → EnvOk K Bs B Hs' H' s r → ExAt K Hs' H' cls d x → W cls d s H'
def relR (K : PySem.W.Frag) (B : Hp) (s : St) : Hp → Hp → Rho → V → Rv → Prop := fun Hs H r v x => RvAt K B Hs H s r v x
def relB : Hp → Hp → Rho → Bool → Bool → Prop := fun _ _ _ b c => b = c
/-- every reading of e at once -/
def aE (X : Cx) (e : Expr) : TE := fun s H Q => ∃ t, PE X e t ∧ t s H Q
def aT (X : Cx) (e : Expr) : TT := fun s H Q => ∃ t, PT X e t ∧ t s H Q
def aA (X : Cx) (es : List Expr) : TA := fun s H Q => ∃ t, PA X es t ∧ t s H Q
def aS (X : Cx) (st : Stmt) : TS := fun D s H => ∃ t, PS X st t ∧ t D s H
def aSs (X : Cx) (st : List Stmt) : TS := fun D s H => ∃ t, PSs X st t ∧ t D s H
theorem pe_all {X : Cx} {e : Expr} : PE X e (aE X e) := ⟨fun pins s σ H Q I ⟨t, h, q⟩ => h.run pins s σ H Q I q⟩
theorem pt_all {X : Cx} {e : Expr} : PT X e (aT X e) := ⟨fun pins s σ H Q I ⟨t, h, q⟩ => h.run pins s σ H Q I q⟩
theorem pa_all {X : Cx} {e : List Expr} : PA X e (aA X e) := ⟨fun pos pins s σ H Q I ⟨t, h, q⟩ => h.run pos pins s σ H Q I q⟩
theorem ps_all {X : Cx} {e : Stmt} : PS X e (aS X e) := ⟨fun pins s σ H D I ⟨t, h, q⟩ => h.run pins s σ H D I q⟩
theorem pss_all {X : Cx} {e : List Stmt} : PSs X e (aSs X e) := ⟨fun pins s σ H D I ⟨t, h, q⟩ => h.run pins s σ H D I q⟩
/-- ev tells what e comes to -/
def SndE (X : Cx) (W : WX) (e : Expr) (ev : Ev Rv) : Prop := ∀ (Bs B Hs H : Hp) (s : St) (r : Rho) (Q : VK), EnvOk X.K Bs B Hs H s r →
  PostE X.K W Bs B Hs s (relR X.K B s) Q (ev r) → aE X e s H Q
def SndT (X : Cx) (W : WX) (e : Expr) (ev : Ev Bool) : Prop := ∀ (Bs B Hs H : Hp) (s : St) (r : Rho) (Q : Bool → Hp → Prop), EnvOk X.K Bs B Hs H s r →
  PostE X.K W Bs B Hs s relB Q (ev r) → aT X e s H Q
/-! ### operands: a name that is owned is read where it is used -/
inductive Src where
  | dat (d : D) | slot (i : Nat)
def SrcAt (K : PySem.W.Frag) (Hs : Hp) (s : St) (v : V) : Src → Prop
  | .dat d => Rp K Hs v d
  | .slot i => s[i]? = some (some v)
def relS (K : PySem.W.Frag) (s : St) : Hp → Hp → Rho → V → Src → Prop := fun Hs _ _ v x => SrcAt K Hs s v x
def SndO (X : Cx) (W : WX) (e : Expr) (ev : Ev Src) : Prop := ∀ (Bs B Hs H : Hp) (s : St) (r : Rho) (Q : VK), EnvOk X.K Bs B Hs H s r →
  PostE X.K W Bs B Hs s (relS X.K s) Q (ev r) → aE X e s H Q
/-- what an operand is, at the moment of the operation -/
def Src.rd (r : Rho) : Src → Option D
  | .dat d => some d
  | .slot i => match r[i]? with
    | some (.own o) => some o.data
    | some (.val d) => some d
    | _ => none
/-- an operand, seen at the moment of its use -/
inductive Opd (K : PySem.W.Frag) (Hs H : Hp) : V → D → Prop
  | sh {v : V} {d : D} : Rp K Hs v d → Opd K Hs H v d
  | own {a : Addr} {o : Own} : OwnAt K Hs H a o → Opd K Hs H (.ref a) o.data
theorem Src.opd {K : PySem.W.Frag} {Bs B Hs H : Hp} {s : St} {r : Rho} {v : V} {x : Src} {d : D} (E : EnvOk K Bs B Hs H s r) (h : SrcAt K Hs s v x) (e : x.rd r = some d) : Opd K Hs H v d := by
  cases x with
  | dat y =>
    simp only [Src.rd, Option.some.injEq] at e
    subst e
    exact .sh h
  | slot i =>
    simp only [Src.rd] at e
    split at e
    · rename_i o ho
      cases e
      obtain ⟨a, h1, _, _, h4⟩ := E.own i o ho
      have h : s[i]? = some (some v) := h
      rw [h1] at h; cases h
      exact .own h4
    · rename_i y hy
      cases e
      obtain ⟨w, h1, h2⟩ := E.val i _ hy
      have h : s[i]? = some (some v) := h
      rw [h1] at h; cases h
      exact .sh h2
    · cases e
theorem Opd.rp {K : PySem.W.Frag} {Hs H : Hp} {v : V} {d : D} (e : Ex Hs H) (h : Opd K Hs H v d) : Rp K H v d := by
  cases h with
  | sh h => exact h.mono e
  | own h => exact h.rp e
theorem SrcAt.mono {K : PySem.W.Frag} {Hs Hs' : Hp} {s : St} {v : V} {x : Src} (e : Ex Hs Hs') (h : SrcAt K Hs s v x) : SrcAt K Hs' s v x := by
  cases x with
  | dat d => exact Rp.mono e h
  | slot i => exact h
end Mp
set_option Elab.async false
set_option linter.all false
set_option maxRecDepth 100000
namespace Mp
open PySem L2 Evl
section
variable {K : PySem.W.Frag} {Bs B Hs H : Hp} {s : St} {r : Rho}
theorem EnvOk.bnone (E : EnvOk K Bs B Hs H s r) {p : Addr} (hp : H p = none) : B p = none := by
  cases q : B p with
  | none => rfl
  | some u =>
    cases q2 : Bs p with
    | none => have := (E.ext2 p u q q2).2; rw [hp] at this; cases this
    | some w => have := E.sub p w (E.ext1 p w q2); rw [hp] at this; cases this
theorem EnvOk.apart (E : EnvOk K Bs B Hs H s r) {p : Addr} (hp : H p = none) (i : Nat) (oi : Own) (h : r[i]? = some (.own oi)) : s[i]? ≠ some (some (.ref p)) := fun e => by
  obtain ⟨a, h1, _, _, h4⟩ := E.own i oi h
  obtain ⟨u, hu⟩ := h4.here
  rw [h1] at e; cases e
  rw [hp] at hu; cases hu
/-- an own object is shared from now on -/
theorem EnvOk.share (E : EnvOk K Bs B Hs H s r) {a : Addr} {u : HO} (hH : H a = some u) (hs : Hs a = none) (hB : B a = none) (ap : ∀ (i : Nat) oi, r[i]? = some (.own oi) → s[i]? ≠ some (some (.ref a))) : EnvOk K Bs B (upd Hs a u) H s r := by
  have ex : Ex Hs (upd Hs a u) := Ex.new hs
  refine ⟨fun b o h => ?_, E.ext1.trans ex, fun b o h n => ?_, E.ext3, E.len, fun i d h => ?_, fun i o h => ?_, E.dis⟩
  · by_cases hb : b = a
    · subst hb; rw [upd_same] at h; rw [hH]; exact h
    · rw [upd_ne hb] at h; exact E.sub b o h
  · have hb : b ≠ a := by rintro rfl; rw [hB] at h; cases h
    rw [upd_ne hb]; exact E.ext2 b o h n
  · obtain ⟨v, h1, h2⟩ := E.val i d h
    exact ⟨v, h1, h2.mono ex⟩
  · obtain ⟨x, h1, h2, h3, h4⟩ := E.own i o h
    have hx : x ≠ a := by rintro rfl; exact ap i o h h1
    exact ⟨x, h1, by rw [upd_ne hx]; exact h2, h3, h4.mono ex rfl⟩
theorem OwnAt.shared (e : Ex Hs H) {a : Addr} {o : Own} (h : OwnAt K Hs H a o) (hs : Hs a = none) : ∃ u, H a = some u ∧ Rp K (upd Hs a u) (.ref a) o.data := by
  cases o <;> simp only [OwnAt] at h
  · obtain ⟨_, h, r⟩ := h; exact ⟨_, h, .lst upd_same (r.mono (Ex.new hs))⟩
  · obtain ⟨_, h, q, r⟩ := h; exact ⟨_, h, .dT upd_same q (r.mono (Ex.new hs))⟩
  · obtain ⟨_, h, q, r⟩ := h; exact ⟨_, h, .dK upd_same q (r.mono (Ex.new hs))⟩
  · obtain ⟨_, _, h, q, r⟩ := h; exact ⟨_, h, .ins upd_same q (r.mono (Ex.new hs))⟩
/-- what came out is used as data -/
theorem RvAt.use (E : EnvOk K Bs B Hs H s r) {v : V} {x : Rv} (h : RvAt K B Hs H s r v x) : ∃ Hs', Ex Hs Hs' ∧ EnvOk K Bs B Hs' H s r ∧ Rp K Hs' v x.data := by
  cases x with
  | val d => exact ⟨Hs, Ex.refl _, E, h⟩
  | new o =>
    obtain ⟨a, rfl, h1, h2, h3, h4⟩ := h
    obtain ⟨u, hu, hr⟩ := h3.shared E.sub h1
    exact ⟨upd Hs a u, Ex.new h1, E.share hu h1 h2 h4, hr⟩
/-- an own slot is forgotten -/
theorem EnvOk.drop (E : EnvOk K Bs B Hs H s r) (i : Nat) : EnvOk K Bs B Hs H s (r.set i .un) := by
  have keep : ∀ (j : Nat) c, c ≠ Cell.un → (r.set i .un)[j]? = some c → r[j]? = some c ∧ i ≠ j := fun j c hc h => by
    rw [List.getElem?_set] at h
    by_cases e : i = j
    · subst e
      rw [if_pos rfl] at h
      split at h
      · cases h; exact absurd rfl hc
      · cases h
    · rw [if_neg e] at h; exact ⟨h, e⟩
  refine ⟨E.sub, E.ext1, E.ext2, E.ext3, by rw [List.length_set]; exact E.len, fun j d h => E.val j d (keep j _ (by intro z; cases z) h).1, fun j o h => E.own j o (keep j _ (by intro z; cases z) h).1, fun i' j' a oi oj ne h1 h2 => ?_⟩
  exact E.dis i' j' a oi oj ne (keep i' _ (by intro z; cases z) h1).1 (keep j' _ (by intro z; cases z) h2).1
/-- a slot that holds v holds the data d -/
theorem EnvOk.asVal (E : EnvOk K Bs B Hs H s r) {i : Nat} {v : V} {d : D} (hs : s[i]? = some (some v)) (hv : Rp K Hs v d) : EnvOk K Bs B Hs H s (r.set i (.val d)) := by
  have E1 := E.drop i
  have get : ∀ (j : Nat), i ≠ j → (r.set i (.val d))[j]? = (r.set i .un)[j]? := fun j e => by
    rw [List.getElem?_set, List.getElem?_set, if_neg e, if_neg e]
  have at_i : ∀ c, (r.set i (.val d))[i]? = some c → c = .val d := fun c h => by
    rw [List.getElem?_set, if_pos rfl] at h
    split at h
    · cases h; rfl
    · cases h
  have nown : ∀ (j : Nat) o, (r.set i (.val d))[j]? = some (.own o) → (r.set i .un)[j]? = some (.own o) := fun j o h => by
    by_cases e : i = j
    · subst e; cases at_i _ h
    · rw [← get j e]; exact h
  refine ⟨E.sub, E.ext1, E.ext2, E.ext3, by rw [List.length_set]; exact E.len, fun j d' h => ?_, fun j o h => E1.own j o (nown j o h), fun i' j' a oi oj ne h1 h2 => E1.dis i' j' a oi oj ne (nown i' _ h1) (nown j' _ h2)⟩
  by_cases e : i = j
  · subst e; cases at_i _ h; exact ⟨v, hs, hv⟩
  · rw [get j e] at h; exact E1.val j d' h
/-- an own slot becomes data -/
theorem EnvOk.freeze (E : EnvOk K Bs B Hs H s r) {i : Nat} {o : Own} (h : r[i]? = some (.own o)) : ∃ v Hs', s[i]? = some (some v) ∧ Ex Hs Hs' ∧ EnvOk K Bs B Hs' H s (r.set i (.val o.data)) ∧ Rp K Hs' v o.data := by
  obtain ⟨a, h1, h2, h3, h4⟩ := E.own i o h
  obtain ⟨u, hu, hr⟩ := h4.shared E.sub h2
  have E1 : EnvOk K Bs B (upd Hs a u) H s (r.set i .un) := (E.drop i).share hu h2 h3 fun j oj hj => by
    have hj' : r[j]? = some (.own oj) ∧ i ≠ j := by
      rw [List.getElem?_set] at hj
      by_cases e : i = j
      · subst e
        rw [if_pos rfl] at hj
        split at hj <;> cases hj
      · rw [if_neg e] at hj; exact ⟨hj, e⟩
    exact E.dis i j a o oj hj'.2 h hj'.1 h1
  refine ⟨.ref a, upd Hs a u, h1, Ex.new h2, ?_, hr⟩
  have E2 := E1.asVal h1 hr
  rwa [List.set_set] at E2
end
/-! ### operations on values -/
/-- what is asked of what follows an operation -/
def PrimQ (K : PySem.W.Frag) (Bs B Hs H : Hp) (s : St) (r : Rho) (Q : VK) (x : Rv) : Prop := ∀ v Hs' H', Step Hs H Hs' H' → RvAt K B Hs' H' s r v x → Q v H'
section
variable {K : PySem.W.Frag} {Bs B Hs H : Hp} {s : St} {r : Rho} {Q : VK}
theorem PrimQ.val (E : EnvOk K Bs B Hs H s r) {v : V} {d : D} (h : PrimQ K Bs B Hs H s r Q (.val d)) (hv : Rp K Hs v d) : Q v H := h v Hs H (Step.refl E.sub) hv
/-- a new tuple -/
theorem PrimQ.tup (E : EnvOk K Bs B Hs H s r) {vs : List V} {ds : List D} (h : PrimQ K Bs B Hs H s r Q (.val (.tup ds))) (hv : RpAll K Hs vs ds) {p : Addr} (hp : H p = none) : Q (.ref p) (upd H p (.tup vs)) :=
  h _ _ _ (Step.new E.sub hp) (show Rp K _ _ _ from .tup upd_same (hv.mono (Ex.new (fresh_back E.sub hp))))
/-- a new list -/
theorem PrimQ.lst (E : EnvOk K Bs B Hs H s r) {vs : List V} {ds : List D} (h : PrimQ K Bs B Hs H s r Q (.new (.lst ds))) (hv : RpAll K Hs vs ds) {p : Addr} (hp : H p = none) : Q (.ref p) (upd H p (.lst vs)) :=
  h _ _ _ (Step.newO E.sub hp) ⟨p, rfl, fresh_back E.sub hp, E.bnone hp, ⟨vs, upd_same, hv⟩, E.apart hp⟩
theorem PrimQ.newO (E : EnvOk K Bs B Hs H s r) {o : Own} {u : HO} (h : PrimQ K Bs B Hs H s r Q (.new o)) {p : Addr} (hp : H p = none) (hv : OwnAt K Hs (upd H p u) p o) : Q (.ref p) (upd H p u) :=
  h _ _ _ (Step.newO E.sub hp) ⟨p, rfl, fresh_back E.sub hp, E.bnone hp, hv, E.apart hp⟩
/-- a list that is seen -/
theorem Opd.lst (e : Ex Hs H) {v : V} {ds : List D} (h : Opd K Hs H v (.lst ds)) : ∃ a vs, v = .ref a ∧ H a = some (.lst vs) ∧ RpAll K Hs vs ds := by
  generalize hd : D.lst ds = d at h
  cases h with
  | sh h =>
    subst hd
    cases h with
    | lst h r => exact ⟨_, _, rfl, e _ _ h, r⟩
  | own h =>
    rename_i a o
    cases o <;> simp only [Own.data] at hd <;> cases hd
    obtain ⟨vs, h1, h2⟩ := h
    exact ⟨_, vs, rfl, h1, h2⟩
theorem Opd.tup (e : Ex Hs H) {v : V} {ds : List D} (h : Opd K Hs H v (.tup ds)) : ∃ a vs, v = .ref a ∧ H a = some (.tup vs) ∧ RpAll K Hs vs ds ∧ Rp K Hs v (.tup ds) := by
  generalize hd : D.tup ds = d at h
  cases h with
  | sh h =>
    subst hd
    cases h with
    | tup h r => exact ⟨_, _, rfl, e _ _ h, r, .tup h r⟩
  | own h =>
    rename_i a o
    cases o <;> simp only [Own.data] at hd <;> cases hd
theorem Opd.val {v : V} {d : D} (h : Opd K Hs H v d) (n : ∀ o : Own, o.data ≠ d) : Rp K Hs v d := by
  cases h with
  | sh h => exact h
  | own h => exact absurd rfl (n _)
theorem Opd.int {v : V} {i : Int} (h : Opd K Hs H v (.int i)) : v = .int i := by
  have := h.val (fun o => by cases o <;> intro z <;> cases z)
  cases this; rfl
theorem Opd.str {v : V} {i : Str} (h : Opd K Hs H v (.str i)) : v = .str i := by
  have := h.val (fun o => by cases o <;> intro z <;> cases z)
  cases this; rfl
theorem Opd.bl {v : V} {i : Bool} (h : Opd K Hs H v (.bl i)) : v = .bl i := by
  have := h.val (fun o => by cases o <;> intro z <;> cases z)
  cases this; rfl
theorem Opd.non {v : V} (h : Opd K Hs H v .non) : v = .non := by
  have := h.val (fun o => by cases o <;> intro z <;> cases z)
  cases this; rfl
end
/-- g, on values that are d and e, comes to f d e -/
def OpOk (X : Cx) (g : Value → Value → Sem Value) (f : D → D → Option Rv) : Prop := ∀ (Bs B Hs H : Hp) (s : St) (r : Rho) (v u : V) (d e : D) (x : Rv) (Q : VK), EnvOk X.K Bs B Hs H s r → Opd X.K Hs H v d → Opd X.K Hs H u e →
  f d e = some x → PrimQ X.K Bs B Hs H s r Q x → ∃ rr, OpR X g rr ∧ rr v u H Q
/-- room for what the machine calls within -/
structure Rm (X : Cx) : Prop where
  un : X.A.units + 200 < cLine
  calm : X.calm = true
/-- data without instances and dicts -/
def toPy : D → Option PyData
  | .non => some .none
  | .bl b => some (.bool b)
  | .int i => some (.int i)
  | .str x => some (.str x)
  | .tup l => (toPyAll l).map .tuple
  | .lst l => (toPyAll l).map .list
  | _ => none
where toPyAll : List D → Option (List PyData)
  | [] => some []
  | d :: l => match toPy d, toPyAll l with
    | some p, some q => some (p :: q)
    | _, _ => none
mutual
theorem Rp.dp {K : PySem.W.Frag} {H : Hp} : ∀ {v : V} {d : D} {p : PyData}, Rp K H v d → toPy d = some p → Dp K H v p
  | _, _, _, .non, e => by simp only [toPy, Option.some.injEq] at e; subst e; exact .non
  | _, _, _, .bl b, e => by simp only [toPy, Option.some.injEq] at e; subst e; exact .bl b
  | _, _, _, .int i, e => by simp only [toPy, Option.some.injEq] at e; subst e; exact .int i
  | _, _, _, .str x, e => by simp only [toPy, Option.some.injEq] at e; subst e; exact .str x
  | _, _, _, .lst h r, e => by
    simp only [toPy, Option.map_eq_some_iff] at e
    obtain ⟨ps, h1, rfl⟩ := e
    exact .lst (sq_of h) (RpAll.dp r h1)
  | _, _, _, .tup h r, e => by
    simp only [toPy, Option.map_eq_some_iff] at e
    obtain ⟨ps, h1, rfl⟩ := e
    exact .tup (st_of h) (RpAll.dp r h1)
  | _, _, _, .scr _, e => by simp [toPy] at e
  | _, _, _, .dT _ _ _, e => by simp [toPy] at e
  | _, _, _, .dK _ _ _, e => by simp [toPy] at e
  | _, _, _, .ins _ _ _, e => by simp [toPy] at e
theorem RpAll.dp {K : PySem.W.Frag} {H : Hp} : ∀ {vs : List V} {ds : List D} {ps : List PyData}, RpAll K H vs ds → toPy.toPyAll ds = some ps → DpAll K H vs ps
  | _, _, _, .nil, e => by simp only [toPy.toPyAll, Option.some.injEq] at e; subst e; exact .nil
  | _, _, _, .cons (d := d) (ds := ds) a b, e => by
    simp only [toPy.toPyAll] at e
    cases h1 : toPy d with
    | none => rw [h1] at e; simp at e
    | some p =>
      cases h2 : toPy.toPyAll ds with
      | none => rw [h1, h2] at e; simp at e
      | some q =>
        rw [h1, h2] at e; simp only [Option.some.injEq] at e; subst e
        exact .cons (Rp.dp a h1) (RpAll.dp b h2)
end
def vB (b : Bool) : Option Rv := some (.val (.bl b))
def vI (i : Int) : Option Rv := some (.val (.int i))
def vS (x : Str) : Option Rv := some (.val (.str x))
section
variable {X : Cx}
def dAdd : D → D → Option Rv
  | .int i, .int j => vI (i + j)
  | .str x, .str y => if x.length + y.length ≤ sizeLine then vS (x ++ y) else none
  | .lst a, .lst b => if a.length + b.length ≤ sizeLine then some (.new (.lst (a ++ b))) else none
  | .tup a, .tup b => if a.length + b.length ≤ sizeLine then some (.val (.tup (a ++ b))) else none
  | _, _ => none
theorem ok_add : OpOk X (binaryOp .Add) dAdd := by
  intro Bs B Hs H s r v u d e x Q E hv hu hf q
  unfold dAdd at hf
  split at hf
  · cases hf; rw [hv.int, hu.int]
    exact ⟨_, op_add, _, _, rfl, rfl, q.val E (.int _)⟩
  · split at hf <;> cases hf
    rw [hv.str, hu.str]
    exact ⟨_, op_add_str, _, _, rfl, rfl, by assumption, q.val E (.str _)⟩
  · split at hf <;> cases hf
    rename_i hz
    obtain ⟨a, vs, rfl, h1, r1⟩ := hv.lst E.sub
    obtain ⟨b, us, rfl, h2, r2⟩ := hu.lst E.sub
    exact ⟨_, op_cat, _, _, _, _, rfl, rfl, h1, h2, by rw [r1.length, r2.length]; exact hz, fun p hp => q.lst E (r1.append r2) hp⟩
  · split at hf <;> cases hf
    rename_i hz
    obtain ⟨a, vs, rfl, h1, r1, w1⟩ := hv.tup E.sub
    obtain ⟨b, us, rfl, h2, r2, w2⟩ := hu.tup E.sub
    refine ⟨_, op_catA, _, _, _, _, rfl, rfl, st_of h1, st_of h2, by rw [r1.length, r2.length]; exact hz, fun e => ?_, fun _ e => ?_, fun _ _ p hp => q.tup E (r1.append r2) hp⟩
    · subst e; cases r1; exact q.val E w2
    · subst e; cases r2; rw [List.append_nil] at q; exact q.val E w1
  · cases hf
def dSub : D → D → Option Rv
  | .int i, .int j => vI (i - j)
  | _, _ => none
theorem ok_sub : OpOk X (binaryOp .Sub) dSub := by
  intro Bs B Hs H s r v u d e x Q E hv hu hf q
  unfold dSub at hf
  split at hf <;> cases hf
  rw [hv.int, hu.int]
  exact ⟨_, op_sub, _, _, rfl, rfl, q.val E (.int _)⟩
def okMul (i j : Int) : Bool := decide (i.natAbs < 18446744073709551616) || decide (j.natAbs < 18446744073709551616)
def dMul : D → D → Option Rv
  | .int i, .int j => if okMul i j then vI (i * j) else none
  | .lst a, .int k => if k.natAbs ≤ 100000 ∧ a.length * k.toNat ≤ sizeLine then some (.new (.lst (List.replicate k.toNat a).flatten)) else none
  | _, _ => none
theorem RpAll.rep {K : PySem.W.Frag} {H : Hp} {vs : List V} {ds : List D} (h : RpAll K H vs ds) : ∀ n : Nat, RpAll K H (List.replicate n vs).flatten (List.replicate n ds).flatten
  | 0 => .nil
  | n + 1 => by rw [List.replicate_succ, List.replicate_succ, List.flatten_cons, List.flatten_cons]; exact h.append (h.rep n)
theorem ok_mul : OpOk X (binaryOp .Mult) dMul := by
  intro Bs B Hs H s r v u d e x Q E hv hu hf q
  unfold dMul at hf
  split at hf
  · split at hf <;> cases hf
    rename_i i j hz
    rw [hv.int, hu.int]
    refine ⟨_, op_mul, _, _, rfl, rfl, ?_, q.val E (.int _)⟩
    simp only [okMul, Bool.or_eq_true, decide_eq_true_eq] at hz
    unfold CMul
    rcases hz with hz | hz
    · left; omega
    · right; omega
  · split at hf <;> cases hf
    rename_i a k hz
    obtain ⟨p, vs, rfl, h1, r1⟩ := hv.lst E.sub
    rw [hu.int]
    exact ⟨_, op_rep, _, _, _, rfl, rfl, h1, by omega, by omega, by rw [r1.length]; exact hz.2, fun p hp => q.lst E (r1.rep _) hp⟩
  · cases hf
def dDiv : D → D → Option Rv
  | .int i, .int j => if 0 < j ∧ j < 1073741824 then vI (i / j) else none
  | _, _ => none
theorem ok_div : OpOk X (binaryOp .FloorDiv) dDiv := by
  intro Bs B Hs H s r v u d e x Q E hv hu hf q
  unfold dDiv at hf
  split at hf
  · split at hf <;> cases hf
    rename_i hz
    rw [hv.int, hu.int]
    exact ⟨_, op_fdiv, _, _, rfl, rfl, hz, q.val E (.int _)⟩
  · cases hf
def dMod : D → D → Option Rv
  | .int i, .int j => if 0 < j then vI (i % j) else none
  | _, _ => none
theorem ok_mod : OpOk X (binaryOp .Mod) dMod := by
  intro Bs B Hs H s r v u d e x Q E hv hu hf q
  unfold dMod at hf
  split at hf
  · split at hf <;> cases hf
    rename_i hz
    rw [hv.int, hu.int]
    exact ⟨_, op_mod, _, _, rfl, rfl, hz, q.val E (.int _)⟩
  · cases hf
def dPow : D → D → Option Rv
  | .int i, .int j => if 0 ≤ j ∧ j ≤ 1000 ∧ i.natAbs < 18446744073709551616 then vI (i ^ j.toNat) else none
  | _, _ => none
theorem ok_pow : OpOk X (binaryOp .Pow) dPow := by
  intro Bs B Hs H s r v u d e x Q E hv hu hf q
  unfold dPow at hf
  split at hf
  · split at hf <;> cases hf
    rename_i hz
    rw [hv.int, hu.int]
    exact ⟨_, op_pow, _, _, rfl, rfl, ⟨hz.1, by omega, hz.2.2⟩, q.val E (.int _)⟩
  · cases hf
/-! comparisons -/
def dEqB (d e : D) : Option Bool := match toPy d, toPy e with
  | some p, some q => if SeqAt.shaped p && SeqAt.shaped q then some (PyData.eqv p q) else none
  | _, _ => none
def dEq (d e : D) : Option Rv := (dEqB d e).map fun b => .val (.bl b)
def dNe (d e : D) : Option Rv := (dEqB d e).map fun b => .val (.bl (!b))
theorem eqB_some {d e : D} {b : Bool} (h : dEqB d e = some b) : ∃ p q, toPy d = some p ∧ toPy e = some q ∧ SeqAt.shaped p = true ∧ SeqAt.shaped q = true ∧ b = PyData.eqv p q := by
  unfold dEqB at h
  split at h
  · rename_i p q h1 h2
    split at h <;> cases h
    rename_i hz
    rw [Bool.and_eq_true] at hz
    exact ⟨p, q, h1, h2, hz.1, hz.2, rfl⟩
  · cases h
theorem ok_eq (R : Rm X) : OpOk X (compareOp .Eq) dEq := by
  intro Bs B Hs H s r v u d e x Q E hv hu hf q
  simp only [dEq, Option.map_eq_some_iff] at hf
  obtain ⟨b, hb, rfl⟩ := hf
  obtain ⟨p, q', h1, h2, h3, h4, rfl⟩ := eqB_some hb
  have hr := R.un
  exact ⟨_, op_eqD (by omega), p, q', (hv.rp E.sub).dp h1, (hu.rp E.sub).dp h2, h3, h4, q.val E (.bl _)⟩
theorem ok_ne (R : Rm X) : OpOk X (compareOp .NotEq) dNe := by
  intro Bs B Hs H s r v u d e x Q E hv hu hf q
  simp only [dNe, Option.map_eq_some_iff] at hf
  obtain ⟨b, hb, rfl⟩ := hf
  obtain ⟨p, q', h1, h2, h3, h4, rfl⟩ := eqB_some hb
  have hr := R.un
  exact ⟨_, op_neD (by omega), p, q', (hv.rp E.sub).dp h1, (hu.rp E.sub).dp h2, h3, h4, q.val E (.bl _)⟩
def toInts : List D → Option (List Int)
  | [] => some []
  | .int i :: l => (toInts l).map (i :: ·)
  | _ => none
theorem toInts_rp {K : PySem.W.Frag} {H : Hp} : ∀ {ds : List D} {ns : List Int} {vs : List V}, toInts ds = some ns → RpAll K H vs ds → vs = ns.map V.int
  | [], _, _, h, .nil => by simp only [toInts, Option.some.injEq] at h; subst h; rfl
  | d :: ds, _, _, h, .cons a b => by
    cases d <;> simp only [toInts, Option.map_eq_some_iff, reduceCtorEq] at h
    obtain ⟨ms, h1, rfl⟩ := h
    cases a
    rw [toInts_rp h1 b]; rfl
def dLt : D → D → Option Rv
  | .int i, .int j => vB (decide (i < j))
  | .str i, .str j => vB (decide (i.cps.toList < j.cps.toList))
  | .tup a, .tup b => match toInts a, toInts b with
    | some ns, some ms => vB (HT.lexLt ns ms)
    | _, _ => none
  | _, _ => none
theorem ok_lt (R : Rm X) : OpOk X (compareOp .Lt) dLt := by
  intro Bs B Hs H s r v u d e x Q E hv hu hf q
  have hr := R.un
  unfold dLt at hf
  split at hf
  · cases hf; rw [hv.int, hu.int]
    exact ⟨_, op_lt, _, _, rfl, rfl, q.val E (.bl _)⟩
  · cases hf; rw [hv.str, hu.str]
    exact ⟨_, op_lt_str, _, _, rfl, rfl, q.val E (.bl _)⟩
  · split at hf <;> cases hf
    rename_i n1 n2
    obtain ⟨a, vs, rfl, h1, r1, w1⟩ := hv.tup E.sub
    obtain ⟨b, us, rfl, h2, r2, w2⟩ := hu.tup E.sub
    have e1 := toInts_rp n1 r1
    have e2 := toInts_rp n2 r2
    subst e1 e2
    exact ⟨_, op_ltT (by omega), _, _, _, _, rfl, rfl, st_of h1, st_of h2, q.val E (.bl _)⟩
  · cases hf
def dLe : D → D → Option Rv
  | .int i, .int j => vB (decide (i ≤ j))
  | _, _ => none
theorem ok_le : OpOk X (compareOp .LtE) dLe := by
  intro Bs B Hs H s r v u d e x Q E hv hu hf q
  unfold dLe at hf
  split at hf <;> cases hf
  rw [hv.int, hu.int]
  exact ⟨_, op_le, _, _, rfl, rfl, q.val E (.bl _)⟩
def dGt : D → D → Option Rv
  | .int i, .int j => vB (decide (j < i))
  | _, _ => none
theorem ok_gt : OpOk X (compareOp .Gt) dGt := by
  intro Bs B Hs H s r v u d e x Q E hv hu hf q
  unfold dGt at hf
  split at hf <;> cases hf
  rw [hv.int, hu.int]
  exact ⟨_, op_gt, _, _, rfl, rfl, q.val E (.bl _)⟩
def dGe : D → D → Option Rv
  | .int i, .int j => vB (decide (j ≤ i))
  | _, _ => none
theorem ok_ge : OpOk X (compareOp .GtE) dGe := by
  intro Bs B Hs H s r v u d e x Q E hv hu hf q
  unfold dGe at hf
  split at hf <;> cases hf
  rw [hv.int, hu.int]
  exact ⟨_, op_ge, _, _, rfl, rfl, q.val E (.bl _)⟩
def isNon : D → Bool
  | .non => true
  | _ => false
theorem Opd.isNon {K : PySem.W.Frag} {Hs H : Hp} (e : Ex Hs H) {v : V} {d : D} (h : Opd K Hs H v d) : decide (v = .non) = isNon d := by
  have h := h.rp e
  cases h <;> rfl
def dIsN (d e : D) : Option Rv := if isNon e then vB (isNon d) else none
theorem ok_isN : OpOk X (compareOp .Is) dIsN := by
  intro Bs B Hs H s r v u d e x Q E hv hu hf q
  unfold dIsN at hf
  split at hf <;> cases hf
  rename_i he
  have : u = .non := of_decide_eq_true ((hu.isNon E.sub).trans he)
  subst this
  exact ⟨_, op_isN, rfl, by rw [hv.isNon E.sub]; exact q.val E (.bl _)⟩
def dNotN (d e : D) : Option Rv := if isNon e then vB (!isNon d) else none
theorem ok_notN : OpOk X (compareOp .IsNot) dNotN := by
  intro Bs B Hs H s r v u d e x Q E hv hu hf q
  unfold dNotN at hf
  split at hf <;> cases hf
  rename_i he
  have : u = .non := of_decide_eq_true ((hu.isNon E.sub).trans he)
  subst this
  exact ⟨_, op_notN, rfl, by rw [hv.isNon E.sub]; exact q.val E (.bl _)⟩
/-! in -/
def flatD : D → Option V
  | .non => some .non
  | .bl b => some (.bl b)
  | .int i => some (.int i)
  | .str x => some (.str x)
  | _ => none
theorem flatD_rp {K : PySem.W.Frag} {H : Hp} {d : D} {w v : V} (h : flatD d = some w) (r : Rp K H v d) : v = w ∧ flatV v = true := by
  cases r <;> simp only [flatD, reduceCtorEq, Option.some.injEq] at h <;> subst h <;> exact ⟨rfl, rfl⟩
def flatAll : List D → Option (List V)
  | [] => some []
  | d :: l => match flatD d, flatAll l with
    | some v, some vs => some (v :: vs)
    | _, _ => none
theorem flatAll_rp {K : PySem.W.Frag} {H : Hp} : ∀ {ds : List D} {ws vs : List V}, flatAll ds = some ws → RpAll K H vs ds → vs = ws ∧ vs.all flatV = true
  | [], _, _, h, .nil => by simp only [flatAll, Option.some.injEq] at h; subst h; exact ⟨rfl, rfl⟩
  | d :: ds, _, _, h, .cons a b => by
    simp only [flatAll] at h
    split at h
    · rename_i v vs h1 h2
      cases h
      obtain ⟨rfl, f1⟩ := flatD_rp h1 a
      obtain ⟨rfl, f2⟩ := flatAll_rp h2 b
      exact ⟨rfl, by rw [List.all_cons, f1, f2]; rfl⟩
    · cases h
/-- x in a list, a tuple of flat things; of a list of any data; of a text -/
def dInB (d e : D) : Option Bool := match e with
  | .lst l => match flatD d, flatAll l with
    | some v, some vs => some (inV v vs)
    | _, _ => match toPy d, toPy (.lst l) with
      | some p, some (.list q) => if SeqAt.shaped p && SeqAt.shaped (.list q) then some (q.any fun z => PyData.eqv z p) else none
      | _, _ => none
  | .tup l => match flatD d, flatAll l with
    | some v, some vs => some (inV v vs)
    | _, _ => none
  | .str z => match d with
    | .str x => match x.cps.toList with
      | [c] => some (decide (c ∈ z.cps.toList))
      | _ => some (!(Builtin.Str.occurrences z x 0 z.length 1).isEmpty)
    | _ => none
  | _ => none
def dIn (d e : D) : Option Rv := (dInB d e).map fun b => .val (.bl b)
def dNotIn (d e : D) : Option Rv := (dInB d e).map fun b => .val (.bl (!b))
theorem one_sign {x : Str} {c : Nat} (h : x.cps.toList = [c]) : x = ⟨#[c]⟩ := by
  cases x with
  | mk cps =>
    have : cps = #[c] := Array.toList_inj.mp h
    rw [this]
theorem ok_in2 (R : Rm X) : OpOk X (compareOp .In) dIn ∧ OpOk X (compareOp .NotIn) dNotIn := by
  have hr := R.un
  have key : ∀ (Bs B Hs H : Hp) (s : St) (r : Rho) (v u : V) (d e : D) (b : Bool), EnvOk X.K Bs B Hs H s r → Opd X.K Hs H v d → Opd X.K Hs H u e → dInB d e = some b →
      (∀ Q : VK, Q (.bl b) H → ∃ rr, OpR X (compareOp .In) rr ∧ rr v u H Q) ∧ (∀ Q : VK, Q (.bl (!b)) H → ∃ rr, OpR X (compareOp .NotIn) rr ∧ rr v u H Q) := by
    intro Bs B Hs H s r v u d e b E hv hu hf
    unfold dInB at hf
    split at hf
    · obtain ⟨a, vs, rfl, h1, r1⟩ := hu.lst E.sub
      split at hf
      · rename_i w ws f1 f2
        cases hf
        obtain ⟨rfl, g1⟩ := flatD_rp f1 (hv.rp E.sub)
        obtain ⟨rfl, g2⟩ := flatAll_rp f2 r1
        exact ⟨fun Q q => ⟨_, op_in_seq, _, _, rfl, .inl (sq_of h1), g1, g2, q⟩, fun Q q => ⟨_, op_notIn_seq, _, _, rfl, .inl (sq_of h1), g1, g2, q⟩⟩
      · split at hf
        · rename_i p q' t1 t2
          split at hf <;> cases hf
          rename_i hz
          rw [Bool.and_eq_true] at hz
          have e1 := (hv.rp E.sub).dp t1
          have e2 := (hu.rp E.sub).dp t2
          exact ⟨fun Q q => ⟨_, op_inD (by omega), _, _, e1, e2, hz.1, hz.2, q⟩, fun Q q => ⟨_, op_notInD (by omega), _, _, e1, e2, hz.1, hz.2, q⟩⟩
        · cases hf
    · obtain ⟨a, vs, rfl, h1, r1, w1⟩ := hu.tup E.sub
      split at hf
      · rename_i w ws f1 f2
        cases hf
        obtain ⟨rfl, g1⟩ := flatD_rp f1 (hv.rp E.sub)
        obtain ⟨rfl, g2⟩ := flatAll_rp f2 r1
        exact ⟨fun Q q => ⟨_, op_in_seq, _, _, rfl, .inr (st_of h1), g1, g2, q⟩, fun Q q => ⟨_, op_notIn_seq, _, _, rfl, .inr (st_of h1), g1, g2, q⟩⟩
      · cases hf
    · rw [hu.str]
      split at hf
      · rw [hv.str]
        split at hf
        · rename_i x c hx
          cases hf
          rw [one_sign hx]
          exact ⟨fun Q q => ⟨_, op_in_sign, _, _, rfl, rfl, q⟩, fun Q q => ⟨_, op_notIn_sign, _, _, rfl, rfl, q⟩⟩
        · cases hf
          exact ⟨fun Q q => ⟨_, op_in_str, _, _, rfl, rfl, q⟩, fun Q q => ⟨_, op_notIn_str, _, _, rfl, rfl, q⟩⟩
      · cases hf
    · cases hf
  refine ⟨?_, ?_⟩
  · intro Bs B Hs H s r v u d e x Q E hv hu hf q
    simp only [dIn, Option.map_eq_some_iff] at hf
    obtain ⟨b, hb, rfl⟩ := hf
    exact (key Bs B Hs H s r v u d e b E hv hu hb).1 Q (q.val E (.bl _))
  · intro Bs B Hs H s r v u d e x Q E hv hu hf q
    simp only [dNotIn, Option.map_eq_some_iff] at hf
    obtain ⟨b, hb, rfl⟩ := hf
    exact (key Bs B Hs H s r v u d e b E hv hu hb).2 Q (q.val E (.bl _))
end
end Mp
set_option Elab.async false
set_option linter.all false
set_option maxRecDepth 100000
namespace Mp
open PySem L2 Evl
section
variable {A Y A' Y' : Type} {K : PySem.W.Frag} {W : WX} {Bs B Hs Hs' H : Hp} {s : St} {r : Rho}
theorem PostE.mono {Rel : Hp → Hp → Rho → Y → A → Prop} {Q : Y → Hp → Prop} {m : EO A} (e : Ex Hs Hs') (h : PostE K W Bs B Hs s Rel Q m) : PostE K W Bs B Hs' s Rel Q m := by
  cases m with
  | stuck => exact h
  | ok a r => exact fun y Hs1 H1 e1 => h y Hs1 H1 (e.trans e1)
  | exc x r => exact fun c d Hs1 H1 e1 => h c d Hs1 H1 (e.trans e1)
theorem PostE.bind {Rel : Hp → Hp → Rho → Y → A → Prop} {Rel' : Hp → Hp → Rho → Y' → A' → Prop} {Q : Y' → Hp → Prop} {Q1 : Y → Hp → Prop} {m : EO A} {f : A → Rho → EO A'} (h : PostE K W Bs B Hs s Rel' Q (m.bind f))
    (k : ∀ a r' y Hs' H', m = .ok a r' → Ex Hs Hs' → EnvOk K Bs B Hs' H' s r' → Rel Hs' H' r' y a → PostE K W Bs B Hs' s Rel' Q (f a r') → Q1 y H') : PostE K W Bs B Hs s Rel Q1 m := by
  cases m with
  | stuck => exact h
  | ok a r' => exact fun y Hs' H' e E ra => k a r' y Hs' H' rfl e E ra (PostE.mono e h)
  | exc x r' => exact h
theorem PostE.ok {Rel : Hp → Hp → Rho → Y → A → Prop} {Q : Y → Hp → Prop} {a : A} {r : Rho} {y : Y} {H : Hp} (h : PostE K W Bs B Hs s Rel Q (.ok a r)) (E : EnvOk K Bs B Hs H s r) (ra : Rel Hs H r y a) : Q y H := h y Hs H (Ex.refl _) E ra
end
section
variable {X : Cx} {W : WX} {e a b c : Expr} {es : List Expr} {pos : Pos}
/-! ### constants, names -/
def eC (d : D) : Ev Rv := fun r => .ok (.val d) r
def oC (d : D) : Ev Src := fun r => .ok (.dat d) r
theorem snd_c {v : V} {d : D} (h : PE X e (tC v)) (hv : ∀ H, Rp X.K H v d) : SndE X W e (eC d) := fun Bs B Hs H s r Q E q => ⟨_, h, q.ok E (hv Hs)⟩
theorem sno_c {v : V} {d : D} (h : PE X e (tC v)) (hv : ∀ H, Rp X.K H v d) : SndO X W e (oC d) := fun Bs B Hs H s r Q E q => ⟨_, h, q.ok E (hv Hs)⟩
theorem snd_int {i j pos} : SndE X W (.Constant (.int i) j pos) (eC (.int i)) := snd_c pe_int fun _ => .int _
theorem snd_bl {i j pos} : SndE X W (.Constant (.bool i) j pos) (eC (.bl i)) := snd_c pe_bl fun _ => .bl _
theorem snd_str {i j pos} : SndE X W (.Constant (.str i) j pos) (eC (.str i)) := snd_c pe_str fun _ => .str _
theorem snd_non {j pos} : SndE X W (.Constant .none j pos) (eC .non) := snd_c pe_non fun _ => .non
theorem sno_int {i j pos} : SndO X W (.Constant (.int i) j pos) (oC (.int i)) := sno_c pe_int fun _ => .int _
theorem sno_bl {i j pos} : SndO X W (.Constant (.bool i) j pos) (oC (.bl i)) := sno_c pe_bl fun _ => .bl _
theorem sno_str {i j pos} : SndO X W (.Constant (.str i) j pos) (oC (.str i)) := sno_c pe_str fun _ => .str _
theorem sno_non {j pos} : SndO X W (.Constant .none j pos) (oC .non) := sno_c pe_non fun _ => .non
def oN (i : Nat) : Ev Src := fun r => match r[i]? with
  | some (.val d) => .ok (.dat d) r
  | some (.own _) => .ok (.slot i) r
  | _ => .stuck
def eN (i : Nat) : Ev Rv := fun r => match r[i]? with
  | some (.val d) => .ok (.val d) r
  | some (.own o) => .ok (.val o.data) (r.set i (.val o.data))
  | _ => .stuck
theorem sno_n {i : Nat} (h : PE X e (tVar i)) : SndO X W e (oN i) := fun Bs B Hs H s r Q E q => by
  refine ⟨_, h, ?_⟩
  unfold oN at q
  split at q
  · rename_i d hd
    obtain ⟨v, h1, h2⟩ := E.val i d hd
    exact ⟨v, h1, q.ok E h2⟩
  · rename_i o ho
    obtain ⟨a, h1, _⟩ := E.own i o ho
    exact ⟨_, h1, q.ok E h1⟩
  · exact False.elim q
theorem snd_n {i : Nat} (h : PE X e (tVar i)) : SndE X W e (eN i) := fun Bs B Hs H s r Q E q => by
  refine ⟨_, h, ?_⟩
  unfold eN at q
  split at q
  · rename_i d hd
    obtain ⟨v, h1, h2⟩ := E.val i d hd
    exact ⟨v, h1, q.ok E h2⟩
  · rename_i o ho
    obtain ⟨v, Hs', h1, h2, h3, h4⟩ := E.freeze ho
    exact ⟨v, h1, q v Hs' H h2 h3 h4⟩
  · exact False.elim q
/-- an expression as an operand -/
def oE (ev : Ev Rv) : Ev Src := fun r => (ev r).bind fun x r => .ok (.dat x.data) r
theorem sno_e {ev : Ev Rv} (h : SndE X W e ev) : SndO X W e (oE ev) := fun Bs B Hs H s r Q E q =>
  h Bs B Hs H s r Q E (PostE.bind q fun x r' v Hs' H' _ e1 E1 ra q1 => by
    obtain ⟨Hs2, e2, E2, r2⟩ := RvAt.use E1 ra
    exact q1 v Hs2 H' e2 E2 r2)
/-! ### two operands -/
def rAny (X : Cx) (g : Value → Value → Sem Value) : R2 := fun x y H Q => ∃ rr, OpR X g rr ∧ rr x y H Q
theorem op_any {g : Value → Value → Sem Value} : OpR X g (rAny X g) := fun pins s σ H x y v u Q I rx ry ⟨rr, h, q⟩ => h pins s σ H x y v u Q I rx ry q
def two (f : D → D → Option Rv) (x y : Src) (r : Rho) : EO Rv := match x.rd r, y.rd r with
  | some d, some e => match f d e with
    | some z => .ok z r
    | none => .stuck
  | _, _ => .stuck
def e2 (f : D → D → Option Rv) (oa ob : Ev Src) : Ev Rv := fun r => (oa r).bind fun x r1 => (ob r1).bind fun y r2 => two f x y r2
theorem two_ok {g : Value → Value → Sem Value} {f : D → D → Option Rv} (ok : OpOk X g f) {Bs B Hs H : Hp} {s : St} {r : Rho} {v u : V} {x y : Src} {Q : VK} (E : EnvOk X.K Bs B Hs H s r) (hx : SrcAt X.K Hs s v x) (hy : SrcAt X.K Hs s u y)
    (q : PostE X.K W Bs B Hs s (relR X.K B s) Q (two f x y r)) : rAny X g v u H Q := by
  unfold two at q
  split at q
  · rename_i d e h1 h2
    split at q
    · rename_i z hz
      exact ok Bs B Hs H s r v u d e z Q E (Src.opd E hx h1) (Src.opd E hy h2) hz fun w Hs' H' st rv => q w Hs' H' st.sh (E.step st) rv
    · exact False.elim q
  · exact False.elim q
theorem snd_bin {op : Operator} {f : D → D → Option Rv} {oa ob : Ev Src} (ok : OpOk X (binaryOp op) f) (ha : SndO X W a oa) (hb : SndO X W b ob) : SndE X W (.BinOp a op b pos) (e2 f oa ob) := fun Bs B Hs H s r Q E q =>
  ⟨_, pe_op op_any pe_all pe_all, ha _ _ _ _ _ _ _ E (PostE.bind q fun x r1 v Hs1 H1 _ x1 E1 ra q1 => hb _ _ _ _ _ _ _ E1 (PostE.bind q1 fun y r2 u Hs2 H2 _ x2 E2 rb q2 => two_ok ok E2 (ra.mono x2) rb q2))⟩
theorem snd_cmp {op : CmpOp} {f : D → D → Option Rv} {oa ob : Ev Src} (ok : OpOk X (compareOp op) f) (ha : SndO X W a oa) (hb : SndO X W b ob) (hm : behindInMarks op b = false) : SndE X W (.Compare a [op] [b] pos) (e2 f oa ob) := fun Bs B Hs H s r Q E q =>
  ⟨_, pe_cmpR op_any pe_all pe_all hm, ha _ _ _ _ _ _ _ E (PostE.bind q fun x r1 v Hs1 H1 _ x1 E1 ra q1 => hb _ _ _ _ _ _ _ E1 (PostE.bind q1 fun y r2 u Hs2 H2 _ x2 E2 rb q2 => two_ok ok E2 (ra.mono x2) rb q2))⟩
/-- a value that is a bool, as a test -/
def tv (ev : Ev Rv) : Ev Bool := fun r => (ev r).bind fun x r => match x with
  | .val (.bl c) => .ok c r
  | _ => .stuck
theorem tv_post {Bs B Hs : Hp} {s : St} {m : EO Rv} {Q : Bool → Hp → Prop} (q : PostE X.K W Bs B Hs s relB Q (m.bind fun x r => match x with | .val (.bl c) => .ok c r | _ => .stuck)) :
    PostE X.K W Bs B Hs s (relR X.K B s) (fun x H' => ∃ k, x = .bl k ∧ Q k H') m :=
  PostE.bind q fun x r' v Hs' H' _ e1 E1 ra q1 => by
    split at q1
    · cases (show Rp X.K Hs' v (.bl _) from ra)
      exact ⟨_, rfl, q1.ok E1 rfl⟩
    · exact False.elim q1
theorem snt_cmp {op : CmpOp} {f : D → D → Option Rv} {oa ob : Ev Src} (ok : OpOk X (compareOp op) f) (ha : SndO X W a oa) (hb : SndO X W b ob) (hm : behindInMarks op b = false) : SndT X W (.Compare a [op] [b] pos) (tv (e2 f oa ob)) := fun Bs B Hs H s r Q E q => by
  have q' := tv_post (m := e2 f oa ob r) q
  exact ⟨_, pt_cmpR op_any pe_all pe_all hm, ha _ _ _ _ _ _ _ E (PostE.bind q' fun x r1 v Hs1 H1 _ x1 E1 ra q1 => hb _ _ _ _ _ _ _ E1 (PostE.bind q1 fun y r2 u Hs2 H2 _ x2 E2 rb q2 => two_ok ok E2 (ra.mono x2) rb q2))⟩
/-- a op b op c -/
def e3 (f g : D → D → Option Rv) (oa ob oc : Ev Src) : Ev Rv := fun r => (oa r).bind fun x r1 => (ob r1).bind fun y r2 => (two f x y r2).bind fun z r3 => match z with
  | .val (.bl true) => (oc r3).bind fun w r4 => two g y w r4
  | .val (.bl false) => .ok (.val (.bl false)) r3
  | _ => .stuck
theorem chain_core {op op' : CmpOp} {f g : D → D → Option Rv} {oa ob oc : Ev Src} (ok : OpOk X (compareOp op) f) (ok' : OpOk X (compareOp op') g) (ha : SndO X W a oa) (hb : SndO X W b ob) (hc : SndO X W c oc)
    {Bs B Hs H : Hp} {s : St} {r : Rho} {Q : VK} (E : EnvOk X.K Bs B Hs H s r) (q : PostE X.K W Bs B Hs s (relR X.K B s) Q (e3 f g oa ob oc r)) :
    tChain (rAny X (compareOp op)) (rAny X (compareOp op')) (aE X a) (aE X b) (aE X c) s H Q :=
  ha _ _ _ _ _ _ _ E (PostE.bind q fun x r1 v Hs1 H1 _ x1 E1 ra q1 => hb _ _ _ _ _ _ _ E1 (PostE.bind q1 fun y r2 u Hs2 H2 _ x2 E2 rb q2 => two_ok (W := W) ok E2 (ra.mono x2) rb (PostE.bind q2 fun z r3 w Hs3 H3 _ x3 E3 rz q3 => by
    split at q3
    · cases (show Rp X.K Hs3 w (.bl true) from rz)
      refine ⟨true, rfl, ?_⟩
      rw [if_pos rfl]
      exact hc _ _ _ _ _ _ _ E3 (PostE.bind q3 fun k r4 w' Hs4 H4 _ x4 E4 rk q4 => two_ok ok' E4 (rb.mono (x3.trans x4)) rk q4)
    · cases (show Rp X.K Hs3 w (.bl false) from rz)
      refine ⟨false, rfl, ?_⟩
      rw [if_neg Bool.false_ne_true]
      exact q3.ok E3 (.bl _)
    · exact False.elim q3)))
theorem snd_chain {op op' : CmpOp} {f g : D → D → Option Rv} {oa ob oc : Ev Src} (ok : OpOk X (compareOp op) f) (ok' : OpOk X (compareOp op') g) (ha : SndO X W a oa) (hb : SndO X W b ob) (hc : SndO X W c oc)
    (hm : lastMarks [op, op'] [b, c] = false := by with_unfolding_all rfl) : SndE X W (.Compare a [op, op'] [b, c] pos) (e3 f g oa ob oc) := fun Bs B Hs H s r Q E q => ⟨_, pe_chain op_any op_any pe_all pe_all pe_all hm, chain_core ok ok' ha hb hc E q⟩
theorem snt_chain {op op' : CmpOp} {f g : D → D → Option Rv} {oa ob oc : Ev Src} (ok : OpOk X (compareOp op) f) (ok' : OpOk X (compareOp op') g) (ha : SndO X W a oa) (hb : SndO X W b ob) (hc : SndO X W c oc)
    (hm : lastMarks [op, op'] [b, c] = false := by with_unfolding_all rfl) : SndT X W (.Compare a [op, op'] [b, c] pos) (tv (e3 f g oa ob oc)) := fun Bs B Hs H s r Q E q =>
  ⟨_, pt_chain op_any op_any pe_all pe_all pe_all hm, chain_core ok ok' ha hb hc E (tv_post (m := e3 f g oa ob oc r) q)⟩
/-! ### -a -/
def dNeg : D → Option Rv
  | .int i => vI (-i)
  | _ => none
def e1 (f : D → Option Rv) (oa : Ev Src) : Ev Rv := fun r => (oa r).bind fun x r1 => match x.rd r1 with
  | some d => match f d with
    | some z => .ok z r1
    | none => .stuck
  | none => .stuck
theorem snd_neg {oa : Ev Src} (ha : SndO X W a oa) : SndE X W (.UnaryOp .USub a pos) (e1 dNeg oa) := fun Bs B Hs H s r Q E q =>
  ⟨_, pe_un un_neg pe_all, ha _ _ _ _ _ _ _ E (PostE.bind q fun x r1 v Hs1 H1 _ x1 E1 ra q1 => by
    split at q1
    · rename_i d hd
      have o := Src.opd E1 ra hd
      split at q1
      · rename_i z hz
        unfold dNeg at hz
        split at hz <;> cases hz
        rw [o.int]
        exact ⟨_, rfl, q1.ok E1 (.int _)⟩
      · exact False.elim q1
    · exact False.elim q1)⟩
/-! ### truth, and, or, not -/
def truD : D → Option Bool
  | .non => some false
  | .bl b => some b
  | .int i => some (i != 0)
  | .str x => if x.length ≤ sizeLine then some ((x.length : Int) != 0) else none
  | .lst l => some (!l.isEmpty)
  | .tup l => some (!l.isEmpty)
  | .scr l => some (!l.isEmpty)
  | .dK l => some (!l.isEmpty)
  | _ => none
theorem RpAll.isEmpty {K : PySem.W.Frag} {H : Hp} {vs : List V} {ds : List D} (h : RpAll K H vs ds) : ds.isEmpty = vs.isEmpty := by cases h <;> rfl
theorem truD_rp {H : Hp} {v : V} {d : D} {k : Bool} (h : Rp X.K H v d) (e : truD d = some k) : TruV X.K v H k := by
  cases h <;> simp only [truD, Option.some.injEq, reduceCtorEq] at e
  · exact e.symm
  · exact e.symm
  · exact e.symm
  · split at e <;> cases e
    exact ⟨by assumption, rfl⟩
  · rename_i h r
    rw [r.isEmpty] at e
    exact .inl ⟨_, sq_of h, e.symm⟩
  · rename_i h r
    rw [r.isEmpty] at e
    exact .inr (.inl ⟨_, st_of h, e.symm⟩)
  · rename_i l h
    refine .inl ⟨_, h, ?_⟩
    rw [← e]; cases l <;> rfl
  · rename_i kvs l h k r
    refine .inr (.inr ⟨_, h, ?_⟩)
    rw [← e]
    cases l <;> cases kvs <;> simp at k <;> rfl
def tTr (oa : Ev Src) : Ev Bool := fun r => (oa r).bind fun x r1 => match x.rd r1 with
  | some d => match truD d with
    | some k => .ok k r1
    | none => .stuck
  | none => .stuck
theorem snt_tru {oa : Ev Src} (ha : SndO X W a oa) (he : ∀ whole, isTrue a X.env whole = (do let v ← whole; standAt a.pos; holding [v] (truthy v))) : SndT X W a (tTr oa) := fun Bs B Hs H s r Q E q =>
  ⟨_, pt_truth pe_all he, ha _ _ _ _ _ _ _ E (PostE.bind q fun x r1 v Hs1 H1 _ x1 E1 ra q1 => by
    split at q1
    · rename_i d hd
      have o := Src.opd E1 ra hd
      split at q1
      · rename_i k hk
        exact ⟨k, truD_rp (o.rp E1.sub) hk, q1.ok E1 rfl⟩
      · exact False.elim q1
    · exact False.elim q1)⟩
/-- chains of and, or: PW's -/
def SndW (X : Cx) (W : WX) (e : Expr) (ev : Ev Bool) : Prop := ∀ (Bs B Hs H : Hp) (s : St) (r : Rho) (Q : Bool → Hp → Prop), EnvOk X.K Bs B Hs H s r →
  PostE X.K W Bs B Hs s relB Q (ev r) → ∃ t, PW X e t ∧ t s H Q
def aW (X : Cx) (e : Expr) : TT := fun s H Q => ∃ t, PW X e t ∧ t s H Q
theorem pw_all {e : Expr} : PW X e (aW X e) := ⟨fun wh pins s σ H Q I ⟨t, h, q⟩ => h.run wh pins s σ H Q I q⟩
theorem SndW.t {ev : Ev Bool} (h : SndW X W e ev) : SndT X W e ev := fun Bs B Hs H s r Q E q => by
  obtain ⟨t, h1, h2⟩ := h Bs B Hs H s r Q E q
  exact ⟨t, h1.pt, h2⟩
def tAndE (ta tb : Ev Bool) : Ev Bool := fun r => (ta r).bind fun k r1 => if k then tb r1 else .ok false r1
def tOrE (ta tb : Ev Bool) : Ev Bool := fun r => (ta r).bind fun k r1 => if k then .ok true r1 else tb r1
theorem snw_and1 {ta : Ev Bool} (h : SndT X W a ta) : SndW X W (.BoolOp .And [a] pos) ta := fun Bs B Hs H s r Q E q => ⟨_, pw_and1 pt_all, h Bs B Hs H s r Q E q⟩
theorem snw_or1 {ta : Ev Bool} (h : SndT X W a ta) : SndW X W (.BoolOp .Or [a] pos) ta := fun Bs B Hs H s r Q E q => ⟨_, pw_or1 pt_all, h Bs B Hs H s r Q E q⟩
theorem snw_and {rest : List Expr} {ta tb : Ev Bool} (h : SndT X W a ta) (h2 : SndW X W (.BoolOp .And (b :: rest) pos) tb) : SndW X W (.BoolOp .And (a :: b :: rest) pos) (tAndE ta tb) := fun Bs B Hs H s r Q E q =>
  ⟨_, pw_and pt_all pw_all, h _ _ _ _ _ _ _ E (PostE.bind q fun k r1 k' Hs1 H1 _ x1 E1 ra q1 => by
    have ra : k' = k := ra
    subst ra
    cases k' with
    | true => rw [if_pos rfl] at q1 ⊢; exact h2 _ _ _ _ _ _ _ E1 q1
    | false => rw [if_neg Bool.false_ne_true] at q1 ⊢; exact q1.ok E1 rfl)⟩
theorem snw_or {rest : List Expr} {ta tb : Ev Bool} (h : SndT X W a ta) (h2 : SndW X W (.BoolOp .Or (b :: rest) pos) tb) : SndW X W (.BoolOp .Or (a :: b :: rest) pos) (tOrE ta tb) := fun Bs B Hs H s r Q E q =>
  ⟨_, pw_or pt_all pw_all, h _ _ _ _ _ _ _ E (PostE.bind q fun k r1 k' Hs1 H1 _ x1 E1 ra q1 => by
    have ra : k' = k := ra
    subst ra
    cases k' with
    | true => rw [if_pos rfl] at q1 ⊢; exact q1.ok E1 rfl
    | false => rw [if_neg Bool.false_ne_true] at q1 ⊢; exact h2 _ _ _ _ _ _ _ E1 q1)⟩
def tNotE (ta : Ev Bool) : Ev Bool := fun r => (ta r).bind fun k r1 => .ok (!k) r1
theorem snt_not {ta : Ev Bool} (h : SndT X W a ta) : SndT X W (.UnaryOp .Not a pos) (tNotE ta) := fun Bs B Hs H s r Q E q =>
  ⟨_, pt_not pt_all, h _ _ _ _ _ _ _ E (PostE.bind q fun k r1 k' Hs1 H1 _ x1 E1 ra q1 => by
    have ra : k' = k := ra
    subst ra
    exact q1.ok E1 rfl)⟩
/-- as values: bools all but the last -/
def eAnd (ea eb : Ev Rv) : Ev Rv := fun r => (ea r).bind fun x r1 => match x with
  | .val (.bl true) => eb r1
  | .val (.bl false) => .ok (.val (.bl false)) r1
  | _ => .stuck
def eOr (ea eb : Ev Rv) : Ev Rv := fun r => (ea r).bind fun x r1 => match x with
  | .val (.bl true) => .ok (.val (.bl true)) r1
  | .val (.bl false) => eb r1
  | _ => .stuck
theorem snd_one {op} {ea : Ev Rv} (h : SndE X W a ea) : SndE X W (.BoolOp op [a] pos) ea := fun Bs B Hs H s r Q E q => ⟨_, pe_one pe_all, h Bs B Hs H s r Q E q⟩
theorem snd_and {rest : List Expr} {ea eb : Ev Rv} (h : SndE X W a ea) (h2 : SndE X W (.BoolOp .And (b :: rest) pos) eb) : SndE X W (.BoolOp .And (a :: b :: rest) pos) (eAnd ea eb) := fun Bs B Hs H s r Q E q =>
  ⟨_, pe_and pe_all pe_all, h _ _ _ _ _ _ _ E (PostE.bind q fun x r1 v Hs1 H1 _ x1 E1 ra q1 => by
    split at q1
    · cases (show Rp X.K Hs1 v (.bl true) from ra)
      exact ⟨true, rfl, by rw [if_pos rfl]; exact h2 _ _ _ _ _ _ _ E1 q1⟩
    · cases (show Rp X.K Hs1 v (.bl false) from ra)
      exact ⟨false, rfl, by rw [if_neg Bool.false_ne_true]; exact q1.ok E1 (.bl _)⟩
    · exact False.elim q1)⟩
theorem snd_or {rest : List Expr} {ea eb : Ev Rv} (h : SndE X W a ea) (h2 : SndE X W (.BoolOp .Or (b :: rest) pos) eb) : SndE X W (.BoolOp .Or (a :: b :: rest) pos) (eOr ea eb) := fun Bs B Hs H s r Q E q =>
  ⟨_, pe_or pe_all pe_all, h _ _ _ _ _ _ _ E (PostE.bind q fun x r1 v Hs1 H1 _ x1 E1 ra q1 => by
    split at q1
    · cases (show Rp X.K Hs1 v (.bl true) from ra)
      exact ⟨true, rfl, by rw [if_pos rfl]; exact q1.ok E1 (.bl _)⟩
    · cases (show Rp X.K Hs1 v (.bl false) from ra)
      exact ⟨false, rfl, by rw [if_neg Bool.false_ne_true]; exact h2 _ _ _ _ _ _ _ E1 q1⟩
    · exact False.elim q1)⟩
def eNot (ea : Ev Rv) : Ev Rv := fun r => (ea r).bind fun x r1 => match x with
  | .val (.bl k) => .ok (.val (.bl (!k))) r1
  | _ => .stuck
theorem snd_not {ea : Ev Rv} (h : SndE X W a ea) : SndE X W (.UnaryOp .Not a pos) (eNot ea) := fun Bs B Hs H s r Q E q =>
  ⟨_, pe_not pe_all, h _ _ _ _ _ _ _ E (PostE.bind q fun x r1 v Hs1 H1 _ x1 E1 ra q1 => by
    split at q1
    · cases (show Rp X.K Hs1 v (.bl _) from ra)
      exact ⟨_, rfl, q1.ok E1 (.bl _)⟩
    · exact False.elim q1)⟩
def eIf (tc : Ev Bool) (ea eb : Ev Rv) : Ev Rv := fun r => (tc r).bind fun k r1 => if k then ea r1 else eb r1
theorem snd_if {tc : Ev Bool} {ea eb : Ev Rv} (hc : SndT X W c tc) (ha : SndE X W a ea) (hb : SndE X W b eb) : SndE X W (.IfExp c a b pos) (eIf tc ea eb) := fun Bs B Hs H s r Q E q =>
  ⟨_, pe_ifExp pt_all pe_all pe_all, hc _ _ _ _ _ _ _ E (PostE.bind q fun k r1 k' Hs1 H1 _ x1 E1 ra q1 => by
    have ra : k' = k := ra
    subst ra
    cases k' with
    | true => rw [if_pos rfl] at q1 ⊢; exact ha _ _ _ _ _ _ _ E1 q1
    | false => rw [if_neg Bool.false_ne_true] at q1 ⊢; exact hb _ _ _ _ _ _ _ E1 q1)⟩
/-! ### argument lists: of operands; of data -/
inductive SrcAll (K : PySem.W.Frag) (Hs : Hp) (s : St) : List V → List Src → Prop
  | nil : SrcAll K Hs s [] []
  | cons {v : V} {vs : List V} {x : Src} {xs : List Src} : SrcAt K Hs s v x → SrcAll K Hs s vs xs → SrcAll K Hs s (v :: vs) (x :: xs)
theorem SrcAll.mono {K : PySem.W.Frag} {Hs Hs' : Hp} {s : St} (e : Ex Hs Hs') : ∀ {vs : List V} {xs : List Src}, SrcAll K Hs s vs xs → SrcAll K Hs' s vs xs
  | _, _, .nil => .nil
  | _, _, .cons a b => .cons (a.mono e) (b.mono e)
def relSA (K : PySem.W.Frag) (s : St) : Hp → Hp → Rho → List V → List Src → Prop := fun Hs _ _ v x => SrcAll K Hs s v x
def SndA (X : Cx) (W : WX) (es : List Expr) (ev : Ev (List Src)) : Prop := ∀ (Bs B Hs H : Hp) (s : St) (r : Rho) (Q : List V → Hp → Prop), EnvOk X.K Bs B Hs H s r →
  PostE X.K W Bs B Hs s (relSA X.K s) Q (ev r) → aA X es s H Q
def aNil : Ev (List Src) := fun r => .ok [] r
def aCons (oa : Ev Src) (as : Ev (List Src)) : Ev (List Src) := fun r => (oa r).bind fun x r1 => (as r1).bind fun xs r2 => .ok (x :: xs) r2
theorem sna_nil : SndA X W [] aNil := fun Bs B Hs H s r Q E q => ⟨_, pa_nil, q.ok E .nil⟩
theorem sna_cons {oa : Ev Src} {as : Ev (List Src)} (ha : SndO X W e oa) (hs : SndA X W es as) (hst : starEach (e :: es) X.env = (false, eval e X.env) :: starEach es X.env := by rfl) : SndA X W (e :: es) (aCons oa as) := fun Bs B Hs H s r Q E q =>
  ⟨_, pa_cons pe_all pa_all hst, ha _ _ _ _ _ _ _ E (PostE.bind q fun x r1 v Hs1 H1 _ x1 E1 ra q1 => hs _ _ _ _ _ _ _ E1 (PostE.bind q1 fun xs r2 vs Hs2 H2 _ x2 E2 rb q2 => q2.ok E2 (.cons (ra.mono x2) rb)))⟩
def relDA (K : PySem.W.Frag) : Hp → Hp → Rho → List V → List D → Prop := fun Hs _ _ v x => RpAll K Hs v x
def SndV (X : Cx) (W : WX) (es : List Expr) (ev : Ev (List D)) : Prop := ∀ (Bs B Hs H : Hp) (s : St) (r : Rho) (Q : List V → Hp → Prop), EnvOk X.K Bs B Hs H s r →
  PostE X.K W Bs B Hs s (relDA X.K) Q (ev r) → aA X es s H Q
def vNil : Ev (List D) := fun r => .ok [] r
def vCons (ea : Ev Rv) (as : Ev (List D)) : Ev (List D) := fun r => (ea r).bind fun x r1 => (as r1).bind fun xs r2 => .ok (x.data :: xs) r2
theorem snv_nil : SndV X W [] vNil := fun Bs B Hs H s r Q E q => ⟨_, pa_nil, q.ok E .nil⟩
theorem snv_cons {ea : Ev Rv} {as : Ev (List D)} (ha : SndE X W e ea) (hs : SndV X W es as) (hst : starEach (e :: es) X.env = (false, eval e X.env) :: starEach es X.env := by rfl) : SndV X W (e :: es) (vCons ea as) := fun Bs B Hs H s r Q E q =>
  ⟨_, pa_cons pe_all pa_all hst, ha _ _ _ _ _ _ _ E (PostE.bind q fun x r1 v Hs1 H1 _ x1 E1 ra q1 => by
    obtain ⟨Hs2, e2, E2, r2⟩ := RvAt.use E1 ra
    exact hs _ _ _ _ _ _ _ E2 (PostE.bind (q1.mono e2) fun xs r2' vs Hs3 H3 _ x3 E3 rb q3 => q3.ok E3 (.cons (r2.mono x3) rb)))⟩
/-- (a, b), [a, b] -/
def eTup (va : Ev (List D)) : Ev Rv := fun r => (va r).bind fun ds r1 => if ds.length ≤ sizeLine then .ok (.val (.tup ds)) r1 else .stuck
def eLst (va : Ev (List D)) : Ev Rv := fun r => (va r).bind fun ds r1 => if ds.length ≤ sizeLine then .ok (.new (.lst ds)) r1 else .stuck
/-- what stands in the heaps behind a step -/
theorem PostE.prim {K : PySem.W.Frag} {Bs B Hs H : Hp} {s : St} {r : Rho} {Q : VK} {x : Rv} (E : EnvOk K Bs B Hs H s r) (q : PostE K W Bs B Hs s (relR K B s) Q (.ok x r)) : PrimQ K Bs B Hs H s r Q x := fun v Hs' H' st rv => q v Hs' H' st.sh (E.step st) rv
theorem snd_tup {va : Ev (List D)} {x1} (h : SndV X W es va) : SndE X W (.Tuple es x1 pos) (eTup va) := fun Bs B Hs H s r Q E q =>
  ⟨_, pe_tup pa_all, h _ _ _ _ _ _ _ E (PostE.bind q fun ds r1 vs Hs1 H1 _ x1 E1 ra q1 => by
    have ra : RpAll X.K Hs1 vs ds := ra
    split at q1
    · exact ⟨by rw [ra.length]; assumption, fun p hp => (PostE.prim E1 q1).tup E1 ra hp⟩
    · exact False.elim q1)⟩
theorem snd_lst {va : Ev (List D)} (h : SndV X W es va) : SndE X W (.List es pos) (eLst va) := fun Bs B Hs H s r Q E q =>
  ⟨_, pe_lst pa_all, h _ _ _ _ _ _ _ E (PostE.bind q fun ds r1 vs Hs1 H1 _ x1 E1 ra q1 => by
    have ra : RpAll X.K Hs1 vs ds := ra
    split at q1
    · exact ⟨by rw [ra.length]; assumption, fun p hp => (PostE.prim E1 q1).lst E1 ra hp⟩
    · exact False.elim q1)⟩
end
end Mp
set_option Elab.async false
set_option linter.all false
set_option maxRecDepth 100000
namespace Mp
open PySem L2 Evl
/-! ### slots set -/
def cellOf : Rv → Cell
  | .val d => .val d
  | .new o => .own o
theorem EnvOk.setRv {K : PySem.W.Frag} {Bs B Hs H : Hp} {s : L2.St} {r : Rho} (E : EnvOk K Bs B Hs H s r) {v : V} {x : Rv} (h : RvAt K B Hs H s r v x) (i : Nat) : EnvOk K Bs B Hs H (s.set i (some v)) (r.set i (cellOf x)) := by
  have gs : ∀ (j : Nat), i ≠ j → (s.set i (some v))[j]? = s[j]? := fun j e => by rw [List.getElem?_set, if_neg e]
  have gr : ∀ (j : Nat), i ≠ j → (r.set i (cellOf x))[j]? = r[j]? := fun j e => by rw [List.getElem?_set, if_neg e]
  have at_i : ∀ c, (r.set i (cellOf x))[i]? = some c → c = cellOf x ∧ (s.set i (some v))[i]? = some (some v) := fun c h => by
    rw [List.getElem?_set, if_pos rfl] at h
    split at h
    · cases h
      refine ⟨rfl, ?_⟩
      rw [List.getElem?_set, if_pos rfl, if_pos (by rw [E.len]; assumption)]
    · cases h
  refine ⟨E.sub, E.ext1, E.ext2, E.ext3, by rw [List.length_set, List.length_set]; exact E.len, fun j d hj => ?_, fun j o hj => ?_, fun i' j' a oi oj ne h1 h2 h3 h4 => ?_⟩
  · by_cases e : i = j
    · subst e
      obtain ⟨e1, e2⟩ := at_i _ hj
      cases x with
      | val d' => cases e1; exact ⟨v, e2, h⟩
      | new o => cases e1
    · rw [gr j e] at hj; rw [gs j e]; exact E.val j d hj
  · by_cases e : i = j
    · subst e
      obtain ⟨e1, e2⟩ := at_i _ hj
      cases x with
      | val d' => cases e1
      | new o' =>
        cases e1
        obtain ⟨a, rfl, h1, h2, h3, h4⟩ := h
        exact ⟨a, e2, h1, h2, h3⟩
    · rw [gr j e] at hj; rw [gs j e]; exact E.own j o hj
  · by_cases e : i = i'
    · subst e
      obtain ⟨e1, e2⟩ := at_i _ h1
      cases x with
      | val d' => cases e1
      | new o' =>
        rw [e2] at h3
        cases h3
        have ej : i ≠ j' := ne
        rw [gr j' ej] at h2; rw [gs j' ej] at h4
        obtain ⟨_, e3, _, _, _, ap⟩ := h
        cases e3
        exact ap j' oj h2 h4
    · by_cases e' : i = j'
      · subst e'
        obtain ⟨e1, e2⟩ := at_i _ h2
        cases x with
        | val d' => cases e1
        | new o' =>
          rw [e2] at h4
          cases h4
          rw [gr i' e] at h1; rw [gs i' e] at h3
          obtain ⟨_, e3, _, _, _, ap⟩ := h
          cases e3
          exact ap i' oi h1 h3
      · rw [gr i' e] at h1; rw [gs i' e] at h3; rw [gr j' e'] at h2; rw [gs j' e'] at h4
        exact E.dis i' j' a oi oj ne h1 h2 h3 h4
/-! ### what a statement comes to -/
inductive SO where
  | stuck | nx (r : Rho) | ret (x : Rv) (r : Rho) | bk (r : Rho) | ct (r : Rho) | exc (x : Exn) (r : Rho)
abbrev Sv := Rho → SO
def EO.toS {A : Type} (m : EO A) (f : A → Rho → SO) : SO := match m with
  | .stuck => .stuck
  | .ok a r => f a r
  | .exc x r => .exc x r
def SO.then (m : SO) (f : Rho → SO) : SO := match m with
  | .nx r => f r
  | m => m
/-- the first parameter's slot is never stored anew (where z says so) -/
def Kz (z : Bool) (s s' : L2.St) : Prop := z = true → s'[0]? = s[0]?
theorem Kz.refl {z : Bool} (s : L2.St) : Kz z s s := fun _ => rfl
theorem Kz.trans {z : Bool} {a b c : L2.St} (h : Kz z a b) (k : Kz z b c) : Kz z a c := fun e => (k e).trans (h e)
theorem Kz.set {z : Bool} {s : L2.St} {i : Nat} {x : Option V} (h : z = true → i ≠ 0) : Kz z s (s.set i x) := fun e => by
  rw [List.getElem?_set, if_neg (h e)]
def PostS (K : PySem.W.Frag) (W : WX) (z : Bool) (Bs B Hs : Hp) (s0 : L2.St) (D : Ends) : SO → Prop
  | .stuck => False
  | .nx r => ∀ s Hs' H', Kz z s0 s → Ex Hs Hs' → EnvOk K Bs B Hs' H' s r → D.nx s H'
  | .ret x r => ∀ v s Hs' H', Kz z s0 s → Ex Hs Hs' → EnvOk K Bs B Hs' H' s r → RvAt K B Hs' H' s r v x → D.rt v H'
  | .bk r => ∀ s Hs' H', Kz z s0 s → Ex Hs Hs' → EnvOk K Bs B Hs' H' s r → D.bk s H'
  | .ct r => ∀ s Hs' H', Kz z s0 s → Ex Hs Hs' → EnvOk K Bs B Hs' H' s r → D.ct s H'
  | .exc x r => ∀ cls d s Hs' H', Kz z s0 s → Ex Hs Hs' → EnvOk K Bs B Hs' H' s r → ExAt K Hs' H' cls d x → W cls d s H'
section
variable {K : PySem.W.Frag} {W : WX} {z : Bool} {Bs B Hs Hs' H : Hp} {D D' : Ends} {s s1 : L2.St} {r : Rho}
theorem PostS.mono {m : SO} (e : Ex Hs Hs') (h : PostS K W z Bs B Hs s D m) : PostS K W z Bs B Hs' s D m := by
  cases m with
  | stuck => exact h
  | nx r => exact fun s H1 H2 k e1 => h s H1 H2 k (e.trans e1)
  | ret x r => exact fun v s H1 H2 k e1 => h v s H1 H2 k (e.trans e1)
  | bk r => exact fun s H1 H2 k e1 => h s H1 H2 k (e.trans e1)
  | ct r => exact fun s H1 H2 k e1 => h s H1 H2 k (e.trans e1)
  | exc x r => exact fun c d s H1 H2 k e1 => h c d s H1 H2 k (e.trans e1)
theorem PostS.on {m : SO} (k : Kz z s s1) (h : PostS K W z Bs B Hs s D m) : PostS K W z Bs B Hs s1 D m := by
  cases m with
  | stuck => exact h
  | nx r => exact fun s H1 H2 k1 e1 => h s H1 H2 (k.trans k1) e1
  | ret x r => exact fun v s H1 H2 k1 e1 => h v s H1 H2 (k.trans k1) e1
  | bk r => exact fun s H1 H2 k1 e1 => h s H1 H2 (k.trans k1) e1
  | ct r => exact fun s H1 H2 k1 e1 => h s H1 H2 (k.trans k1) e1
  | exc x r => exact fun c d s H1 H2 k1 e1 => h c d s H1 H2 (k.trans k1) e1
theorem PostS.then {m : SO} {f : Rho → SO} {N : L2.St → Hp → Prop} (h : PostS K W z Bs B Hs s D (m.then f)) (k : ∀ r' s' Hs' H', Kz z s s' → Ex Hs Hs' → EnvOk K Bs B Hs' H' s' r' → PostS K W z Bs B Hs' s' D (f r') → N s' H') : PostS K W z Bs B Hs s { D with nx := N } m := by
  cases m with
  | stuck => exact h
  | nx r => exact fun s' H1 H2 k1 e1 E => k r s' H1 H2 k1 e1 E (PostS.on k1 (PostS.mono e1 h))
  | ret x r => exact h
  | bk r => exact h
  | ct r => exact h
  | exc x r => exact h
theorem PostS.toS {A Y : Type} {Rel : Hp → Hp → Rho → Y → A → Prop} {Q : Y → Hp → Prop} {m : EO A} {f : A → Rho → SO} (h : PostS K W z Bs B Hs s D (m.toS f))
    (k : ∀ a r' y Hs' H', Ex Hs Hs' → EnvOk K Bs B Hs' H' s r' → Rel Hs' H' r' y a → PostS K W z Bs B Hs' s D (f a r') → Q y H') : PostE K W Bs B Hs s Rel Q m := by
  cases m with
  | stuck => exact h
  | ok a r' => exact fun y Hs' H' e E ra => k a r' y Hs' H' e E ra (PostS.mono e h)
  | exc x r' => exact fun c d Hs' H' e E => h c d s Hs' H' (Kz.refl _) e E
theorem PostS.nx (E : EnvOk K Bs B Hs H s r) (h : PostS K W z Bs B Hs s D (.nx r)) : D.nx s H := h s Hs H (Kz.refl _) (Ex.refl _) E
theorem PostS.nx' (k : Kz z s s1) (E : EnvOk K Bs B Hs H s1 r) (h : PostS K W z Bs B Hs s D (.nx r)) : D.nx s1 H := h s1 Hs H k (Ex.refl _) E
end
def SndS (X : Cx) (W : WX) (z : Bool) (st : Stmt) (sv : Sv) : Prop := ∀ (Bs B Hs H : Hp) (s : L2.St) (r : Rho) (D : Ends), EnvOk X.K Bs B Hs H s r → PostS X.K W z Bs B Hs s D (sv r) → aS X st D s H
def SndSs (X : Cx) (W : WX) (z : Bool) (st : List Stmt) (sv : Sv) : Prop := ∀ (Bs B Hs H : Hp) (s : L2.St) (r : Rho) (D : Ends), EnvOk X.K Bs B Hs H s r → PostS X.K W z Bs B Hs s D (sv r) → aSs X st D s H
/-! ### targets that take data -/
def aG (X : Cx) (tg : Expr) : TG := fun v s H Q => ∃ t, PG X tg t ∧ t v s H Q
theorem pg_all {X : Cx} {tg : Expr} : PG X tg (aG X tg) := ⟨fun pins s σ H v u Q I rv ⟨t, h, q⟩ => h.run pins s σ H v u Q I rv q⟩
abbrev Tg := D → Rho → Option Rho
/-- the slots `is` alone may differ -/
def Alike (is : List Nat) (s s' : L2.St) : Prop := ∀ vs : List Nat, (∀ i ∈ is, i ∈ vs) → L2.wipe s' vs = L2.wipe s vs
def SndG (X : Cx) (tg : Expr) (g : Tg) (is : List Nat) : Prop := ∀ (Bs B Hs H : Hp) (s : L2.St) (r r' : Rho) (v : V) (d : D) (Q : L2.St → Hp → Prop), EnvOk X.K Bs B Hs H s r → Rp X.K Hs v d → g d r = some r' → (∀ s' H', Alike is s s' → EnvOk X.K Bs B Hs H' s' r' → Q s' H') → aG X tg v s H Q
theorem wipe_get (s : L2.St) (i : Nat) : ∀ vs : List Nat, i ∉ vs → (L2.wipe s vs)[i]? = s[i]?
  | [], _ => rfl
  | v :: vs, h => by
    have h1 : v ≠ i := fun e => h (by rw [e]; exact List.mem_cons_self)
    show ((L2.wipe s vs).set v none)[i]? = _
    rw [List.getElem?_set, if_neg h1]
    exact wipe_get s i vs fun z => h (List.mem_cons_of_mem _ z)
theorem wipe_in (s : L2.St) (j : Nat) : ∀ vs : List Nat, j ∈ vs → (L2.wipe s vs)[j]? = if j < s.length then some none else none
  | [], h => by simp at h
  | v :: vs, hj => by
    show ((L2.wipe s vs).set v none)[j]? = _
    rw [List.getElem?_set]
    by_cases h1 : v = j
    · subst h1; rw [if_pos rfl, wipe_length]
    · rw [if_neg h1]
      rcases List.mem_cons.mp hj with rfl | hj
      · exact absurd rfl h1
      · exact wipe_in s j vs hj
theorem Alike.refl (is : List Nat) (s : L2.St) : Alike is s s := fun _ _ => rfl
theorem Alike.set {is : List Nat} {i : Nat} (h : i ∈ is) (s : L2.St) (x : Option V) : Alike is s (s.set i x) := fun vs hv => by
  apply List.ext_getElem?
  intro j
  by_cases hj : j ∈ vs
  · rw [wipe_in _ j vs hj, wipe_in _ j vs hj, List.length_set]
  · rw [wipe_get _ j vs hj, wipe_get _ j vs hj, List.getElem?_set, if_neg]
    rintro rfl; exact hj (hv i h)
theorem Alike.trans {is : List Nat} {a b c : L2.St} (h1 : Alike is a b) (h2 : Alike is b c) : Alike is a c := fun vs hv => (h2 vs hv).trans (h1 vs hv)
theorem Alike.sub {is js : List Nat} {a b : L2.St} (h : Alike is a b) (k : ∀ i ∈ is, i ∈ js) : Alike js a b := fun vs hv => h vs fun i hi => hv i (k i hi)
theorem wipe_idem (s : L2.St) (vs : List Nat) : L2.wipe (L2.wipe s vs) vs = L2.wipe s vs := by
  apply List.ext_getElem?
  intro j
  by_cases hj : j ∈ vs
  · rw [wipe_in _ j vs hj, wipe_in _ j vs hj, wipe_length]
  · rw [wipe_get _ j vs hj]
def gN (i : Nat) : Tg := fun d r => some (r.set i (.val d))
section
variable {X : Cx} {W : WX} {tg : Expr} {pos : Pos}
theorem sng_n {i : Nat} (h : PG X tg (gName i)) : SndG X tg (gN i) [i] := fun Bs B Hs H s r r' v d Q E hv e q => by
  cases e
  exact ⟨_, h, q _ _ (.set (by simp) _ _) (E.setRv (x := .val d) hv i)⟩
/-- several names -/
inductive NmOk (X : Cx) : List Expr → List Nat → Prop
  | nil : NmOk X [] []
  | cons {e : Expr} {es : List Expr} {i : Nat} {is : List Nat} : PG X e (gName i) → (assignEach (e :: es) X.env).map (·.2) = assign e X.env :: (assignEach es X.env).map (·.2) → NmOk X es is → NmOk X (e :: es) (i :: is)
def gNs : List Nat → TGs
  | [] => gNil
  | i :: is => gCons (gName i) (gNs is)
theorem NmOk.pgs : ∀ {es : List Expr} {is : List Nat}, NmOk X es is → PGs X es (gNs is)
  | _, _, .nil => pgs_nil
  | _, _, .cons h h2 r => pgs_cons h r.pgs h2
theorem NmOk.len : ∀ {es : List Expr} {is : List Nat}, NmOk X es is → es.length = is.length
  | _, _, .nil => rfl
  | _, _, .cons h h2 r => congrArg (· + 1) r.len
/-- targets one after another -/
def gSeq : List Tg → List D → Rho → Option Rho
  | [], [], r => some r
  | g :: gs, d :: ds, r => match g d r with
    | some r' => gSeq gs ds r'
    | none => none
  | _, _, _ => none
def gT (gs : List Tg) : Tg := fun d r => match d with
  | .tup ds => gSeq gs ds r
  | _ => none
def aGs (X : Cx) (ts : List Expr) : TGs := fun vs s H Q => ∃ t, PGs X ts t ∧ t vs s H Q
theorem pgs_all {ts : List Expr} : PGs X ts (aGs X ts) := ⟨fun pins s σ H v u Q I rv ⟨t, h, q⟩ => h.run pins s σ H v u Q I rv q⟩
def SndGs (X : Cx) (ts : List Expr) (gs : List Tg) (is : List Nat) : Prop := ∀ (Bs B Hs H : Hp) (s : L2.St) (r r' : Rho) (vs : List V) (ds : List D) (Q : L2.St → Hp → Prop), EnvOk X.K Bs B Hs H s r → RpAll X.K Hs vs ds → gSeq gs ds r = some r' → (∀ s' H', Alike is s s' → EnvOk X.K Bs B Hs H' s' r' → Q s' H') → aGs X ts vs s H Q
theorem sngs_nil : SndGs X [] [] [] := fun Bs B Hs H s r r' vs ds Q E hv e q => by
  cases ds with
  | nil => cases hv; cases e; exact ⟨_, pgs_nil, rfl, q _ _ (.refl _ _) E⟩
  | cons _ _ => cases e
theorem sngs_cons {t : Expr} {ts : List Expr} {g : Tg} {gs : List Tg} {is js : List Nat} (h : SndG X t g is) (hs : SndGs X ts gs js) (h2 : (assignEach (t :: ts) X.env).map (·.2) = assign t X.env :: (assignEach ts X.env).map (·.2) := by rfl) : SndGs X (t :: ts) (g :: gs) (is ++ js) := fun Bs B Hs H s r r' vs ds Q E hv e q => by
  cases hv with
  | nil => cases e
  | cons a b =>
    unfold gSeq at e
    split at e
    · rename_i r1 hr1
      exact ⟨_, pgs_cons pg_all pgs_all h2, _, _, rfl, h _ _ _ _ _ _ _ _ _ _ E a hr1 fun s1 H1 al E1 => hs _ _ _ _ _ _ _ _ _ _ E1 b e fun s2 H2 al2 E2 => q s2 H2 ((al.sub fun j hj => List.mem_append_left _ hj).trans (al2.sub fun j hj => List.mem_append_right _ hj)) E2⟩
    · cases e
theorem gSeq_len : ∀ {gs : List Tg} {ds : List D} {r r' : Rho}, gSeq gs ds r = some r' → ds.length = gs.length
  | [], [], _, _, _ => rfl
  | [], _ :: _, _, _, h => by cases h
  | _ :: _, [], _, _, h => by cases h
  | g :: gs, d :: ds, r, r', h => by
    unfold gSeq at h
    split at h
    · exact congrArg (· + 1) (gSeq_len h)
    · cases h
theorem sng_t {es : List Expr} {gs : List Tg} {is : List Nat} {k : Nat} (hc : X.calm = true) (h : SndGs X es gs is) (hn : (assignEach es X.env).length = gs.length := by rfl) (hst : (assignEach es X.env).findIdx? (·.1) = none := by rfl) : SndG X (.Tuple es k pos) (gT gs) is := fun Bs B Hs H s r r' v d Q E hv e q => by
  unfold gT at e
  split at e
  · rename_i ds
    have hl := gSeq_len e
    cases hv with
    | tup h1 h2 => exact ⟨_, pg_tup hc pgs_all hn hst, _, _, rfl, st_of (E.sub _ _ h1), by rw [h2.length]; exact hl, h _ _ _ _ _ _ _ _ _ _ E h2 e q⟩
  · cases e
end
section
variable {X : Cx} {W : WX} {z : Bool} {e : Expr} {pos : Pos} {st : Stmt} {sts : List Stmt}
theorem Kz.fold {s : L2.St} {is : List Nat} (h : z = true → 0 ∉ is) : ∀ {vs : List V}, Kz z s ((is.zip vs).foldl (fun s p => s.set p.1 (some p.2)) s) := by
  induction is generalizing s with
  | nil => exact Kz.refl _
  | cons i is ih =>
    intro vs
    cases vs with
    | nil => exact Kz.refl _
    | cons v vs => exact (Kz.set (fun e z => h e (by rw [z]; exact List.mem_cons_self))).trans (ih (s := s.set i (some v)) fun e z => h e (List.mem_cons_of_mem _ z))
theorem Alike.kz {is : List Nat} {s s' : L2.St} (al : Alike is s s') (h : z = true → 0 ∉ is) : Kz z s s' := fun e => by
  have := congrArg (·[0]?) (al is fun i hi => hi)
  rw [wipe_get _ 0 is (h e), wipe_get _ 0 is (h e)] at this
  exact this
/-! ### blocks -/
def sNil : Sv := fun r => .nx r
def sCons (a b : Sv) : Sv := fun r => (a r).then b
theorem sns_nil : SndSs X W z [] sNil := fun Bs B Hs H s r D E q => ⟨_, pss_nil, q.nx E⟩
theorem sns_cons {a b : Sv} (ha : SndS X W z st a) (hb : SndSs X W z sts b) : SndSs X W z (st :: sts) (sCons a b) := fun Bs B Hs H s r D E q =>
  ⟨_, pss_cons ps_all pss_all, ha Bs B Hs H s r _ E (PostS.then q fun r' s' Hs' H' _ e E' q' => hb Bs B Hs' H' s' r' D E' q')⟩
theorem sns_one {a : Sv} (ha : SndS X W z st a) : SndSs X W z [st] a := fun Bs B Hs H s r D E q => ⟨_, pss_one ps_all, ha Bs B Hs H s r D E q⟩
theorem sns_pass : SndS X W z (.Pass pos) sNil := fun Bs B Hs H s r D E q => ⟨_, ps_pass, q.nx E⟩
def sBk : Sv := fun r => .bk r
def sCt : Sv := fun r => .ct r
theorem sns_break : SndS X W z (.Break pos) sBk := fun Bs B Hs H s r D E q => ⟨_, ps_break, q s Hs H (Kz.refl _) (Ex.refl _) E⟩
theorem sns_continue : SndS X W z (.Continue pos) sCt := fun Bs B Hs H s r D E q => ⟨_, ps_continue, q s Hs H (Kz.refl _) (Ex.refl _) E⟩
def sDrop (ev : Ev Rv) : Sv := fun r => (ev r).toS fun _ r => .nx r
theorem sns_expr {ev : Ev Rv} (h : SndE X W e ev) (hs : swapsWith e none pos.line X.env = pure false := by rfl) : SndS X W z (.Expr e pos) (sDrop ev) := fun Bs B Hs H s r D E q =>
  ⟨_, ps_expr pe_all hs, h _ _ _ _ _ _ _ E (PostS.toS q fun x r' v Hs' H' e1 E1 ra q1 => q1.nx E1)⟩
def sRet (ev : Ev Rv) : Sv := fun r => (ev r).toS fun x r => .ret x r
theorem sns_ret {ev : Ev Rv} (h : SndE X W e ev) : SndS X W z (.Return (some e) pos) (sRet ev) := fun Bs B Hs H s r D E q =>
  ⟨_, ps_ret pe_all, h _ _ _ _ _ _ _ E (PostS.toS q fun x r' v Hs' H' e1 E1 ra q1 => q1 v s Hs' H' (Kz.refl _) (Ex.refl _) E1 ra)⟩
def sRetN : Sv := fun r => .ret (.val .non) r
theorem sns_retN : SndS X W z (.Return none pos) sRetN := fun Bs B Hs H s r D E q => ⟨_, ps_retN, q .non s Hs H (Kz.refl _) (Ex.refl _) E .non⟩
def sIf (t : Ev Bool) (a b : Sv) : Sv := fun r => (t r).toS fun k r => if k then a r else b r
theorem sns_if {c : Expr} {ba bb : List Stmt} {t : Ev Bool} {a b : Sv} (hc : SndT X W c t) (ha : SndSs X W z ba a) (hb : SndSs X W z bb b) : SndS X W z (.If c ba bb pos) (sIf t a b) := fun Bs B Hs H s r D E q =>
  ⟨_, ps_if pt_all pss_all pss_all, hc _ _ _ _ _ _ _ E (PostS.toS q fun k r' k' Hs' H' e1 E1 ra q1 => by
    have ra : k' = k := ra
    subst ra
    cases k' with
    | true => rw [if_pos rfl] at q1 ⊢; exact ha _ _ _ _ _ _ _ E1 q1
    | false => rw [if_neg Bool.false_ne_true] at q1 ⊢; exact hb _ _ _ _ _ _ _ E1 q1)⟩
/-! ### stores -/
def sSet (i : Nat) (ev : Ev Rv) : Sv := fun r => (ev r).toS fun x r => .nx (r.set i (cellOf x))
theorem sns_set {i : Nat} {x : Str} {pos' : Pos} {ev : Ev Rv} (h : SndE X W e ev) (hz : z = true → i ≠ 0) (hN : X.N.Nodup) (hi : X.N[i]? = some x) (hx : Loc X.env.scope x) (hs : swapsWith e (some (.Name x pos')) pos.line X.env = pure false := by rfl)
    (hf : X.fn x = true ∨ X.env.scope.names.lookup x = some .local := by first | exact .inl rfl | exact .inr rfl | assumption) : SndS X W z (.Assign [.Name x pos'] e pos) (sSet i ev) := fun Bs B Hs H s r D E q =>
  ⟨_, ps_set hN hi hx pe_all hs hf, h _ _ _ _ _ _ _ E (PostS.toS q fun x r' v Hs' H' e1 E1 ra q1 => q1.nx' (Kz.set hz) (E1.setRv ra i))⟩
/-- target = e, e as data -/
def sTgt (g : Tg) (ev : Ev Rv) : Sv := fun r => (ev r).toS fun x r => match g x.data r with
  | some r' => .nx r'
  | none => .stuck
theorem sns_tgt {tg : Expr} {g : Tg} {is : List Nat} {ev : Ev Rv} (h : SndE X W e ev) (hg : SndG X tg g is) (hz : z = true → 0 ∉ is) (hs : swapsWithSole [tg] e pos.line X.env = pure false := by rfl) (hw : swappedStores [tg] e X.env = pure none := by rfl)
    (h1 : (assignEach [tg] X.env).map (·.2) = [assign tg X.env] := by rfl) : SndS X W z (.Assign [tg] e pos) (sTgt g ev) := fun Bs B Hs H s r D E q =>
  ⟨_, ps_asg pe_all pg_all hs hw h1, h _ _ _ _ _ _ _ E (PostS.toS q fun x r' v Hs' H' e1 E1 ra q1 => by
    obtain ⟨Hs2, e2, E2, r2⟩ := RvAt.use E1 ra
    split at q1
    · rename_i r2' hg'
      exact hg _ _ _ _ _ _ _ _ _ _ E2 r2 hg' fun s' H3 al E3 => q1 s' Hs2 H3 (Alike.kz al hz) e2 E3
    · exact False.elim q1)⟩
/-! ### several expressions whose news stay apart -/
inductive RvAll (K : PySem.W.Frag) (Hs H : Hp) (s : L2.St) (r : Rho) : Hp → List V → List Rv → Prop
  | nil {B : Hp} : RvAll K Hs H s r B [] []
  | val {B : Hp} {v : V} {d : D} {vs : List V} {xs : List Rv} : Rp K Hs v d → RvAll K Hs H s r B vs xs → RvAll K Hs H s r B (v :: vs) (.val d :: xs)
  | new {B : Hp} {a : Addr} {o : Own} {u : HO} {vs : List V} {xs : List Rv} : Hs a = none → B a = none → H a = some u → OwnAt K Hs H a o → (∀ (i : Nat) oi, r[i]? = some (.own oi) → s[i]? ≠ some (some (.ref a))) → RvAll K Hs H s r (upd B a u) vs xs → RvAll K Hs H s r B (.ref a :: vs) (.new o :: xs)
def relL (K : PySem.W.Frag) (B : Hp) (s : L2.St) : Hp → Hp → Rho → List V → List Rv → Prop := fun Hs H r vs xs => RvAll K Hs H s r B vs xs
def SndL (X : Cx) (W : WX) (es : List Expr) (ev : Ev (List Rv)) : Prop := ∀ (Bs B Hs H : Hp) (s : L2.St) (r : Rho) (Q : List V → Hp → Prop), EnvOk X.K Bs B Hs H s r →
  PostE X.K W Bs B Hs s (relL X.K B s) Q (ev r) → aA X es s H Q
def lNil : Ev (List Rv) := fun r => .ok [] r
def lCons (ea : Ev Rv) (as : Ev (List Rv)) : Ev (List Rv) := fun r => (ea r).bind fun x r1 => (as r1).bind fun xs r2 => .ok (x :: xs) r2
theorem snl_nil : SndL X W [] lNil := fun Bs B Hs H s r Q E q => ⟨_, pa_nil, q.ok E .nil⟩
/-- an object of nobody's is taken for one of the surroundings' -/
theorem EnvOk.more {K : PySem.W.Frag} {Bs B Hs H : Hp} {s : L2.St} {r : Rho} (E : EnvOk K Bs B Hs H s r) {a : Addr} {u : HO} (hs : Hs a = none) (hH : H a = some u) (ap : ∀ (i : Nat) oi, r[i]? = some (.own oi) → s[i]? ≠ some (some (.ref a))) : EnvOk K Bs (upd B a u) Hs H s r := by
  have hbs : Bs a = none := fresh_back E.ext1 hs
  refine ⟨E.sub, E.ext1, fun b o h n => ?_, fun b o h => ?_, E.len, E.val, fun i o h => ?_, E.dis⟩
  · by_cases e : b = a
    · subst e; rw [upd_same] at h; cases h; exact ⟨hs, hH⟩
    · rw [upd_ne e] at h; exact E.ext2 b o h n
  · have e : b ≠ a := ne_of_none h hbs
    rw [upd_ne e]; exact E.ext3 b o h
  · obtain ⟨x, h1, h2, h3, h4⟩ := E.own i o h
    have e : x ≠ a := by rintro rfl; exact ap i o h h1
    exact ⟨x, h1, h2, by rw [upd_ne e]; exact h3, h4⟩
theorem EnvOk.less {K : PySem.W.Frag} {Bs B Hs H : Hp} {s : L2.St} {r : Rho} {a : Addr} {u : HO} (E : EnvOk K Bs (upd B a u) Hs H s r) (hB : B a = none) (hbs : Bs a = none) : EnvOk K Bs B Hs H s r := by
  refine ⟨E.sub, E.ext1, fun b o h n => ?_, fun b o h => ?_, E.len, E.val, fun i o h => ?_, E.dis⟩
  · have e : b ≠ a := ne_of_none h hB
    exact E.ext2 b o (by rw [upd_ne e]; exact h) n
  · have e : b ≠ a := ne_of_none h hbs
    have := E.ext3 b o h
    rw [upd_ne e] at this; exact this
  · obtain ⟨x, h1, h2, h3, h4⟩ := E.own i o h
    have e : x ≠ a := by rintro rfl; rw [upd_same] at h3; cases h3
    exact ⟨x, h1, h2, by rw [upd_ne e] at h3; exact h3, h4⟩
theorem snl_cons {es : List Expr} {ea : Ev Rv} {as : Ev (List Rv)} (ha : SndE X W e ea) (hs : SndL X W es as) (hst : starEach (e :: es) X.env = (false, eval e X.env) :: starEach es X.env := by rfl) : SndL X W (e :: es) (lCons ea as) := fun Bs B Hs H s r Q E q =>
  ⟨_, pa_cons pe_all pa_all hst, ha _ _ _ _ _ _ _ E (PostE.bind q fun x r1 v Hs1 H1 _ x1 E1 ra q1 => by
    cases x with
    | val d => exact hs _ _ _ _ _ _ _ E1 (PostE.bind q1 fun xs r2 vs Hs2 H2 _ x2 E2 rb q2 => q2.ok E2 (.val (Rp.mono x2 ra) rb))
    | new o =>
      obtain ⟨a, rfl, h1, h2, h3, h4⟩ := ra
      obtain ⟨u, hu⟩ := h3.here
      have hbs : Bs a = none := fresh_back E1.ext1 h1
      have key := hs Bs (upd B a u) Hs1 H1 s r1 (fun vs H' => Q (.ref a :: vs) H') (E1.more h1 hu h4)
      refine key ?_
      cases hm : as r1 with
      | stuck => rw [hm] at q1; exact q1
      | exc y r2 =>
        rw [hm] at q1
        exact fun c d Hs2 H2 e2 E2 => q1 c d Hs2 H2 e2 (E2.less h2 hbs)
      | ok xs r2 =>
        rw [hm] at q1
        intro vs Hs2 H2 e2 E2 rb
        obtain ⟨n2, k2⟩ := E2.ext2 a u upd_same hbs
        refine q1 (.ref a :: vs) Hs2 H2 e2 (E2.less h2 hbs) (.new n2 h2 k2 (h3.mono e2 (by rw [k2, hu])) (fun i oi hi z => ?_) rb)
        obtain ⟨y, g1, g2, g3, g4⟩ := E2.own i oi hi
        rw [g1] at z; cases z
        rw [upd_same] at g3; cases g3)⟩
def sPar (is : List Nat) (la : Ev (List Rv)) : Sv := fun r => (la r).toS fun xs r => if xs.length = is.length then .nx ((is.zip xs).foldl (fun r p => r.set p.1 (cellOf p.2)) r) else .stuck
/-- storing one after another, the later news being of the surroundings -/
theorem RvAll.mono {K : PySem.W.Frag} {Hs H : Hp} {s s' : L2.St} {r r' : Rho} : ∀ {B : Hp} {vs : List V} {xs : List Rv}, (∀ (a : Addr), B a = none → (∀ (i : Nat) oi, r[i]? = some (.own oi) → s[i]? ≠ some (some (.ref a))) → ∀ (i : Nat) oi, r'[i]? = some (.own oi) → s'[i]? ≠ some (some (.ref a))) → RvAll K Hs H s r B vs xs → RvAll K Hs H s' r' B vs xs
  | _, _, _, _, .nil => .nil
  | _, _, _, k, .val a b => .val a (b.mono k)
  | B, _, _, k, .new (a := a) (u := u) h1 h2 h3 h4 h5 b => .new h1 h2 h3 h4 (k a h2 h5) (b.mono fun c hc h => k c (by
      by_cases e : c = a
      · subst e; rw [upd_same] at hc; cases hc
      · rw [upd_ne e] at hc; exact hc) h)
theorem RvAll.setAll {K : PySem.W.Frag} {Bs Hs H : Hp} : ∀ {is : List Nat} {vs : List V} {xs : List Rv} {B : Hp} {s : L2.St} {r : Rho}, EnvOk K Bs B Hs H s r → RvAll K Hs H s r B vs xs → xs.length = is.length →
    EnvOk K Bs B Hs H ((is.zip vs).foldl (fun s p => s.set p.1 (some p.2)) s) ((is.zip xs).foldl (fun r p => r.set p.1 (cellOf p.2)) r)
  | [], _, _, _, _, _, E, .nil, _ => E
  | [], _, _, _, _, _, _, .val _ _, h => by simp at h
  | [], _, _, _, _, _, _, .new _ _ _ _ _ _, h => by simp at h
  | _ :: _, _, _, _, _, _, _, .nil, h => by simp at h
  | i :: is, _, _, B, s, r, E, .val (v := v) (d := d) a b, h => by
    have E1 := E.setRv (x := .val d) a i
    refine RvAll.setAll (is := is) E1 (b.mono fun c hc ap j oj hj z => ?_) (by simpa using h)
    by_cases e : i = j
    · subst e
      simp only [cellOf] at hj
      rw [List.getElem?_set, if_pos rfl] at hj
      split at hj <;> cases hj
    · rw [List.getElem?_set, if_neg e] at hj z
      exact ap j oj hj z
  | i :: is, _, _, B, s, r, E, .new (a := a) (o := o) (u := u) (vs := vs) (xs := xs) h1 h2 h3 h4 h5 b, h => by
    have hbs : Bs a = none := fresh_back E.ext1 h1
    -- first the later ones, a being of the surroundings; told by storing a first
    have E1 := E.setRv (x := .new o) ⟨a, rfl, h1, h2, h4, h5⟩ i
    refine RvAll.setAll (is := is) E1 ?_ (by simpa using h)
    have low : ∀ {B' : Hp} {vs : List V} {xs : List Rv}, (∀ c, B' c = none → B c = none ∧ c ≠ a) → RvAll K Hs H s r B' vs xs → RvAll K Hs H (s.set i (some (.ref a))) (r.set i (cellOf (.new o))) B' vs xs := fun {B' vs xs} hb' b' => b'.mono fun c hc ap j oj hj z => by
      by_cases e : i = j
      · subst e
        have hlt : i < s.length := by
          by_cases hl : i < s.length
          · exact hl
          · rw [List.getElem?_set, if_pos rfl, if_neg hl] at z; cases z
        rw [List.getElem?_set, if_pos rfl, if_pos hlt] at z
        cases z
        exact (hb' _ hc).2 rfl
      · rw [List.getElem?_set, if_neg e] at hj z
        exact ap j oj hj z
    have b1 := low (fun c hc => by
      by_cases e : c = a
      · subst e; rw [upd_same] at hc; cases hc
      · rw [upd_ne e] at hc; exact ⟨hc, e⟩) b
    -- from upd B a u down to B
    have down : ∀ {B1 B2 : Hp} {vs : List V} {xs : List Rv} {s' : L2.St} {r' : Rho}, (∀ c, B1 c = none → B2 c = none) → RvAll K Hs H s' r' B1 vs xs → RvAll K Hs H s' r' B2 vs xs := by
      intro B1 B2 vs xs s' r' hb hh
      induction hh generalizing B2 with
      | nil => exact .nil
      | val a b ih => exact .val a (ih hb)
      | new g1 g2 g3 g4 g5 b ih =>
        rename_i B1' a' o' u' vs' xs'
        refine .new g1 (hb _ g2) g3 g4 g5 (ih fun c hc => ?_)
        by_cases e : c = a'
        · subst e; rw [upd_same] at hc; cases hc
        · rw [upd_ne e] at hc ⊢; exact hb c hc
    exact down (fun c hc => by
      by_cases e : c = a
      · subst e; rw [upd_same] at hc; cases hc
      · rw [upd_ne e] at hc; exact hc) b1
theorem sns_par2 {i j : Nat} {x y : Str} {a b : Expr} {px py pt : Pos} {kt k2 pt2} {la : Ev (List Rv)} (hl : SndL X W [a, b] la) (hz0 : z = true → 0 ∉ [i, j]) (hc : X.calm = true) (hN : X.N.Nodup) (hi : X.N[i]? = some x) (hj : X.N[j]? = some y) (hij : i ≠ j)
    (hx : X.env.scope.names.lookup x = some .local) (hy : X.env.scope.names.lookup y = some .local) (hw : swappedStores [.Tuple [.Name x px, .Name y py] kt pt] (.Tuple [a, b] k2 pt2) X.env = pure (some [x, y]))
    (hs : swapsWithSole [.Tuple [.Name x px, .Name y py] kt pt] (.Tuple [a, b] k2 pt2) pos.line X.env = pure false := by rfl) :
    SndS X W z (.Assign [.Tuple [.Name x px, .Name y py] kt pt] (.Tuple [a, b] k2 pt2) pos) (sPar [i, j] la) := fun Bs B Hs H s r D E q =>
  ⟨_, ps_par hc hN hi hj hij hx hy pa_all hw hs, hl _ _ _ _ _ _ _ E (PostS.toS q fun xs r' vs Hs' H' e1 E1 ra q1 => by
    have ra : RvAll X.K Hs' H' s r' B vs xs := ra
    split at q1
    · rename_i hlen
      have E2 := RvAll.setAll (is := [i, j]) E1 ra hlen
      have hv : ∃ v w, vs = [v, w] := by
        match xs, hlen, ra with
        | [_, _], _, ra => cases ra <;> (rename_i ra; cases ra <;> (rename_i ra; cases ra; exact ⟨_, _, rfl⟩))
      obtain ⟨v, w, rfl⟩ := hv
      exact ⟨v, w, rfl, q1.nx' (Kz.fold (is := [i, j]) (vs := [v, w]) hz0) E2⟩
    · exact False.elim q1)⟩
theorem sns_par3 {i j l : Nat} {x y y3 : Str} {a b c : Expr} {px py pz pt : Pos} {kt k2 pt2} {la : Ev (List Rv)} (ha : SndL X W [a, b, c] la) (hz0 : z = true → 0 ∉ [i, j, l]) (hc : X.calm = true) (hN : X.N.Nodup) (hi : X.N[i]? = some x) (hj : X.N[j]? = some y) (hl : X.N[l]? = some y3) (hij : i ≠ j) (hil : i ≠ l) (hjl : j ≠ l)
    (hx : X.env.scope.names.lookup x = some .local) (hy : X.env.scope.names.lookup y = some .local) (hz : X.env.scope.names.lookup y3 = some .local)
    (hw : swappedStores [.Tuple [.Name x px, .Name y py, .Name y3 pz] kt pt] (.Tuple [a, b, c] k2 pt2) X.env = pure (some [x, y, y3]))
    (hs : swapsWithSole [.Tuple [.Name x px, .Name y py, .Name y3 pz] kt pt] (.Tuple [a, b, c] k2 pt2) pos.line X.env = pure false := by rfl) :
    SndS X W z (.Assign [.Tuple [.Name x px, .Name y py, .Name y3 pz] kt pt] (.Tuple [a, b, c] k2 pt2) pos) (sPar [i, j, l] la) := fun Bs B Hs H s r D E q =>
  ⟨_, ps_par3 hc hN hi hj hl hij hil hjl hx hy hz pa_all hw hs, ha _ _ _ _ _ _ _ E (PostS.toS q fun xs r' vs Hs' H' e1 E1 ra q1 => by
    have ra : RvAll X.K Hs' H' s r' B vs xs := ra
    split at q1
    · rename_i hlen
      have E2 := RvAll.setAll (is := [i, j, l]) E1 ra hlen
      have hv : ∃ u v w, vs = [u, v, w] := by
        match xs, hlen, ra with
        | [_, _, _], _, ra => cases ra <;> (rename_i ra; cases ra <;> (rename_i ra; cases ra <;> (rename_i ra; cases ra; exact ⟨_, _, _, rfl⟩)))
      obtain ⟨u, v, w, rfl⟩ := hv
      exact ⟨u, v, w, rfl, q1.nx' (Kz.fold (is := [i, j, l]) (vs := [u, v, w]) hz0) E2⟩
    · exact False.elim q1)⟩
theorem gNs_fold {H : Hp} {Q : L2.St → Hp → Prop} : ∀ {is : List Nat} {vs : List V} {s : L2.St}, vs.length = is.length → Q ((is.zip vs).foldl (fun s p => s.set p.1 (some p.2)) s) H → gNs is vs s H Q
  | [], [], _, _, q => ⟨rfl, q⟩
  | [], _ :: _, _, h, _ => by simp at h
  | _ :: _, [], _, h, _ => by simp at h
  | i :: is, v :: vs, s, h, q => ⟨v, vs, rfl, gNs_fold (is := is) (by simpa using h) q⟩
theorem RvAll.lenV {K : PySem.W.Frag} {Hs H : Hp} {s : L2.St} {r : Rho} {B : Hp} {vs : List V} {xs : List Rv} (h : RvAll K Hs H s r B vs xs) : vs.length = xs.length := by
  induction h with
  | nil => rfl
  | val _ _ ih => exact congrArg (· + 1) ih
  | new _ _ _ _ _ _ ih => exact congrArg (· + 1) ih
/-- a new object that nobody shares, kept out of sight -/
theorem RvAll.step {K : PySem.W.Frag} {Hs H H' : Hp} {s : L2.St} {r : Rho} (ex : Ex H H') {B : Hp} {vs : List V} {xs : List Rv} (h : RvAll K Hs H s r B vs xs) : RvAll K Hs H' s r B vs xs := by
  induction h with
  | nil => exact .nil
  | val a _ ih => exact .val a ih
  | new h1 h2 h3 h4 h5 _ ih => exact .new h1 h2 (ex _ _ h3) (h4.mono (Ex.refl _) (by rw [ex _ _ h3, h3])) h5 ih
/-- the same through a tuple: for names that comprehensions capture -/
theorem sns_parT {es ts : List Expr} {is : List Nat} {pt : Pos} {kt k2 pt2} {la : Ev (List Rv)} (ha : SndL X W es la) (hz0 : z = true → 0 ∉ is) (hc : X.calm = true) (h : NmOk X ts is) (hn : (assignEach ts X.env).length = is.length := by rfl) (hst : (assignEach ts X.env).findIdx? (·.1) = none := by rfl)
    (hz : is.length ≤ sizeLine := by (try simp only [List.length_cons, List.length_nil]); rw [sizeLine_eq]; decide)
    (hs : swapsWithSole [.Tuple ts kt pt] (.Tuple es k2 pt2) pos.line X.env = pure false := by rfl) (hw : swappedStores [.Tuple ts kt pt] (.Tuple es k2 pt2) X.env = pure none := by rfl)
    (h1 : (assignEach [.Tuple ts kt pt] X.env).map (·.2) = [assign (.Tuple ts kt pt) X.env] := by rfl) : SndS X W z (.Assign [.Tuple ts kt pt] (.Tuple es k2 pt2) pos) (sPar is la) := fun Bs B Hs H s r D E q =>
  ⟨_, ps_asg (pe_tup pa_all) (pg_tup hc h.pgs hn hst) hs hw h1, ha _ _ _ _ _ _ _ E (PostS.toS q fun xs r' vs Hs' H' e1 E1 ra q1 => by
    have ra : RvAll X.K Hs' H' s r' B vs xs := ra
    split at q1
    · rename_i hlen
      have lv := ra.lenV
      refine ⟨by omega, fun p hp => ⟨p, vs, rfl, st_of upd_same, by omega, ?_⟩⟩
      have E2 := E1.step (Step.newO (o := .tup vs) E1.sub hp)
      have ra2 := ra.step (H' := upd H' p (.tup vs)) (Ex.new hp)
      exact gNs_fold (by omega) (q1.nx' (Kz.fold hz0) (RvAll.setAll (is := is) E2 ra2 hlen))
    · exact False.elim q1)⟩
end
end Mp
set_option Elab.async false
set_option linter.all false
set_option maxRecDepth 100000
namespace Mp
open PySem L2 Evl
/-! ### what is walked -/
/-- J walks the data ds, wherever what is shared now is shared -/
def Wk (K : PySem.W.Frag) (Hb : Hp) (J : It) (ds : List D) : Prop := ∀ Hs H : Hp, Ex Hb Hs → Ex Hs H →
  (∀ (i : Nat) d, ds[i]? = some d → J.go i H ∧ ∀ x H', J.yld i H x H' → ∃ Hs', Step Hs H Hs' H' ∧ Rp K Hs' x d) ∧ J.stop ds.length H
def aI (X : Cx) (tg iter : Expr) : TI := fun s H R => ∃ t, PI X tg iter t ∧ t s H R
theorem pi_all {X : Cx} {tg iter : Expr} : PI X tg iter (aI X tg iter) := ⟨fun pins s σ H R I ⟨t, h, q⟩ => h.run pins s σ H R I q⟩
def relI (K : PySem.W.Frag) : Hp → Hp → Rho → It → List D → Prop := fun Hs _ _ J ds => Wk K Hs J ds
def SndI (X : Cx) (W : WX) (tg iter : Expr) (it : Ev (List D)) : Prop := ∀ (Bs B Hs H : Hp) (s : St) (r : Rho) (R : It → Hp → Prop), EnvOk X.K Bs B Hs H s r →
  PostE X.K W Bs B Hs s (relI X.K) R (it r) → aI X tg iter s H R
section
variable {X : Cx} {W : WX} {tg e a b : Expr} {pos : Pos}
theorem wk_list {K : PySem.W.Frag} {Hb : Hp} {a : Addr} {vs : List V} {ds : List D} (h : Hb a = some (.lst vs)) (r : RpAll K Hb vs ds) : Wk K Hb (Itl K a) ds := fun Hs H e1 e2 => by
  have hl : H a = some (.lst vs) := e2 _ _ (e1 _ _ h)
  refine ⟨fun i d hd => ?_, ⟨vs, sq_of hl, by rw [r.length]; exact Nat.le_refl _⟩⟩
  obtain ⟨v, hv, rv⟩ := r.get hd
  refine ⟨⟨vs, v, sq_of hl, hv⟩, fun x H' ⟨e, hx⟩ => ?_⟩
  subst e
  have := hx vs (sq_of hl)
  rw [hv] at this; cases this
  exact ⟨Hs, Step.refl e2, rv.mono e1⟩
theorem wk_tup {K : PySem.W.Frag} {Hb : Hp} {a : Addr} {vs : List V} {ds : List D} (h : Hb a = some (.tup vs)) (r : RpAll K Hb vs ds) : Wk K Hb (Itt K a) ds := fun Hs H e1 e2 => by
  have hl : H a = some (.tup vs) := e2 _ _ (e1 _ _ h)
  refine ⟨fun i d hd => ?_, ⟨vs, st_of hl, by rw [r.length]; exact Nat.le_refl _⟩⟩
  obtain ⟨v, hv, rv⟩ := r.get hd
  refine ⟨⟨vs, v, st_of hl, hv⟩, fun x H' ⟨e, hx⟩ => ?_⟩
  subst e
  have := hx vs (st_of hl)
  rw [hv] at this; cases this
  exact ⟨Hs, Step.refl e2, rv.mono e1⟩
/-- signs of a text, as texts -/
def signs (x : Str) : List D := x.cps.toList.map fun c => .str ⟨#[c]⟩
theorem wk_str {K : PySem.W.Frag} {Hb : Hp} {x : Str} : Wk K Hb (Its x) (signs x) := fun Hs H e1 e2 => by
  refine ⟨fun i d hd => ?_, ?_⟩
  · unfold signs at hd
    rw [List.getElem?_map] at hd
    cases hc : x.cps.toList[i]? with
    | none => rw [hc] at hd; cases hd
    | some c =>
      rw [hc] at hd; cases hd
      have hc' : x.cps[i]? = some c := by simpa using hc
      have hi : i < x.cps.size := (Array.getElem?_eq_some_iff.mp hc').1
      refine ⟨hi, fun y H' ⟨e, c', h1, h2⟩ => ?_⟩
      subst e
      rw [hc'] at h1; cases h1; subst h2
      exact ⟨Hs, Step.refl e2, .str _⟩
  · show x.cps.size ≤ (signs x).length
    unfold signs; simp
/-- lists, tuples, texts -/
def iSeq (ev : Ev Rv) : Ev (List D) := fun r => (ev r).bind fun x r => match x.data with
  | .lst ds => .ok ds r
  | .tup ds => .ok ds r
  | .str z => .ok (signs z) r
  | _ => .stuck
theorem sni_seq {ev : Ev Rv} (h : SndE X W e ev) : SndI X W tg e (iSeq ev) := fun Bs B Hs H s r R E q => by
  unfold iSeq at q
  cases hm : ev r with
  | stuck => rw [hm] at q; exact False.elim q
  | exc y r1 =>
    refine ⟨_, pi_list pe_all, h _ _ _ _ _ _ _ E ?_⟩
    rw [hm] at q ⊢; exact q
  | ok x r1 =>
    rw [hm] at q
    have q' : PostE X.K W Bs B Hs s (relI X.K) R (match x.data with
      | .lst ds => .ok ds r1
      | .tup ds => .ok ds r1
      | .str z => .ok (signs z) r1
      | _ => .stuck) := q
    split at q'
    · rename_i ds hx
      refine ⟨_, pi_list pe_all, h _ _ _ _ _ _ _ E ?_⟩
      rw [hm]
      intro v Hs' H' e1 E1 ra
      obtain ⟨Hs2, e2, E2, r2⟩ := RvAt.use E1 ra
      rw [hx] at r2
      cases r2 with
      | lst h1 h2 => exact ⟨_, rfl, ⟨_, sq_of (E2.sub _ _ h1)⟩, q' _ Hs2 H' (e1.trans e2) E2 (wk_list h1 h2)⟩
    · rename_i ds hx
      refine ⟨_, pi_tup pe_all, h _ _ _ _ _ _ _ E ?_⟩
      rw [hm]
      intro v Hs' H' e1 E1 ra
      obtain ⟨Hs2, e2, E2, r2⟩ := RvAt.use E1 ra
      rw [hx] at r2
      cases r2 with
      | tup h1 h2 => exact ⟨_, rfl, ⟨_, st_of (E2.sub _ _ h1)⟩, q' _ Hs2 H' (e1.trans e2) E2 (wk_tup h1 h2)⟩
    · rename_i z hx
      refine ⟨_, pi_str pe_all, h _ _ _ _ _ _ _ E ?_⟩
      rw [hm]
      intro v Hs' H' e1 E1 ra
      obtain ⟨Hs2, e2, E2, r2⟩ := RvAt.use E1 ra
      rw [hx] at r2
      cases r2
      exact ⟨_, rfl, q' _ Hs2 H' (e1.trans e2) E2 wk_str⟩
    · exact False.elim q'
/-- lo, lo + 1, .. -/
def rangeD (lo : Int) (n : Nat) : List D := (List.range n).map fun i => .int (lo + (i : Nat))
theorem wk_range {K : PySem.W.Frag} {Hb : Hp} {lo : Int} {n : Nat} : Wk K Hb (Itr lo n) (rangeD lo n) := fun Hs H e1 e2 => by
  refine ⟨fun i d hd => ?_, ?_⟩
  · unfold rangeD at hd
    rw [List.getElem?_map] at hd
    cases hc : (List.range n)[i]? with
    | none => rw [hc] at hd; cases hd
    | some c =>
      rw [hc] at hd; cases hd
      obtain ⟨hi, hc⟩ := List.getElem?_eq_some_iff.mp hc
      rw [List.getElem_range] at hc
      subst hc
      rw [List.length_range] at hi
      refine ⟨hi, fun y H' ⟨e, h2⟩ => ?_⟩
      subst e; subst h2
      exact ⟨Hs, Step.refl e2, .int _⟩
  · show n ≤ (rangeD lo n).length
    unfold rangeD; simp
def okR (j : Int) : Bool := decide (-4611686018427387904 ≤ j) && decide (j < 4611686018427387904)
def iRange1 (oa : Ev Src) : Ev (List D) := fun r => (oa r).bind fun x r => match x.rd r with
  | some (.int j) => if okR j then .ok (rangeD 0 j.toNat) r else .stuck
  | _ => .stuck
theorem sni_range1 {oa : Ev Src} {p : Pos} (ha : SndO X W a oa) (hg : Gl X "range") (hm : X.mg "range" = none) (hs : starEach [a] X.env = [(false, eval a X.env)] := by rfl) (hst : starEach [a] X.env = (false, eval a X.env) :: starEach [] X.env := by rfl) : SndI X W tg (.Call (.Name "range" p) [a] [] pos) (iRange1 oa) := fun Bs B Hs H s r R E q =>
  ⟨_, pi_range1 hg hm (pa_cons pe_all pa_nil hst) hs, ha _ _ _ _ _ _ _ E (PostE.bind q fun x r1 v Hs1 H1 _ x1 E1 ra q1 => by
    split at q1
    · rename_i j hj
      split at q1
      · rename_i hz
        simp only [okR, Bool.and_eq_true, decide_eq_true_eq] at hz
        rw [(Src.opd E1 ra hj).int]
        exact ⟨j, rfl, hz.1, hz.2, q1.ok E1 wk_range⟩
      · exact False.elim q1
    · exact False.elim q1)⟩
def iRange2 (oa ob : Ev Src) : Ev (List D) := fun r => (oa r).bind fun x r => (ob r).bind fun y r => match x.rd r, y.rd r with
  | some (.int i), some (.int j) => if okR i && okR j then .ok (rangeD i (j - i).toNat) r else .stuck
  | _, _ => .stuck
theorem sni_range2 {oa ob : Ev Src} {p : Pos} (ha : SndO X W a oa) (hb : SndO X W b ob) (hg : Gl X "range") (hm : X.mg "range" = none) (hs : starEach [a, b] X.env = [(false, eval a X.env), (false, eval b X.env)] := by rfl) (hs2 : starEach [b] X.env = [(false, eval b X.env)] := by rfl)
    (hst : starEach [a, b] X.env = (false, eval a X.env) :: starEach [b] X.env := by rfl) (hst2 : starEach [b] X.env = (false, eval b X.env) :: starEach [] X.env := by rfl) : SndI X W tg (.Call (.Name "range" p) [a, b] [] pos) (iRange2 oa ob) := fun Bs B Hs H s r R E q =>
  ⟨_, pi_range2 hg hm (pa_cons pe_all (pa_cons pe_all pa_nil hst2) hst) hs hs2, ha _ _ _ _ _ _ _ E (PostE.bind q fun x r1 v Hs1 H1 _ x1 E1 ra q1 => hb _ _ _ _ _ _ _ E1 (PostE.bind q1 fun y r2 u Hs2 H2 _ x2 E2 rb q2 => by
    split at q2
    · rename_i i j hi hj
      split at q2
      · rename_i hz
        simp only [okR, Bool.and_eq_true, decide_eq_true_eq] at hz
        rw [(Src.opd E2 (SrcAt.mono x2 ra) hi).int, (Src.opd E2 rb hj).int]
        exact ⟨i, j, rfl, ⟨hz.1.1, hz.1.2, hz.2.1, hz.2.2⟩, q2.ok E2 wk_range⟩
      · exact False.elim q2
    · exact False.elim q2))⟩
/-- enumerate of a list -/
def enumD (ds : List D) : List D := ds.zipIdx.map fun p => .tup [.int (p.2 : Nat), p.1]
theorem wk_enum {K : PySem.W.Frag} {Hb : Hp} {a : Addr} {vs : List V} {ds : List D} (h : Hb a = some (.lst vs)) (r : RpAll K Hb vs ds) : Wk K Hb (Ite K a) (enumD ds) := fun Hs H e1 e2 => by
  have hl : H a = some (.lst vs) := e2 _ _ (e1 _ _ h)
  refine ⟨fun i d hd => ?_, ⟨vs, sq_of hl, by unfold enumD; rw [List.length_map, List.length_zipIdx, r.length]; exact Nat.le_refl _⟩⟩
  unfold enumD at hd
  rw [List.getElem?_map, List.getElem?_zipIdx] at hd
  cases hc : ds[i]? with
  | none => rw [hc] at hd; cases hd
  | some y =>
    rw [hc] at hd; simp at hd; subst hd
    obtain ⟨v, hv, rv⟩ := r.get hc
    refine ⟨⟨vs, v, sq_of hl, hv⟩, fun x H' ⟨T, z, e, hT, e3, hx⟩ => ?_⟩
    subst e; subst e3
    have := hx vs (sq_of hl)
    rw [hv] at this; cases this
    have hTs : Hs T = none := fresh_back e2 hT
    refine ⟨upd Hs T _, Step.new e2 hT, .tup upd_same (.cons (.int _) (.cons (rv.mono (e1.trans (Ex.new hTs))) .nil))⟩
def iEnumE (ev : Ev Rv) : Ev (List D) := fun r => (ev r).bind fun x r => match x.data with
  | .lst ds => .ok (enumD ds) r
  | _ => .stuck
theorem sni_enum {ev : Ev Rv} {p tpos : Pos} {elts : List Expr} {kk : Nat} (h : SndE X W e ev) (hg : Gl X "enumerate") (hm : X.mg "enumerate" = none) (hs : starEach [e] X.env = [(false, eval e X.env)] := by rfl) (hst : starEach [e] X.env = (false, eval e X.env) :: starEach [] X.env := by rfl) :
    SndI X W (.Tuple elts kk tpos) (.Call (.Name "enumerate" p) [e] [] pos) (iEnumE ev) := fun Bs B Hs H s r R E q =>
  ⟨_, pi_enum hg hm (pa_cons pe_all pa_nil hst) hs, h _ _ _ _ _ _ _ E (PostE.bind q fun x r1 v Hs1 H1 _ x1 E1 ra q1 => by
    obtain ⟨Hs2, e2, E2, r2⟩ := RvAt.use E1 ra
    split at q1
    · rename_i ds hx
      rw [hx] at r2
      cases r2 with
      | lst h1 h2 => exact ⟨_, _, rfl, sq_of (E2.sub _ _ h1), q1 _ Hs2 H1 e2 E2 (wk_enum h1 h2)⟩
    · exact False.elim q1)⟩
/-! ### for -/
def forL (g : Tg) (body : Sv) : List D → Rho → SO
  | [], r => .nx r
  | d :: ds, r => match g d r with
    | none => .stuck
    | some r1 => match body r1 with
      | .nx r2 => forL g body ds r2
      | .ct r2 => forL g body ds r2
      | .bk r2 => .nx r2
      | o => o
def sFor (it : Ev (List D)) (g : Tg) (body : Sv) : Sv := fun r => (it r).toS fun ds r => forL g body ds r
theorem sns_for {z : Bool} {iter : Expr} {is : List Nat} {sts : List Stmt} {it : Ev (List D)} {g : Tg} {body : Sv} (hp : PassesOwn (model X.prog X.w) X.A X.env X.xe) (hc : X.calm = true) (hi : SndI X W tg iter it) (hg : SndG X tg g is) (hz : z = true → 0 ∉ is) (hb : SndSs X W z sts body) (hs : ∀ x, foldedSetIterable iter X.env x = pure x := by intro _; rfl) : SndS X W z (.For tg iter sts [] pos) (sFor it g body) := fun Bs B Hs H s r D E q =>
  ⟨_, ps_for (hs := hs) hp hc pi_all pg_all pss_all, hi _ _ _ _ _ _ _ E (PostS.toS q fun ds r1 J Hs1 H1 e1 E1 wk q1 => by
    have wk : Wk X.K Hs1 J ds := wk
    refine ⟨fun i m σ H => m = ds.length - i ∧ i ≤ ds.length ∧ ∃ Hs r, Ex Hs1 Hs ∧ EnvOk X.K Bs B Hs H σ r ∧ PostS X.K W z Bs B Hs σ D (forL g body (ds.drop i) r), ⟨ds.length, rfl, Nat.zero_le _, Hs1, r1, Ex.refl _, E1, by rw [List.drop_zero]; exact q1⟩, ?_⟩
    rintro i m σ2 H2 ⟨rfl, hi2, Hs2, r2, e2, E2, q2⟩
    by_cases hlt : i < ds.length
    · obtain ⟨d, hd⟩ : ∃ d, ds[i]? = some d := ⟨_, List.getElem?_eq_getElem hlt⟩
      have hdrop : ds.drop i = d :: ds.drop (i + 1) := by
        rw [List.drop_eq_getElem_cons hlt]
        have := List.getElem?_eq_getElem hlt
        rw [hd] at this
        rw [Option.some.inj this]
      obtain ⟨g1, g2⟩ := (wk Hs2 H2 e2 E2.sub).1 i d hd
      refine .inr ⟨g1, fun σ' H' => ∃ Hs r, Ex Hs1 Hs ∧ EnvOk X.K Bs B Hs H' σ' r ∧ PostS X.K W z Bs B Hs σ' D (forL g body (ds.drop (i + 1)) r), fun σ' H' ⟨Hs, r, h1, h2, h3⟩ => ⟨ds.length - (i + 1), by omega, rfl, by omega, Hs, r, h1, h2, h3⟩, fun x H' hy => ?_⟩
      obtain ⟨Hs3, st, rx⟩ := g2 x H' hy
      have E3 := E2.step st
      rw [hdrop] at q2
      unfold forL at q2
      split at q2
      · exact False.elim q2
      · rename_i r3 hr3
        refine hg _ _ _ _ _ _ _ _ _ _ E3 rx hr3 fun s4 H4 al4 E4 => ?_
        refine hb _ _ _ _ _ _ _ E4 ?_
        have e3 : Ex Hs1 Hs3 := e2.trans st.sh
        have q3 := PostS.on (al4.kz hz) (PostS.mono st.sh q2)
        cases hbd : body r3 with
        | stuck => rw [hbd] at q3; exact q3
        | nx r4 =>
          rw [hbd] at q3
          exact fun s5 Hs5 H5 k5 e5 E5 => ⟨Hs5, r4, e3.trans e5, E5, (q3.mono e5).on k5⟩
        | ct r4 =>
          rw [hbd] at q3
          exact fun s5 Hs5 H5 k5 e5 E5 => ⟨Hs5, r4, e3.trans e5, E5, (q3.mono e5).on k5⟩
        | bk r4 => rw [hbd] at q3; exact q3
        | ret x r4 => rw [hbd] at q3; exact q3
        | exc x r4 => rw [hbd] at q3; exact q3
    · have hi' : i = ds.length := by omega
      subst hi'
      rw [List.drop_length] at q2
      exact .inl ⟨(wk Hs2 H2 e2 E2.sub).2, q2.nx E2⟩)⟩
/-! ### while -/
def whl (t : Ev Bool) (body : Sv) : Nat → Rho → SO
  | 0, _ => .stuck
  | n + 1, r => (t r).toS fun k r1 => if k then (match body r1 with
      | .nx r2 => whl t body n r2
      | .ct r2 => whl t body n r2
      | .bk r2 => .nx r2
      | o => o) else .nx r1
theorem sns_while {z : Bool} {c : Expr} {sts : List Stmt} {t : Ev Bool} {body : Sv} (n : Nat) (hp : PassesOwn (model X.prog X.w) X.A X.env X.xe) (hc : SndT X W c t) (hb : SndSs X W z sts body) : SndS X W z (.While c sts [] pos) (whl t body n) := fun Bs B Hs H s r D E q =>
  ⟨_, ps_while hp pt_all pss_all, fun m σ H => ∃ Hs r, EnvOk X.K Bs B Hs H σ r ∧ PostS X.K W z Bs B Hs σ D (whl t body m r), ⟨n, Hs, r, E, q⟩, by
    rintro m σ2 H2 ⟨Hs2, r2, E2, q2⟩
    cases m with
    | zero => exact False.elim q2
    | succ m =>
      unfold whl at q2
      refine hc _ _ _ _ _ _ _ E2 (PostS.toS q2 fun k r3 k' Hs3 H3 e3 E3 ra q3 => ?_)
      have ra : k' = k := ra
      subst ra
      cases k' with
      | false => rw [if_neg Bool.false_ne_true] at q3 ⊢; exact q3.nx E3
      | true =>
        rw [if_pos rfl] at q3 ⊢
        refine ⟨fun σ' H' => ∃ Hs r, EnvOk X.K Bs B Hs H' σ' r ∧ PostS X.K W z Bs B Hs σ' D (whl t body m r), fun σ' H' ⟨Hs, r, h1, h2⟩ => ⟨m, by omega, Hs, r, h1, h2⟩, hb _ _ _ _ _ _ _ E3 ?_⟩
        cases hbd : body r3 with
        | stuck => rw [hbd] at q3; exact q3
        | nx r4 => rw [hbd] at q3; exact fun s5 Hs5 H5 k5 e5 E5 => ⟨Hs5, r4, E5, (q3.mono e5).on k5⟩
        | ct r4 => rw [hbd] at q3; exact fun s5 Hs5 H5 k5 e5 E5 => ⟨Hs5, r4, E5, (q3.mono e5).on k5⟩
        | bk r4 => rw [hbd] at q3; exact q3
        | ret x r4 => rw [hbd] at q3; exact q3
        | exc x r4 => rw [hbd] at q3; exact q3⟩
/-! ### [elt for tg in iter if cond] -/
def wipeR (r : Rho) : List Nat → Rho
  | [] => r
  | v :: vs => (wipeR r vs).set v .un
def keepVal (r0 : Rho) (v : Nat) : Cell := match r0[v]? with
  | some (.val d) => .val d
  | _ => .un
def restore (r0 r : Rho) : List Nat → Rho
  | [] => r
  | v :: vs => (restore r0 r vs).set v (keepVal r0 v)
theorem EnvOk.setUn {K : PySem.W.Frag} {Bs B Hs H : Hp} {s : St} {r : Rho} (E : EnvOk K Bs B Hs H s r) (i : Nat) (x : Option V) : EnvOk K Bs B Hs H (s.set i x) (r.set i .un) := by
  have keep : ∀ (j : Nat) c, c ≠ Cell.un → (r.set i .un)[j]? = some c → r[j]? = some c ∧ (s.set i x)[j]? = s[j]? := fun j c hc h => by
    rw [List.getElem?_set] at h
    by_cases e : i = j
    · subst e
      rw [if_pos rfl] at h
      split at h
      · cases h; exact absurd rfl hc
      · cases h
    · rw [if_neg e] at h; exact ⟨h, by rw [List.getElem?_set, if_neg e]⟩
  refine ⟨E.sub, E.ext1, E.ext2, E.ext3, by rw [List.length_set, List.length_set]; exact E.len, fun j d h => ?_, fun j o h => ?_, fun i' j' a oi oj ne h1 h2 h3 => ?_⟩
  · obtain ⟨h1, h2⟩ := keep j _ (by intro z; cases z) h
    rw [h2]; exact E.val j d h1
  · obtain ⟨h1, h2⟩ := keep j _ (by intro z; cases z) h
    rw [h2]; exact E.own j o h1
  · obtain ⟨g1, g2⟩ := keep i' _ (by intro z; cases z) h1
    obtain ⟨g3, g4⟩ := keep j' _ (by intro z; cases z) h2
    rw [g4]; rw [g2] at h3
    exact E.dis i' j' a oi oj ne g1 g3 h3
theorem EnvOk.wipe {K : PySem.W.Frag} {Bs B Hs H : Hp} {s : St} {r : Rho} (E : EnvOk K Bs B Hs H s r) : ∀ vs : List Nat, EnvOk K Bs B Hs H (L2.wipe s vs) (wipeR r vs)
  | [] => E
  | v :: vs => (E.wipe vs).setUn v none
theorem wipeR_get (s : Rho) (i : Nat) : ∀ vs : List Nat, i ∉ vs → (wipeR s vs)[i]? = s[i]?
  | [], _ => rfl
  | v :: vs, h => by
    have h1 : v ≠ i := fun e => h (by rw [e]; exact List.mem_cons_self)
    show ((wipeR s vs).set v .un)[i]? = _
    rw [List.getElem?_set, if_neg h1]
    exact wipeR_get s i vs fun z => h (List.mem_cons_of_mem _ z)
theorem restore_get (r0 r : Rho) (i : Nat) : ∀ vs : List Nat, i ∉ vs → (restore r0 r vs)[i]? = r[i]?
  | [], _ => rfl
  | v :: vs, h => by
    have h1 : v ≠ i := fun e => h (by rw [e]; exact List.mem_cons_self)
    show ((restore r0 r vs).set v _)[i]? = _
    rw [List.getElem?_set, if_neg h1]
    exact restore_get r0 r i vs fun z => h (List.mem_cons_of_mem _ z)
theorem restore_in (r0 r : Rho) (i : Nat) (c : Cell) : ∀ vs : List Nat, i ∈ vs → (restore r0 r vs)[i]? = some c → c = keepVal r0 i
  | [], h, _ => by simp at h
  | v :: vs, h, e => by
    have e : ((restore r0 r vs).set v (keepVal r0 v))[i]? = some c := e
    rw [List.getElem?_set] at e
    by_cases h1 : v = i
    · subst h1
      rw [if_pos rfl] at e
      split at e
      · exact (Option.some.inj e).symm
      · cases e
    · rw [if_neg h1] at e
      rcases List.mem_cons.mp h with rfl | h
      · exact absurd rfl h1
      · exact restore_in r0 r i c vs h e
theorem restore_len (r0 r : Rho) : ∀ vs : List Nat, (restore r0 r vs).length = r.length
  | [] => rfl
  | v :: vs => by
    show ((restore r0 r vs).set v _).length = _
    rw [List.length_set]; exact restore_len r0 r vs
theorem wipeR_len (r : Rho) : ∀ vs : List Nat, (wipeR r vs).length = r.length
  | [] => rfl
  | v :: vs => by
    show ((wipeR r vs).set v _).length = _
    rw [List.length_set]; exact wipeR_len r vs
theorem EnvOk.restore {K : PySem.W.Frag} {Bs B Hs0 H0 Hs H : Hp} {s : St} {r0 r : Rho} {vs : List Nat} (E0 : EnvOk K Bs B Hs0 H0 s r0) (ex : Ex Hs0 Hs) (E : EnvOk K Bs B Hs H (L2.wipe s vs) (wipeR r vs)) : EnvOk K Bs B Hs H s (restore r0 r vs) := by
  have own : ∀ (i : Nat) o, (Mp.restore r0 r vs)[i]? = some (.own o) → i ∉ vs := fun i o h hi => by
    have := restore_in r0 r i _ vs hi h
    unfold keepVal at this
    split at this <;> cases this
  refine ⟨E.sub, E.ext1, E.ext2, E.ext3, ?_, fun i d h => ?_, fun i o h => ?_, fun i' j' a oi oj ne h1 h2 h3 => ?_⟩
  · rw [restore_len]
    have := E.len
    rw [wipe_length, wipeR_len] at this; exact this
  · by_cases hi : i ∈ vs
    · have := restore_in r0 r i _ vs hi h
      unfold keepVal at this
      split at this <;> cases this
      rename_i h0
      obtain ⟨v, h1, h2⟩ := E0.val i _ h0
      exact ⟨v, h1, h2.mono ex⟩
    · rw [restore_get r0 r i vs hi] at h
      obtain ⟨v, h1, h2⟩ := E.val i d (by rw [wipeR_get r i vs hi]; exact h)
      exact ⟨v, by rw [wipe_get s i vs hi] at h1; exact h1, h2⟩
  · have hi := own i o h
    rw [restore_get r0 r i vs hi] at h
    obtain ⟨a, h1, h2⟩ := E.own i o (by rw [wipeR_get r i vs hi]; exact h)
    exact ⟨a, by rw [wipe_get s i vs hi] at h1; exact h1, h2⟩
  · have hi := own i' oi h1
    have hj := own j' oj h2
    rw [restore_get r0 r i' vs hi] at h1
    rw [restore_get r0 r j' vs hj] at h2
    have := E.dis i' j' a oi oj ne (by rw [wipeR_get r i' vs hi]; exact h1) (by rw [wipeR_get r j' vs hj]; exact h2) (by rw [wipe_get s i' vs hi]; exact h3)
    rw [wipe_get s j' vs hj] at this; exact this
/-- an object of nobody's changes -/
theorem EnvOk.poke {K : PySem.W.Frag} {Bs B Hs H : Hp} {s : St} {r : Rho} (E : EnvOk K Bs B Hs H s r) {a : Addr} {o : HO} (hs : Hs a = none) (hB : B a = none) (ap : ∀ (i : Nat) oi, r[i]? = some (.own oi) → s[i]? ≠ some (some (.ref a))) : EnvOk K Bs B Hs (upd H a o) s r := by
  refine ⟨Ex.mut E.sub hs, E.ext1, fun b u h n => ?_, E.ext3, E.len, E.val, fun i u h => ?_, E.dis⟩
  · have e : b ≠ a := ne_of_none h hB
    rw [upd_ne e]; exact E.ext2 b u h n
  · obtain ⟨x, h1, h2, h3, h4⟩ := E.own i u h
    have e : x ≠ a := by rintro rfl; exact ap i u h h1
    exact ⟨x, h1, h2, h3, h4.mono (Ex.refl _) (upd_ne e)⟩
def lcL (g : Tg) (t : Ev Bool) (ev : Ev Rv) (vs : List Nat) : List D → Rho → EO (List D)
  | [], r => .ok [] r
  | d :: ds, r => match g d r with
    | none => .stuck
    | some r1 => (t r1).bind fun k r2 => if k then (ev r2).bind fun x r3 => (lcL g t ev vs ds (wipeR r3 vs)).bind fun l r4 => .ok (x.data :: l) r4 else lcL g t ev vs ds (wipeR r2 vs)
def eComp (it : Ev (List D)) (g : Tg) (t : Ev Bool) (ev : Ev Rv) (vs : List Nat) : Ev Rv := fun r => (it r).bind fun ds r1 => if ds.length ≤ sizeLine then (match lcL g t ev vs ds (wipeR r1 vs) with
  | .ok l r2 => .ok (.new (.lst l)) (restore r1 r2 vs)
  | _ => .stuck) else .stuck
def WF : WX := fun _ _ _ _ => False
def tT : Ev Bool := fun r => .ok true r
/-- the readings of what stands in the block, for every block -/
def cE (X : Cx) (scope : Scope) (e : Expr) : TE := fun σ H Q => ∀ (s : Shared) (H0 : Hp) (C : Addr) (cl : List (Str × Addr)) (fp : List Addr), aE (X.blk s H0 scope (compEnvC scope cl C X.env) fp) e σ H Q
def cG (X : Cx) (scope : Scope) (e : Expr) : TG := fun v σ H Q => ∀ (s : Shared) (H0 : Hp) (C : Addr) (cl : List (Str × Addr)) (fp : List Addr), aG (X.blk s H0 scope (compEnvC scope cl C X.env) fp) e v σ H Q
def aPTs (X : Cx) (ifs : List Expr) : TT := fun σ H Q => ∃ t, PTs X ifs t ∧ t σ H Q
theorem pts_all {ifs : List Expr} : PTs X ifs (aPTs X ifs) := ⟨fun pins s σ H Q I ⟨t, h, q⟩ => h.run pins s σ H Q I q⟩
def cT (X : Cx) (scope : Scope) (ifs : List Expr) : TT := fun σ H Q => ∀ (s : Shared) (H0 : Hp) (C : Addr) (cl : List (Str × Addr)) (fp : List Addr), aPTs (X.blk s H0 scope (compEnvC scope cl C X.env) fp) ifs σ H Q
theorem pe_c {scope : Scope} {e : Expr} (s : Shared) (H0 : Hp) (C : Addr) (cl : List (Str × Addr)) (fp : List Addr) : PE (X.blk s H0 scope (compEnvC scope cl C X.env) fp) e (cE X scope e) := ⟨fun pins s1 σ H Q I h => pe_all.run pins s1 σ H Q I (h s H0 C cl fp)⟩
theorem pg_c {scope : Scope} {e : Expr} (s : Shared) (H0 : Hp) (C : Addr) (cl : List (Str × Addr)) (fp : List Addr) : PG (X.blk s H0 scope (compEnvC scope cl C X.env) fp) e (cG X scope e) := ⟨fun pins s1 σ H v u Q I rv h => pg_all.run pins s1 σ H v u Q I rv (h s H0 C cl fp)⟩
theorem pts_c {scope : Scope} {e : List Expr} (s : Shared) (H0 : Hp) (C : Addr) (cl : List (Str × Addr)) (fp : List Addr) : PTs (X.blk s H0 scope (compEnvC scope cl C X.env) fp) e (cT X scope e) := ⟨fun pins s1 σ H Q I h => pts_all.run pins s1 σ H Q I (h s H0 C cl fp)⟩
def SndTs (X : Cx) (W : WX) (ifs : List Expr) (ev : Ev Bool) : Prop := ∀ (Bs B Hs H : Hp) (s : St) (r : Rho) (Q : Bool → Hp → Prop), EnvOk X.K Bs B Hs H s r →
  PostE X.K W Bs B Hs s relB Q (ev r) → aPTs X ifs s H Q
theorem snts_nil : SndTs X W [] tT := fun Bs B Hs H s r Q E q => ⟨_, pts_nil, q.ok E rfl⟩
theorem snts_one {c : Expr} {t : Ev Bool} (h : SndT X W c t) : SndTs X W [c] t := fun Bs B Hs H s r Q E q => ⟨_, pts_one pt_all, h _ _ _ _ _ _ _ E q⟩
theorem RpAll.snoc {K : PySem.W.Frag} {H : Hp} {vs : List V} {ds : List D} {v : V} {d : D} (h : RpAll K H vs ds) (hv : Rp K H v d) : RpAll K H (vs ++ [v]) (ds ++ [d]) := h.append (.cons hv .nil)
/-- what is wanted of the rest of a comprehension -/
def Fin (K : PySem.W.Frag) (W : WX) (Bs B Hs : Hp) (s : St) (Q : VK) (r1 : Rho) (vs : List Nat) (acc : List D) : EO (List D) → Prop
  | .ok l r2 => PostE K W Bs B Hs s (relR K B s) Q (.ok (.new (.lst (acc ++ l))) (restore r1 r2 vs))
  | _ => False
theorem Fin.mono {K : PySem.W.Frag} {W : WX} {Bs B Hs Hs' : Hp} {s : St} {Q : VK} {r1 : Rho} {vs : List Nat} {acc : List D} {m : EO (List D)} (e : Ex Hs Hs') (h : Fin K W Bs B Hs s Q r1 vs acc m) : Fin K W Bs B Hs' s Q r1 vs acc m := by
  cases m with
  | ok l r2 =>
    have h : PostE K W Bs B Hs s (relR K B s) Q (.ok (.new (.lst (acc ++ l))) (Mp.restore r1 r2 vs)) := h
    exact h.mono e
  | stuck => exact h
  | exc x r => exact h
structure LcInv (K : PySem.W.Frag) (W : WX) (Bs B Hs1 : Hp) (s : St) (Q : VK) (r1 : Rho) (vs : List Nat) (Dl : Addr) (i : Nat) (m : Rho → EO (List D)) (H : Hp) : Prop where
  ex : ∃ (Hs : Hp) (r : Rho) (acc : List D) (us : List V), Ex Hs1 Hs ∧ EnvOk K Bs B Hs H (L2.wipe s vs) (wipeR r vs) ∧ Hs Dl = none ∧ H Dl = some (.lst us) ∧ RpAll K Hs us acc ∧ acc.length ≤ i ∧
      (∀ (j : Nat) oj, (wipeR r vs)[j]? = some (.own oj) → (L2.wipe s vs)[j]? ≠ some (some (.ref Dl))) ∧ Fin K W Bs B Hs s Q r1 vs acc (m (wipeR r vs))
theorem lc_read {elt iter : Expr} {ifs : List Expr} {scope : Scope} {own : List (Str × Nat)} {it : Ev (List D)} {g : Tg} {is : List Nat} {t : Ev Bool} {ev : Ev Rv} (hc : X.calm = true) (hN : X.N.Nodup) (ok : BlkOk X.N X.env.scope scope own) (hi : SndI X W tg iter it)
    (hg : ∀ (s : Shared) (H0 : Hp) (C : Addr) (cl : List (Str × Addr)) (fp : List Addr), SndG (X.blk s H0 scope (compEnvC scope cl C X.env) fp) tg g is)
    (ht : ∀ (s : Shared) (H0 : Hp) (C : Addr) (cl : List (Str × Addr)) (fp : List Addr), SndTs (X.blk s H0 scope (compEnvC scope cl C X.env) fp) WF ifs t)
    (he : ∀ (s : Shared) (H0 : Hp) (C : Addr) (cl : List (Str × Addr)) (fp : List Addr), SndE (X.blk s H0 scope (compEnvC scope cl C X.env) fp) WF elt ev) (hiv : ∀ i ∈ is, i ∈ own.map (·.2)) {Bs B Hs H : Hp} {s : St} {r : Rho} {Q : VK} (E : EnvOk X.K Bs B Hs H s r) (q : PostE X.K W Bs B Hs s (relR X.K B s) Q (eComp it g t ev (own.map (·.2)) r)) :
    tLc (aI X tg iter) (cG X scope tg) (cT X scope ifs) (cE X scope elt) (own.map (·.2)) s H Q :=
  hi _ _ _ _ _ _ _ E (PostE.bind q fun ds r1 J Hs1 H1 _ e1 E1 wk q1 => by
    have wk : Wk X.K Hs1 J ds := wk
    generalize hvs : own.map (·.2) = vs at q1 hiv ⊢
    intro Dl hD
    split at q1
    case isFalse => exact False.elim q1
    rename_i hsz
    have hDs : Hs1 Dl = none := fresh_back E1.sub hD
    have hDB : B Dl = none := E1.bnone hD
    have hDbs : Bs Dl = none := fresh_back E1.ext1 hDs
    refine ⟨fun i m H => m = ds.length - i ∧ i ≤ ds.length ∧ LcInv X.K W Bs B Hs1 s Q r1 vs Dl i (lcL g t ev vs (ds.drop i)) H, ⟨ds.length, rfl, Nat.zero_le _, ⟨Hs1, r1, [], [], Ex.refl _, ?_, hDs, upd_same, .nil, Nat.le_refl _, ?_, ?_⟩⟩, ?_⟩
    · exact (E1.wipe vs).step (Step.newO E1.sub hD)
    · exact fun j oj hj => (E1.wipe vs).apart hD j oj hj
    · rw [List.drop_zero]
      cases hl : lcL g t ev vs ds (wipeR r1 vs) with
      | stuck => rw [hl] at q1; exact q1
      | exc x r2 => rw [hl] at q1; exact q1
      | ok l r2 => rw [hl] at q1; exact q1
    rintro i m H2 ⟨rfl, hi2, Hs2, r2, acc, us, e2, E2, hD2, hH2, hus, hacc, hap, fin⟩
    by_cases hlt : i < ds.length
    case neg =>
      have hi' : i = ds.length := by omega
      subst hi'
      rw [List.drop_length] at fin
      have fin : PostE X.K W Bs B Hs2 s (relR X.K B s) Q (.ok (.new (.lst (acc ++ []))) (restore r1 (wipeR r2 vs) vs)) := fin
      rw [List.append_nil] at fin
      have E2' : EnvOk X.K Bs B Hs2 H2 (L2.wipe s vs) (wipeR (wipeR r2 vs) vs) := by
        have := E2.wipe vs
        rw [wipe_idem] at this; exact this
      refine .inl ⟨(wk Hs2 H2 e2 E2.sub).2, ?_⟩
      have E3 : EnvOk X.K Bs B Hs2 H2 s (restore r1 (wipeR r2 vs) vs) := EnvOk.restore E1 e2 E2'
      refine fin.ok E3 ⟨Dl, rfl, hD2, hDB, ⟨us, hH2, hus⟩, fun j oj hj z => ?_⟩
      have hjv : j ∉ vs := fun hv => by
        have := restore_in r1 (wipeR r2 vs) j _ vs hv hj
        unfold keepVal at this
        split at this <;> cases this
      rw [restore_get _ _ j vs hjv] at hj
      exact hap j oj hj (by rw [wipe_get s j vs hjv]; exact z)
    case pos =>
      obtain ⟨d, hd⟩ : ∃ d, ds[i]? = some d := ⟨_, List.getElem?_eq_getElem hlt⟩
      have hdrop : ds.drop i = d :: ds.drop (i + 1) := by
        rw [List.drop_eq_getElem_cons hlt]
        have := List.getElem?_eq_getElem hlt
        rw [hd] at this
        rw [Option.some.inj this]
      obtain ⟨g1, g2⟩ := (wk Hs2 H2 e2 E2.sub).1 i d hd
      refine .inr ⟨g1, LcInv X.K W Bs B Hs1 s Q r1 vs Dl (i + 1) (lcL g t ev vs (ds.drop (i + 1))), fun H' h => ⟨ds.length - (i + 1), by omega, rfl, by omega, h⟩, fun x H' hy => ?_⟩
      obtain ⟨Hs3, st, rx⟩ := g2 x H' hy
      have E3 := E2.step st
      obtain ⟨hD3, hH3⟩ := st.fr Dl _ hH2 hD2
      have e3 : Ex Hs1 Hs3 := e2.trans st.sh
      -- Dl is of the surroundings while the turn runs
      have E3' := E3.more hD3 hH3 hap
      have fin := Fin.mono st.sh fin
      have hus := hus.mono st.sh
      rw [hdrop] at fin
      unfold lcL at fin
      split at fin
      · exact False.elim fin
      rename_i r4 hg0
      intro sh H0 C cl fp
      refine hg sh H0 C cl fp _ _ _ _ _ _ _ _ _ _ E3' rx hg0 fun s4 H4 al E4 => ⟨?_, ?_⟩
      · rw [al vs hiv, wipe_idem]
      have al4 : L2.wipe s4 vs = L2.wipe s vs := by rw [al vs hiv, wipe_idem]
      intro sh H0 C cl fp
      refine ht sh H0 C cl fp _ _ _ _ _ _ _ E4 ?_
      -- the turn's end, whatever came before
      have back : ∀ (Hs5 H5 : Hp) (r5 : Rho), EnvOk X.K Bs (upd B Dl (.lst us)) Hs5 H5 s4 r5 → Hs5 Dl = none ∧ H5 Dl = some (.lst us) := fun Hs5 H5 r5 E5 => E5.ext2 Dl _ upd_same hDbs
      have apart : ∀ (Hs5 H5 : Hp) (r5 : Rho), EnvOk X.K Bs (upd B Dl (.lst us)) Hs5 H5 s4 r5 → ∀ (j : Nat) oj, (wipeR r5 vs)[j]? = some (.own oj) → (L2.wipe s vs)[j]? ≠ some (some (.ref Dl)) := fun Hs5 H5 r5 E5 j oj hj z => by
        have E6 := E5.wipe vs
        rw [al4] at E6
        obtain ⟨a, k1, _, k3, _⟩ := E6.own j oj hj
        rw [k1] at z; cases z
        rw [upd_same] at k3; cases k3
      cases hm : t r4 with
      | stuck => rw [hm] at fin; exact fin
      | exc y r5 => rw [hm] at fin; exact False.elim fin
      | ok k r5 =>
        rw [hm] at fin
        intro k' Hs5 H5 e5 E5 hk
        have hk : k' = k := hk
        subst hk
        obtain ⟨hD5, hH5⟩ := back Hs5 H5 r5 E5
        cases k' with
        | false =>
          rw [if_neg Bool.false_ne_true]
          have fin : Fin X.K W Bs B Hs3 s Q r1 vs acc (lcL g t ev vs (ds.drop (i + 1)) (wipeR r5 vs)) := fin
          have E6 := (E5.less hDB hDbs).wipe vs
          rw [al4] at E6
          exact ⟨Hs5, r5, acc, us, e3.trans e5, E6, hD5, hH5, hus.mono e5, by omega, apart Hs5 H5 r5 E5, fin.mono e5⟩
        | true =>
          rw [if_pos rfl]
          have fin : Fin X.K W Bs B Hs3 s Q r1 vs acc ((ev r5).bind fun x r6 => (lcL g t ev vs (ds.drop (i + 1)) (wipeR r6 vs)).bind fun l r7 => .ok (x.data :: l) r7) := fin
          intro sh H0 C cl fp
          refine he sh H0 C cl fp _ _ _ _ _ _ _ E5 ?_
          cases hv : ev r5 with
          | stuck => rw [hv] at fin; exact fin
          | exc y r6 => rw [hv] at fin; exact False.elim fin
          | ok y r6 =>
            rw [hv] at fin
            have fin : Fin X.K W Bs B Hs3 s Q r1 vs acc ((lcL g t ev vs (ds.drop (i + 1)) (wipeR r6 vs)).bind fun l r7 => .ok (y.data :: l) r7) := fin
            intro w Hs6 H6 e6 E6 ry
            obtain ⟨Hs7, e7, E7, ry7⟩ := RvAt.use E6 ry
            obtain ⟨hD7, hH7⟩ := back Hs7 H6 r6 E7
            refine ⟨us, hH7, ?_, ?_⟩
            · have := hus.length; omega
            have E8 := (E7.less hDB hDbs).wipe vs
            rw [al4] at E8
            have ap8 := apart Hs7 H6 r6 E7
            have E9 := E8.poke (o := .lst (us ++ [w])) hD7 hDB ap8
            have e37 : Ex Hs3 Hs7 := e5.trans (e6.trans e7)
            refine ⟨Hs7, r6, acc ++ [y.data], us ++ [w], e3.trans e37, E9, hD7, upd_same, (hus.mono e37).snoc ry7, by rw [List.length_append]; simp only [List.length_cons, List.length_nil]; omega, ap8, ?_⟩
            have fin := Fin.mono e37 fin
            cases hl : lcL g t ev vs (ds.drop (i + 1)) (wipeR r6 vs) with
            | stuck => rw [hl] at fin; exact fin
            | exc z r7 => rw [hl] at fin; exact False.elim fin
            | ok l r7 =>
              rw [hl] at fin
              have fin : PostE X.K W Bs B Hs7 s (relR X.K B s) Q (.ok (.new (.lst (acc ++ (y.data :: l)))) (restore r1 r7 vs)) := fin
              show PostE X.K W Bs B Hs7 s (relR X.K B s) Q (.ok (.new (.lst ((acc ++ [y.data]) ++ l))) (restore r1 r7 vs))
              rw [List.append_assoc]
              exact fin)
theorem snd_lc {elt iter : Expr} {ifs : List Expr} {scope : Scope} {own : List (Str × Nat)} {it : Ev (List D)} {g : Tg} {is : List Nat} {t : Ev Bool} {ev : Ev Rv} (hc : X.calm = true) (hN : X.N.Nodup) (ok : BlkOk X.N X.env.scope scope own) (hi : SndI X W tg iter it)
    (hg : ∀ (s : Shared) (H0 : Hp) (C : Addr) (cl : List (Str × Addr)) (fp : List Addr), SndG (X.blk s H0 scope (compEnvC scope cl C X.env) fp) tg g is)
    (ht : ∀ (s : Shared) (H0 : Hp) (C : Addr) (cl : List (Str × Addr)) (fp : List Addr), SndTs (X.blk s H0 scope (compEnvC scope cl C X.env) fp) WF ifs t)
    (he : ∀ (s : Shared) (H0 : Hp) (C : Addr) (cl : List (Str × Addr)) (fp : List Addr), SndE (X.blk s H0 scope (compEnvC scope cl C X.env) fp) WF elt ev) (hiv : ∀ i ∈ is, i ∈ own.map (·.2)) (hs : ∀ x, foldedSetIterable iter X.env x = pure x := by intro _; rfl) :
    SndE X W (.ListComp elt [⟨tg, iter, ifs, 0⟩] scope pos) (eComp it g t ev (own.map (·.2))) := fun Bs B Hs H s r Q E q =>
  ⟨_, pe_lc hc hN pi_all ok pg_c pts_c pe_c hs, lc_read hc hN ok hi hg ht he hiv E q⟩
end
end Mp
set_option Elab.async false
set_option linter.all false
set_option maxRecDepth 100000
namespace Mp
open PySem L2 Evl
/-! ### items -/
def lkp {A : Type} [DecidableEq A] (l : List (A × D)) (k : A) : Option D := (l.find? fun p => decide (p.1 = k)).map (·.2)
theorem lkp_rp {A : Type} [DecidableEq A] {K : PySem.W.Frag} {H : Hp} {k : A} : ∀ {kvs : List (A × V)} {l : List (A × D)}, kvs.map (·.1) = l.map (·.1) → RpAll K H (kvs.map (·.2)) (l.map (·.2)) →
    (∀ d, lkp l k = some d → ∃ v, valV kvs k = some v ∧ Rp K H v d) ∧ (lkp l k = none → valV kvs k = none)
  | [], [], _, _ => ⟨fun d h => by simp [lkp] at h, fun _ => rfl⟩
  | [], _ :: _, h, _ => by simp at h
  | _ :: _, [], h, _ => by simp at h
  | (a, v) :: kvs, (b, d) :: l, h, r => by
    simp only [List.map_cons, List.cons.injEq] at h
    obtain ⟨rfl, h2⟩ := h
    cases r with
    | cons r1 r2 =>
      have ih := lkp_rp (k := k) h2 r2
      unfold lkp valV
      rw [List.find?_cons, List.find?_cons]
      by_cases e : a = k
      · simp only [decide_eq_true e]
        exact ⟨fun d' h' => by simp at h'; subst h'; exact ⟨v, rfl, r1⟩, fun h' => by simp at h'⟩
      · simp only [decide_eq_false e]
        exact ih
def keyD : D → Option Key
  | .int i => some (.inl i)
  | .str x => some (.inr x)
  | _ => none
def keysD : List D → Option (List Key)
  | [] => some []
  | d :: l => match keyD d, keysD l with
    | some k, some ks => some (k :: ks)
    | _, _ => none
theorem keyD_rp {K : PySem.W.Frag} {H : Hp} {v : V} {d : D} {k : Key} (h : Rp K H v d) (e : keyD d = some k) : v = kV k := by
  cases h <;> simp only [keyD, Option.some.injEq, reduceCtorEq] at e <;> subst e <;> rfl
theorem keysD_rp {K : PySem.W.Frag} {H : Hp} : ∀ {vs : List V} {ds : List D} {ks : List Key}, RpAll K H vs ds → keysD ds = some ks → vs = ks.map kV
  | _, _, _, .nil, e => by simp only [keysD, Option.some.injEq] at e; subst e; rfl
  | _, _, _, .cons (d := d) (ds := ds) a b, e => by
    simp only [keysD] at e
    split at e
    · rename_i k ks h1 h2
      cases e
      rw [keyD_rp a h1, keysD_rp b h2]; rfl
    · cases e
/-- what a dict holds at a key: none where it isn't a dict with such a key's kind -/
def dGet (d k : D) : Option (Option D) := match d with
  | .dT l => match k with
    | .tup ks => (keysD ks).map fun q => lkp l q
    | _ => none
  | .dK l => (keyD k).map fun q => lkp l q
  | _ => none
theorem Opd.dT {K : PySem.W.Frag} {Hs H : Hp} (e : Ex Hs H) {v : V} {l : List (List Key × D)} (h : Opd K Hs H v (.dT l)) : ∃ a kvs, v = .ref a ∧ H a = some (.dT kvs) ∧ kvs.map (·.1) = l.map (·.1) ∧ RpAll K Hs (kvs.map (·.2)) (l.map (·.2)) := by
  generalize hd : D.dT l = d at h
  cases h with
  | sh h =>
    subst hd
    cases h with
    | dT h k r => exact ⟨_, _, rfl, e _ _ h, k, r⟩
  | own h =>
    rename_i a o
    cases o <;> simp only [Own.data] at hd <;> cases hd
    obtain ⟨kvs, h1, h2, h3⟩ := h
    exact ⟨_, kvs, rfl, h1, h2, h3⟩
theorem Opd.dK {K : PySem.W.Frag} {Hs H : Hp} (e : Ex Hs H) {v : V} {l : List (Key × D)} (h : Opd K Hs H v (.dK l)) : ∃ a kvs, v = .ref a ∧ H a = some (.dK kvs) ∧ kvs.map (·.1) = l.map (·.1) ∧ RpAll K Hs (kvs.map (·.2)) (l.map (·.2)) := by
  generalize hd : D.dK l = d at h
  cases h with
  | sh h =>
    subst hd
    cases h with
    | dK h k r => exact ⟨_, _, rfl, e _ _ h, k, r⟩
  | own h =>
    rename_i a o
    cases o <;> simp only [Own.data] at hd <;> cases hd
    obtain ⟨kvs, h1, h2, h3⟩ := h
    exact ⟨_, kvs, rfl, h1, h2, h3⟩
theorem dGet_rp {K : PySem.W.Frag} {Hs H : Hp} (e : Ex Hs H) {v u : V} {d k : D} {x : Option D} (hv : Opd K Hs H v d) (hu : Opd K Hs H u k) (h : dGet d k = some x) :
    ∃ a o, v = .ref a ∧ DGet H a u o ∧ ((x.isSome = true ∧ ∃ y w, x = some y ∧ o = some w ∧ Rp K Hs w y) ∨ (x = none ∧ o = none)) ∧ ((∃ kvs, H a = some (.dK kvs)) ∨ ∃ kvs, H a = some (.dT kvs)) := by
  unfold dGet at h
  split at h
  · rename_i l
    split at h
    · rename_i ks
      simp only [Option.map_eq_some_iff] at h
      obtain ⟨q, hq, rfl⟩ := h
      obtain ⟨a, kvs, rfl, h1, h2, h3⟩ := hv.dT e
      obtain ⟨b, us, rfl, g1, g2, _⟩ := hu.tup e
      have := keysD_rp g2 hq
      subst this
      obtain ⟨p1, p2⟩ := lkp_rp (k := q) h2 h3
      refine ⟨a, valV kvs q, rfl, DGet.t h1 g1, ?_, .inr ⟨_, h1⟩⟩
      cases hl : lkp l q with
      | some y => obtain ⟨w, hw, rw'⟩ := p1 y hl; exact .inl ⟨rfl, y, w, rfl, hw, rw'⟩
      | none => exact .inr ⟨rfl, p2 hl⟩
    · cases h
  · rename_i l
    simp only [Option.map_eq_some_iff] at h
    obtain ⟨q, hq, rfl⟩ := h
    obtain ⟨a, kvs, rfl, h1, h2, h3⟩ := hv.dK e
    have hk : u = kV q := keyD_rp (hu.rp e) hq
    subst hk
    obtain ⟨p1, p2⟩ := lkp_rp (k := q) h2 h3
    refine ⟨a, valV kvs q, rfl, DGet.k h1, ?_, .inl ⟨_, h1⟩⟩
    cases hl : lkp l q with
    | some y => obtain ⟨w, hw, rw'⟩ := p1 y hl; exact .inl ⟨rfl, y, w, rfl, hw, rw'⟩
    | none => exact .inr ⟨rfl, p2 hl⟩
  · cases h
def dIx (d i : D) : Option D := match d, i with
  | .lst l, .int i => atI l i
  | .tup l, .int i => atI l i
  | .scr l, .int i => (atI l i).map .int
  | .str z, .int i => if z.length ≤ sizeLine then (atI z.cps.toList i).map fun c => .str ⟨#[c]⟩ else none
  | d, k => match dGet d k with
    | some (some y) => some y
    | _ => none
def isDct : D → Bool
  | .dT _ => true
  | .dK _ => true
  | _ => false
theorem atI_rp {K : PySem.W.Frag} {H : Hp} {vs : List V} {ds : List D} {i : Int} {d : D} (r : RpAll K H vs ds) (h : atI ds i = some d) : ∃ v, atI vs i = some v ∧ Rp K H v d := by
  unfold atI at h ⊢
  rw [r.length]
  cases hj : ixN ds.length i with
  | none => rw [hj] at h; cases h
  | some j =>
    rw [hj] at h
    exact r.get h
section
variable {X : Cx} {W : WX} {tg e a b c : Expr} {es : List Expr} {pos : Pos}
def eIx (oa ob : Ev Src) : Ev Rv := e2 (fun d i => (dIx d i).map .val) oa ob
theorem snd_ix {oa ob : Ev Src} (R : Rm X) (ha : SndO X W a oa) (hb : SndO X W b ob) (hs : PlainIx b) : SndE X W (.Subscript a b pos) (eIx oa ob) := fun Bs B Hs H s r Q E q => by
  by_cases hd : ∃ x r1 y r2 d, oa r = .ok x r1 ∧ ob r1 = .ok y r2 ∧ x.rd r2 = some d ∧ isDct d = true
  · obtain ⟨x0, r10, y0, r20, d0, hx, hy, hxd, hdd⟩ := hd
    refine ⟨_, pe_dget (by have := R.un; omega) pe_all pe_all hs, ha _ _ _ _ _ _ _ E (PostE.bind q fun x r1 v Hs1 H1 m1 x1 E1 ra q1 => hb _ _ _ _ _ _ _ E1 (PostE.bind q1 fun y r2 u Hs2 H2 m2 x2 E2 rb q2 => ?_))⟩
    rw [hx] at m1; cases m1
    rw [hy] at m2; cases m2
    unfold two at q2
    split at q2
    · rename_i d i h1 h2
      rw [hxd] at h1; cases h1
      split at q2
      · rename_i z hz
        simp only [Option.map_eq_some_iff] at hz
        obtain ⟨w, hw, rfl⟩ := hz
        have od := Src.opd E2 (SrcAt.mono x2 ra) hxd
        have oi := Src.opd E2 rb h2
        have hg : dGet d0 i = some (some w) := by
          cases d0 <;> simp only [isDct, reduceCtorEq] at hdd <;> (simp only [dIx] at hw; split at hw <;> cases hw; assumption)
        obtain ⟨p, o, rfl, g, k, _⟩ := dGet_rp E2.sub od oi hg
        rcases k with ⟨_, y', w', e1, rfl, rw'⟩ | ⟨e1, _⟩
        · cases e1
          exact ⟨p, w', rfl, g, q2.ok E2 rw'⟩
        · cases e1
      · exact False.elim q2
    · exact False.elim q2
  · refine ⟨_, pe_ix ix_seq pe_all pe_all hs, ha _ _ _ _ _ _ _ E (PostE.bind q fun x r1 v Hs1 H1 m1 x1 E1 ra q1 => hb _ _ _ _ _ _ _ E1 (PostE.bind q1 fun y r2 u Hs2 H2 m2 x2 E2 rb q2 => ?_))⟩
    unfold two at q2
    split at q2
    · rename_i d i h1 h2
      have nd : isDct d = false := by
        cases hz : isDct d with
        | false => rfl
        | true => exact absurd ⟨x, r1, y, r2, d, m1, m2, h1, hz⟩ hd
      split at q2
      · rename_i z hz
        simp only [Option.map_eq_some_iff] at hz
        obtain ⟨w, hw, rfl⟩ := hz
        have od := Src.opd E2 (SrcAt.mono x2 ra) h1
        have oi := Src.opd E2 rb h2
        unfold dIx at hw
        split at hw
        · obtain ⟨p, vs, rfl, k1, k2⟩ := od.lst E2.sub
          rw [oi.int]
          obtain ⟨w', e1, e2⟩ := atI_rp k2 hw
          exact .inl ⟨p, vs, _, w', rfl, rfl, sq_of k1, e1, q2.ok E2 e2⟩
        · obtain ⟨p, vs, rfl, k1, k2, _⟩ := od.tup E2.sub
          rw [oi.int]
          obtain ⟨w', e1, e2⟩ := atI_rp k2 hw
          exact .inr (.inl ⟨p, vs, _, w', rfl, rfl, st_of k1, e1, q2.ok E2 e2⟩)
        · rename_i l k
          have hv := od.val (fun o => by cases o <;> intro z <;> cases z)
          rw [oi.int]
          simp only [Option.map_eq_some_iff] at hw
          obtain ⟨n, hn, rfl⟩ := hw
          cases hv with
          | scr hs =>
            have : atI (l.map V.int) k = some (.int n) := by
              unfold atI at hn ⊢
              rw [List.length_map]
              cases hj : ixN l.length k with
              | none => rw [hj] at hn; cases hn
              | some j =>
                rw [hj] at hn
                show (l.map V.int)[j]? = _
                rw [List.getElem?_map, show l[j]? = some n from hn]; rfl
            exact .inl ⟨_, _, _, _, rfl, rfl, ex_l E2.sub hs, this, q2.ok E2 (.int n)⟩
        · rw [od.str, oi.int]
          split at hw
          · rename_i hz
            simp only [Option.map_eq_some_iff] at hw
            obtain ⟨n, hn, rfl⟩ := hw
            exact .inr (.inr ⟨_, _, n, rfl, rfl, hz, hn, q2.ok E2 (.str _)⟩)
          · cases hw
        · split at hw
          · rename_i hg
            unfold dGet at hg
            cases d <;> simp only [isDct, reduceCtorEq] at nd <;> simp at hg
          · cases hw
      · exact False.elim q2
    · exact False.elim q2
/-! k in d, whatever d is -/
def dInA (d e : D) : Option Bool := match dGet e d with
  | some x => some x.isSome
  | none => dInB d e
def dInV (d e : D) : Option Rv := (dInA d e).map fun k => .val (.bl k)
def dNotInV (d e : D) : Option Rv := (dInA d e).map fun k => .val (.bl (!k))
def tDG (f : Bool → Bool) (ty td : TE) : TE := fun s H Q => ty s H fun y H1 => td s H1 fun x H2 => ∃ a o, x = .ref a ∧ DGet H2 a y o ∧ Q (.bl (f o.isSome)) H2
def dInF (f : Bool → Bool) (d e : D) : Option Rv := (dInA d e).map fun k => .val (.bl (f k))
theorem din_core {oa ob : Ev Src} {f : Bool → Bool} {x0 y0 : Src} {r10 r20 : Rho} {d0 e0 : D} {k0 : Option D} (ha : SndO X W a oa) (hb : SndO X W b ob) {Bs B Hs H : Hp} {s : St} {r : Rho} {Q : VK} (E : EnvOk X.K Bs B Hs H s r) (q : PostE X.K W Bs B Hs s (relR X.K B s) Q (e2 (dInF f) oa ob r))
    (hx : oa r = .ok x0 r10) (hy : ob r10 = .ok y0 r20) (hxd : x0.rd r20 = some d0) (hyd : y0.rd r20 = some e0) (hk : dGet e0 d0 = some k0) : tDG f (aE X a) (aE X b) s H Q := by
  refine ha _ _ _ _ _ _ _ E (PostE.bind q fun x r1 v Hs1 H1 m1 x1 E1 ra q1 => hb _ _ _ _ _ _ _ E1 (PostE.bind q1 fun y r2 u Hs2 H2 m2 x2 E2 rb q2 => ?_))
  rw [hx] at m1; cases m1
  rw [hy] at m2; cases m2
  obtain ⟨p, o, rfl, g, kk, _⟩ := dGet_rp E2.sub (Src.opd E2 rb hyd) (Src.opd E2 (SrcAt.mono x2 ra) hxd) hk
  refine ⟨p, o, rfl, g, ?_⟩
  have hs : o.isSome = k0.isSome := by
    rcases kk with ⟨_, y', w', rfl, rfl, _⟩ | ⟨rfl, rfl⟩ <;> rfl
  rw [hs]
  unfold two at q2
  rw [hxd, hyd] at q2
  simp only [dInF, dInA, hk, Option.map_some] at q2
  exact q2.ok E2 (.bl _)
/-- where the right side is no dict, the operator's own rule serves -/
theorem inf_two {op : CmpOp} {f : Bool → Bool} {oa ob : Ev Src} (ok : OpOk X (compareOp op) fun d e => (dInB d e).map fun k => .val (.bl (f k))) (ha : SndO X W a oa) (hb : SndO X W b ob) {Bs B Hs H : Hp} {s : St} {r : Rho} {Q : VK} (E : EnvOk X.K Bs B Hs H s r)
    (q : PostE X.K W Bs B Hs s (relR X.K B s) Q (e2 (dInF f) oa ob r))
    (hd : ¬ ∃ x r1 y r2 d e k, oa r = .ok x r1 ∧ ob r1 = .ok y r2 ∧ x.rd r2 = some d ∧ y.rd r2 = some e ∧ dGet e d = some k) : tOp (rAny X (compareOp op)) (aE X a) (aE X b) s H Q := by
  refine ha _ _ _ _ _ _ _ E (PostE.bind q fun x r1 v Hs1 H1 m1 x1 E1 ra q1 => hb _ _ _ _ _ _ _ E1 (PostE.bind q1 fun y r2 u Hs2 H2 m2 x2 E2 rb q2 => two_ok (W := W) ok E2 (SrcAt.mono x2 ra) rb ?_))
  unfold two at q2 ⊢
  split at q2
  · rename_i d e h1 h2
    have hn : dGet e d = none := by
      cases hz : dGet e d with
      | none => rfl
      | some k => exact absurd ⟨x, r1, y, r2, d, e, k, m1, m2, h1, h2, hz⟩ hd
    simp only [dInF, dInA, hn] at q2
    exact q2
  · exact False.elim q2
theorem snd_in {oa ob : Ev Src} (R : Rm X) (ha : SndO X W a oa) (hb : SndO X W b ob) (hm : behindInMarks .In b = false := by rfl) : SndE X W (.Compare a [.In] [b] pos) (e2 (dInF id) oa ob) := fun Bs B Hs H s r Q E q => by
  by_cases hd : ∃ x r1 y r2 d e k, oa r = .ok x r1 ∧ ob r1 = .ok y r2 ∧ x.rd r2 = some d ∧ y.rd r2 = some e ∧ dGet e d = some k
  · obtain ⟨x0, r10, y0, r20, d0, e0, k0, h1, h2, h3, h4, h5⟩ := hd
    exact ⟨_, pe_cmp (pc_din (by have := R.un; omega) pe_all pe_all) hm, din_core ha hb E q h1 h2 h3 h4 h5⟩
  · exact ⟨_, pe_cmpR op_any pe_all pe_all hm, inf_two (ok_in2 R).1 ha hb E q hd⟩
theorem snd_notin {oa ob : Ev Src} (R : Rm X) (ha : SndO X W a oa) (hb : SndO X W b ob) (hm : behindInMarks .NotIn b = false := by rfl) : SndE X W (.Compare a [.NotIn] [b] pos) (e2 (dInF (!·)) oa ob) := fun Bs B Hs H s r Q E q => by
  by_cases hd : ∃ x r1 y r2 d e k, oa r = .ok x r1 ∧ ob r1 = .ok y r2 ∧ x.rd r2 = some d ∧ y.rd r2 = some e ∧ dGet e d = some k
  · obtain ⟨x0, r10, y0, r20, d0, e0, k0, h1, h2, h3, h4, h5⟩ := hd
    exact ⟨_, pe_cmp (pc_dnotin (by have := R.un; omega) pe_all pe_all) hm, din_core ha hb E q h1 h2 h3 h4 h5⟩
  · exact ⟨_, pe_cmpR op_any pe_all pe_all hm, inf_two (ok_in2 R).2 ha hb E q hd⟩
theorem snt_in {oa ob : Ev Src} (R : Rm X) (ha : SndO X W a oa) (hb : SndO X W b ob) (hm : behindInMarks .In b = false := by rfl) : SndT X W (.Compare a [.In] [b] pos) (tv (e2 (dInF id) oa ob)) := fun Bs B Hs H s r Q E q => by
  have q := tv_post (m := e2 (dInF id) oa ob r) q
  by_cases hd : ∃ x r1 y r2 d e k, oa r = .ok x r1 ∧ ob r1 = .ok y r2 ∧ x.rd r2 = some d ∧ y.rd r2 = some e ∧ dGet e d = some k
  · obtain ⟨x0, r10, y0, r20, d0, e0, k0, h1, h2, h3, h4, h5⟩ := hd
    exact ⟨_, pt_cmp (pc_din (by have := R.un; omega) pe_all pe_all) hm, din_core ha hb E q h1 h2 h3 h4 h5⟩
  · exact ⟨_, pt_cmpR op_any pe_all pe_all hm, inf_two (ok_in2 R).1 ha hb E q hd⟩
theorem snt_notin {oa ob : Ev Src} (R : Rm X) (ha : SndO X W a oa) (hb : SndO X W b ob) (hm : behindInMarks .NotIn b = false := by rfl) : SndT X W (.Compare a [.NotIn] [b] pos) (tv (e2 (dInF (!·)) oa ob)) := fun Bs B Hs H s r Q E q => by
  have q := tv_post (m := e2 (dInF (!·)) oa ob r) q
  by_cases hd : ∃ x r1 y r2 d e k, oa r = .ok x r1 ∧ ob r1 = .ok y r2 ∧ x.rd r2 = some d ∧ y.rd r2 = some e ∧ dGet e d = some k
  · obtain ⟨x0, r10, y0, r20, d0, e0, k0, h1, h2, h3, h4, h5⟩ := hd
    exact ⟨_, pt_cmp (pc_dnotin (by have := R.un; omega) pe_all pe_all) hm, din_core ha hb E q h1 h2 h3 h4 h5⟩
  · exact ⟨_, pt_cmpR op_any pe_all pe_all hm, inf_two (ok_in2 R).2 ha hb E q hd⟩
/-! d.get(k), d.get(k, y) -/
def eGet1 (oa ob : Ev Src) : Ev Rv := fun r => (oa r).bind fun x r1 => match x.rd r1 with
  | some d1 => if isDct d1 then (ob r1).bind fun y r2 => (match x.rd r2, y.rd r2 with
    | some d, some k => (match dGet d k with
      | some o => .ok (.val (o.getD .non)) r2
      | none => .stuck)
    | _, _ => .stuck) else .stuck
  | none => .stuck
def eGet2 (oa ob oc : Ev Src) : Ev Rv := fun r => (oa r).bind fun x r1 => match x.rd r1 with
  | some d1 => if isDct d1 then (ob r1).bind fun y r2 => (oc r2).bind fun z r3 => (match x.rd r3, y.rd r3, z with
    | some d, some k, .dat w => (match dGet d k with
      | some o => .ok (.val (o.getD w)) r3
      | none => .stuck)
    | _, _, _ => .stuck) else .stuck
  | none => .stuck
theorem isD_of {K : PySem.W.Frag} {Hs H : Hp} (e : Ex Hs H) {v : V} {d : D} (h : Opd K Hs H v d) (hd : isDct d = true) : ∃ a, v = .ref a ∧ IsD H a := by
  cases d <;> simp only [isDct, reduceCtorEq] at hd
  · obtain ⟨a, kvs, rfl, h1, _⟩ := h.dT e; exact ⟨a, rfl, .inr ⟨kvs, .inl h1⟩⟩
  · obtain ⟨a, kvs, rfl, h1, _⟩ := h.dK e; exact ⟨a, rfl, .inl ⟨kvs, .inl h1⟩⟩
theorem snd_get1 {apos : Pos} {oa ob : Ev Src} (R : Rm X) (ha : SndO X W a oa) (hb : SndO X W b ob) (m : M1 X a "get" apos b pos) : SndE X W (.Call (.Attribute a "get" apos) [b] [] pos) (eGet1 oa ob) := fun Bs B Hs H s r Q E q =>
  ⟨_, pe_dget1 (by have := R.un; omega) pe_all pe_all m, ha _ _ _ _ _ _ _ E (PostE.bind q fun x r1 v Hs1 H1 _ x1 E1 ra q1 => by
    split at q1
    · rename_i d1 h1
      split at q1
      · rename_i h2
        obtain ⟨p, rfl, isd⟩ := isD_of E1.sub (Src.opd E1 ra h1) h2
        refine ⟨p, rfl, isd, hb _ _ _ _ _ _ _ E1 (PostE.bind q1 fun y r2 u Hs2 H2 _ x2 E2 rb q2 => ?_)⟩
        split at q2
        · rename_i d k h3 h4
          split at q2
          · rename_i o h5
            obtain ⟨p', o', e1, g, kk, _⟩ := dGet_rp E2.sub (Src.opd E2 (SrcAt.mono x2 ra) h3) (Src.opd E2 rb h4) h5
            cases e1
            refine ⟨o', g, ?_⟩
            rcases kk with ⟨_, y', w', rfl, rfl, hw⟩ | ⟨rfl, rfl⟩
            · exact q2.ok E2 hw
            · exact q2.ok E2 .non
          · exact False.elim q2
        · exact False.elim q2
      · exact False.elim q1
    · exact False.elim q1)⟩
theorem snd_get2 {apos : Pos} {oa ob oc : Ev Src} (R : Rm X) (ha : SndO X W a oa) (hb : SndO X W b ob) (hc : SndO X W c oc) (m : M2 X a "get" apos b c pos) : SndE X W (.Call (.Attribute a "get" apos) [b, c] [] pos) (eGet2 oa ob oc) := fun Bs B Hs H s r Q E q =>
  ⟨_, pe_dget2 (by have := R.un; omega) pe_all pe_all pe_all m, ha _ _ _ _ _ _ _ E (PostE.bind q fun x r1 v Hs1 H1 _ x1 E1 ra q1 => by
    split at q1
    · rename_i d1 h1
      split at q1
      · rename_i h2
        obtain ⟨p, rfl, isd⟩ := isD_of E1.sub (Src.opd E1 ra h1) h2
        refine ⟨p, rfl, isd, hb _ _ _ _ _ _ _ E1 (PostE.bind q1 fun y r2 u Hs2 H2 _ x2 E2 rb q2 => hc _ _ _ _ _ _ _ E2 (PostE.bind q2 fun z r3 w0 Hs3 H3 _ x3 E3 rc q3 => ?_))⟩
        split at q3
        · rename_i d k w h3 h4 h4'
          split at q3
          · rename_i o h5
            obtain ⟨p', o', e1, g, kk, _⟩ := dGet_rp E3.sub (Src.opd E3 (SrcAt.mono (x2.trans x3) ra) h3) (Src.opd E3 (SrcAt.mono x3 rb) h4) h5
            cases e1
            refine ⟨o', g, ?_⟩
            rcases kk with ⟨_, y', w', rfl, rfl, hw⟩ | ⟨rfl, rfl⟩
            · exact q3.ok E3 hw
            · exact q3.ok E3 rc
          · exact False.elim q3
        · exact False.elim q3
      · exact False.elim q1
    · exact False.elim q1)⟩
/-! ### slices -/
def cutD {A : Type} (xs : List A) (lo hi : Option Int) : List A := (xs.drop (HT.sIx xs.length 0 lo)).take (HT.sIx xs.length xs.length hi - HT.sIx xs.length 0 lo)
def dSl (d : D) (lo hi : Option Int) : Option Rv := match d with
  | .lst l => some (.new (.lst (cutD l lo hi)))
  | .scr l => some (.new (.lst ((cutD l lo hi).map .int)))
  | .tup l => some (.val (.tup (cutD l lo hi)))
  | .str z => if z.length ≤ sizeLine then vS (cutS z lo hi) else none
  | _ => none
theorem RpAll.cut {K : PySem.W.Frag} {H : Hp} {vs : List V} {ds : List D} (h : RpAll K H vs ds) (lo hi : Option Int) : RpAll K H (cutV vs lo hi) (cutD ds lo hi) := by
  unfold cutV cutD
  rw [h.length]
  exact (h.drop _).take _
def OptP (X : Cx) (W : WX) (e : Option Expr) (ev : Ev (Option Int)) : Prop := ∀ (Bs B Hs H : Hp) (s : St) (r : Rho) (Q : Option Int → Hp → Prop), EnvOk X.K Bs B Hs H s r →
  PostE X.K W Bs B Hs s (fun _ _ _ (y : Option Int) z => y = z) Q (ev r) → ∃ t, PO X e t ∧ t s H Q
def aO (X : Cx) (e : Option Expr) : TO := fun s H Q => ∃ t, PO X e t ∧ t s H Q
theorem po_all {e : Option Expr} : PO X e (aO X e) := ⟨fun pins s σ H Q I ⟨t, h, q⟩ => h.run pins s σ H Q I q⟩
def pNone : Ev (Option Int) := fun r => .ok none r
def pSome (oa : Ev Src) : Ev (Option Int) := fun r => (oa r).bind fun x r1 => match x.rd r1 with
  | some (.int i) => .ok (some i) r1
  | _ => .stuck
theorem op_none : OptP X W none pNone := fun Bs B Hs H s r Q E q => ⟨_, po_none, q.ok E rfl⟩
theorem op_some {oa : Ev Src} (ha : SndO X W a oa) : OptP X W (some a) (pSome oa) := fun Bs B Hs H s r Q E q => ⟨_, po_some pe_all, ha _ _ _ _ _ _ _ E (PostE.bind q fun x r1 v Hs1 H1 _ x1 E1 ra q1 => by
  split at q1
  · rename_i i hi
    rw [(Src.opd E1 ra hi).int]
    exact ⟨i, rfl, q1.ok E1 rfl⟩
  · exact False.elim q1)⟩
def eSl (oa : Ev Src) (pl ph : Ev (Option Int)) : Ev Rv := fun r => (oa r).bind fun x r1 => (pl r1).bind fun lo r2 => (ph r2).bind fun hi r3 => match x.rd r3 with
  | some d => (match dSl d lo hi with
    | some z => .ok z r3
    | none => .stuck)
  | none => .stuck
def rSlAny (X : Cx) : V → Option Int → Option Int → Hp → VK → Prop := fun x lo hi H Q => ∃ rr, SlR X rr ∧ rr x lo hi H Q
theorem sl_any : SlR X (rSlAny X) := fun pins s σ H x v vl vu lo hi sl Q I rx h1 h2 h3 ⟨rr, h, q⟩ => h pins s σ H x v vl vu lo hi sl Q I rx h1 h2 h3 q
theorem snd_sl {lo hi : Option Expr} {oa : Ev Src} {pl ph : Ev (Option Int)} {p2 : Pos} (ha : SndO X W a oa) (hl : OptP X W lo pl) (hh : OptP X W hi ph) : SndE X W (.Subscript a (.Slice lo hi none p2) pos) (eSl oa pl ph) := fun Bs B Hs H s r Q E q =>
  ⟨_, pe_slice sl_any pe_all po_all po_all, ha _ _ _ _ _ _ _ E (PostE.bind q fun x r1 v Hs1 H1 _ x1 E1 ra q1 => hl _ _ _ _ _ _ _ E1 (PostE.bind q1 fun l r2 l' Hs2 H2 _ x2 E2 rb q2 => hh _ _ _ _ _ _ _ E2 (PostE.bind q2 fun h r3 h' Hs3 H3 _ x3 E3 rc q3 => by
    have rb : l' = l := rb
    have rc : h' = h := rc
    subst rb; subst rc
    split at q3
    · rename_i d hd
      have o := Src.opd E3 (SrcAt.mono (x2.trans x3) ra) hd
      split at q3
      · rename_i z hz
        unfold dSl at hz
        split at hz
        · cases hz
          obtain ⟨p, vs, rfl, k1, k2⟩ := o.lst E3.sub
          exact ⟨_, sl_list, p, vs, rfl, sq_of k1, fun q hq => (PostE.prim E3 q3).lst E3 (k2.cut _ _) hq⟩
        · cases hz
          rename_i l
          have hv := o.val (fun o => by cases o <;> intro z <;> cases z)
          cases hv with
          | scr hs =>
            refine ⟨_, sl_list, _, _, rfl, ex_l E3.sub hs, fun q hq => (PostE.prim E3 q3).lst E3 ?_ hq⟩
            have e : cutV (l.map V.int) l' h' = (cutD l l' h').map V.int := by
              unfold cutV cutD
              rw [List.length_map, List.map_take, List.map_drop]
            rw [e]
            generalize cutD l l' h' = m
            induction m with
            | nil => exact .nil
            | cons a m ih => exact .cons (.int a) ih
        · cases hz
          rename_i l
          obtain ⟨p, vs, rfl, k1, k2, k3⟩ := o.tup E3.sub
          refine ⟨_, sl_tupA, p, vs, rfl, st_of k1, fun e => ?_, fun _ q hq => (PostE.prim E3 q3).tup E3 (k2.cut _ _) hq⟩
          have : cutD l l' h' = l := by
            unfold cutD
            rw [← k2.length, e.1, e.2, List.drop_zero, Nat.sub_zero, List.take_of_length_le (by rw [k2.length]; exact Nat.le_refl _)]
          rw [this] at q3
          exact q3.ok E3 k3
        · split at hz <;> cases hz
          rw [o.str]
          exact ⟨_, sl_str, _, rfl, by assumption, q3.ok E3 (.str _)⟩
        · cases hz
      · exact False.elim q3
    · exact False.elim q3)))⟩
end
end Mp
set_option Elab.async false
set_option linter.all false
set_option maxRecDepth 100000
namespace Mp
open PySem L2 Evl
/-! ### calls of built-ins -/
inductive OpdAll (K : PySem.W.Frag) (Hs H : Hp) : List V → List D → Prop
  | nil : OpdAll K Hs H [] []
  | cons {v : V} {vs : List V} {d : D} {ds : List D} : Opd K Hs H v d → OpdAll K Hs H vs ds → OpdAll K Hs H (v :: vs) (d :: ds)
def rdAll (r : Rho) : List Src → Option (List D)
  | [] => some []
  | x :: xs => match x.rd r, rdAll r xs with
    | some d, some ds => some (d :: ds)
    | _, _ => none
theorem SrcAll.opd {K : PySem.W.Frag} {Bs B Hs H : Hp} {s : St} {r : Rho} (E : EnvOk K Bs B Hs H s r) : ∀ {vs : List V} {xs : List Src} {ds : List D}, SrcAll K Hs s vs xs → rdAll r xs = some ds → OpdAll K Hs H vs ds
  | _, _, _, .nil, e => by cases e; exact .nil
  | _, _, _, .cons a b, e => by
    unfold rdAll at e
    split at e
    · rename_i d ds h1 h2
      cases e
      exact .cons (Src.opd E a h1) (SrcAll.opd E b h2)
    · cases e
def CallOk (X : Cx) (g : Value) (f : List D → Option Rv) : Prop := ∀ (Bs B Hs H : Hp) (s : St) (r : Rho) (vs : List V) (ds : List D) (x : Rv) (Q : VK), EnvOk X.K Bs B Hs H s r → OpdAll X.K Hs H vs ds → f ds = some x →
  PrimQ X.K Bs B Hs H s r Q x → ∃ rr, CallR X g rr ∧ rr vs H Q
def cAny (X : Cx) (g : Value) : List V → Hp → VK → Prop := fun vs H Q => ∃ rr, CallR X g rr ∧ rr vs H Q
theorem cr_any' {X : Cx} {g : Value} : CallR X g (cAny X g) := fun pins s σ H xs us Q I r ⟨rr, h, q⟩ => h pins s σ H xs us Q I r q
def eCB (f : List D → Option Rv) (as : Ev (List Src)) : Ev Rv := fun r => (as r).bind fun xs r1 => match rdAll r1 xs with
  | some ds => (match f ds with
    | some z => .ok z r1
    | none => .stuck)
  | none => .stuck
section
variable {X : Cx} {W : WX} {z : Bool} {e o : Expr} {es : List Expr} {pos p apos cpos : Pos} {x : Str}
theorem ecb_core {g : Value} {f : List D → Option Rv} {as : Ev (List Src)} (ok : CallOk X g f) (ha : SndA X W es as) {Bs B Hs H : Hp} {s : St} {r : Rho} {Q : VK} (E : EnvOk X.K Bs B Hs H s r) (q : PostE X.K W Bs B Hs s (relR X.K B s) Q (eCB f as r)) :
    tCB (cAny X g) (aA X es) s H Q := ha _ _ _ _ _ _ _ E (PostE.bind q fun xs r1 vs Hs1 H1 _ x1 E1 ra q1 => by
  split at q1
  · rename_i ds h1
    split at q1
    · rename_i z hz
      exact ok Bs B Hs1 H1 s r1 vs ds z Q E1 (SrcAll.opd E1 ra h1) hz (PostE.prim E1 q1)
    · exact False.elim q1
  · exact False.elim q1)
theorem snd_cb {id : String} {f : List D → Option Rv} {as : Ev (List Src)} (ok : CallOk X (.builtin id) f) (ha : SndA X W (e :: es) as) (hg : Gl X x) (hm : X.mg x = none) (hv : bootBuiltins x = some (.builtin id)) (hn : x ≠ "__name__" := by decide) (hdb : (x == ("__debug__" : Str)) = false := by decide)
    (he : starEach (e :: es) X.env = (false, eval e X.env) :: starEach es X.env := by rfl) (hpl : (backTo pos (starEach es X.env)).any (·.1) = false := by rfl) : SndE X W (.Call (.Name x p) (e :: es) [] pos) (eCB f as) := fun Bs B Hs H s r Q E q =>
  ⟨_, pe_callB cr_any' hg hm hv pa_all hn hdb he hpl, ecb_core ok ha E q⟩
theorem snd_ct {T : String} {f : List D → Option Rv} {as : Ev (List Src)} (ok : CallOk X (.type T) f) (ha : SndA X W (e :: es) as) (hg : Gl X x) (hm : X.mg x = none) (hv : bootBuiltins x = some (.type T)) (hn : x ≠ "__name__" := by decide) (hdb : (x == ("__debug__" : Str)) = false := by decide)
    (he : starEach (e :: es) X.env = (false, eval e X.env) :: starEach es X.env := by rfl) (hpl : (backTo pos (starEach es X.env)).any (·.1) = false := by rfl) : SndE X W (.Call (.Name x p) (e :: es) [] pos) (eCB f as) := fun Bs B Hs H s r Q E q =>
  ⟨_, pe_callTy cr_any' hg hm hv pa_all hn hdb he hpl, ecb_core ok ha E q⟩
theorem OpdAll.one {K : PySem.W.Frag} {Hs H : Hp} {vs : List V} {d : D} (h : OpdAll K Hs H vs [d]) : ∃ v, vs = [v] ∧ Opd K Hs H v d := by
  cases h with | cons a b => cases b; exact ⟨_, rfl, a⟩
theorem OpdAll.two {K : PySem.W.Frag} {Hs H : Hp} {vs : List V} {d e : D} (h : OpdAll K Hs H vs [d, e]) : ∃ v u, vs = [v, u] ∧ Opd K Hs H v d ∧ Opd K Hs H u e := by
  cases h with | cons a b => cases b with | cons b c => cases c; exact ⟨_, _, rfl, a, b⟩
theorem Opd.scr {K : PySem.W.Frag} {Hs H : Hp} (e : Ex Hs H) {v : V} {l : List Int} (h : Opd K Hs H v (.scr l)) : ∃ a, v = .ref a ∧ SqL K H a (l.map V.int) := by
  have hv := h.val (fun o => by cases o <;> intro z <;> cases z)
  cases hv with | scr hs => exact ⟨_, rfl, ex_l e hs⟩
def dLen : List D → Option Rv
  | [.lst l] => vI l.length
  | [.tup l] => vI l.length
  | [.scr l] => vI l.length
  | [.dK l] => vI l.length
  | [.str z] => if z.length ≤ sizeLine then vI z.length else none
  | _ => none
theorem ok_len : CallOk X (.builtin "len") dLen := by
  intro Bs B Hs H s r vs ds x Q E h hf q
  unfold dLen at hf
  split at hf
  · cases hf
    obtain ⟨v, rfl, hh⟩ := h.one; clear h; have h := hh
    obtain ⟨a, us, rfl, h1, h2⟩ := h.lst E.sub
    exact ⟨_, call_len_seq, a, us, rfl, .inl (sq_of h1), by rw [h2.length]; exact q.val E (.int _)⟩
  · cases hf
    obtain ⟨v, rfl, hh⟩ := h.one; clear h; have h := hh
    obtain ⟨a, us, rfl, h1, h2, _⟩ := h.tup E.sub
    exact ⟨_, call_len_seq, a, us, rfl, .inr (st_of h1), by rw [h2.length]; exact q.val E (.int _)⟩
  · cases hf
    obtain ⟨v, rfl, hh⟩ := h.one; clear h; have h := hh
    obtain ⟨a, rfl, h1⟩ := h.scr E.sub
    exact ⟨_, call_len_seq, a, _, rfl, .inl h1, by rw [List.length_map]; exact q.val E (.int _)⟩
  · cases hf
    rename_i l
    obtain ⟨v, rfl, hh⟩ := h.one; clear h; have h := hh
    obtain ⟨a, kvs, rfl, h1, h2, _⟩ := h.dK E.sub
    have hl : kvs.length = l.length := by have := congrArg List.length h2; simpa using this
    exact ⟨_, call_lenD, a, kvs, rfl, h1, by rw [hl]; exact q.val E (.int _)⟩
  · split at hf <;> cases hf
    obtain ⟨v, rfl, hh⟩ := h.one; clear h; have h := hh
    rw [h.str]
    exact ⟨_, call_len_str, _, rfl, by assumption, q.val E (.int _)⟩
  · cases hf
def dAbs : List D → Option Rv
  | [.int i] => vI (if i < 0 then -i else i)
  | _ => none
theorem ok_abs : CallOk X (.builtin "abs") dAbs := by
  intro Bs B Hs H s r vs ds x Q E h hf q
  unfold dAbs at hf
  split at hf <;> cases hf
  obtain ⟨v, rfl, hh⟩ := h.one; clear h; have h := hh
  rw [h.int]
  exact ⟨_, call_abs, _, rfl, q.val E (.int _)⟩
def dMin : List D → Option Rv
  | [.int i, .int j] => vI (if j < i then j else i)
  | _ => none
theorem ok_min (R : Rm X) : CallOk X (.builtin "min") dMin := by
  intro Bs B Hs H s r vs ds x Q E h hf q
  unfold dMin at hf
  split at hf <;> cases hf
  obtain ⟨v, u, rfl, hh, h'⟩ := h.two; clear h; have h := hh
  rw [h.int, h'.int]
  exact ⟨_, call_min2 R.calm, _, _, rfl, q.val E (.int _)⟩
def dMax : List D → Option Rv
  | [.int i, .int j] => vI (if j > i then j else i)
  | _ => none
theorem ok_max (R : Rm X) : CallOk X (.builtin "max") dMax := by
  intro Bs B Hs H s r vs ds x Q E h hf q
  unfold dMax at hf
  split at hf <;> cases hf
  obtain ⟨v, u, rfl, hh, h'⟩ := h.two; clear h; have h := hh
  rw [h.int, h'.int]
  exact ⟨_, call_max2 R.calm, _, _, rfl, q.val E (.int _)⟩
def dDivmod : List D → Option Rv
  | [.int i, .int j] => if 0 < j ∧ j < 1073741824 then some (.val (.tup [.int (i / j), .int (i % j)])) else none
  | _ => none
theorem ok_divmod : CallOk X (.builtin "divmod") dDivmod := by
  intro Bs B Hs H s r vs ds x Q E h hf q
  unfold dDivmod at hf
  split at hf
  · split at hf <;> cases hf
    rename_i hz
    obtain ⟨v, u, rfl, hh, h'⟩ := h.two; clear h; have h := hh
    rw [h.int, h'.int]
    exact ⟨_, call_divmod, _, _, rfl, hz, fun p hp => q.tup E (.cons (.int _) (.cons (.int _) .nil)) hp⟩
  · cases hf
def dInt : List D → Option Rv
  | [.int i] => vI i
  | [.bl k] => vI (if k then 1 else 0)
  | [.str a] => if a.length ≤ 640 then (match PySem.intText? a with
    | some n => vI n
    | none => none) else none
  | _ => none
theorem ok_int : CallOk X (.type "int") dInt := by
  intro Bs B Hs H s r vs ds x Q E h hf q
  unfold dInt at hf
  split at hf
  · cases hf
    obtain ⟨v, rfl, hh⟩ := h.one; clear h; have h := hh
    rw [h.int]
    exact ⟨_, call_int1, .inl ⟨_, rfl, q.val E (.int _)⟩⟩
  · cases hf
    obtain ⟨v, rfl, hh⟩ := h.one; clear h; have h := hh
    rw [h.bl]
    exact ⟨_, call_int1, .inr ⟨_, rfl, q.val E (.int _)⟩⟩
  · split at hf
    · rename_i hz
      split at hf <;> cases hf
      rename_i n hn
      obtain ⟨v, rfl, hh⟩ := h.one; clear h; have h := hh
      rw [h.str]
      exact ⟨_, call_int_str, _, _, rfl, hn, hz, q.val E (.int _)⟩
    · cases hf
  · cases hf
def dStr : List D → Option Rv
  | [.int i] => if i.natAbs.log2 < 1920 then vS (toString i) else none
  | _ => none
theorem ok_str : CallOk X (.type "str") dStr := by
  intro Bs B Hs H s r vs ds x Q E h hf q
  unfold dStr at hf
  split at hf
  · split at hf <;> cases hf
    obtain ⟨v, rfl, hh⟩ := h.one; clear h; have h := hh
    rw [h.int]
    exact ⟨_, call_str_int, _, rfl, by assumption, q.val E (.str _)⟩
  · cases hf
def dListOf : List D → Option Rv
  | [.lst l] => some (.new (.lst l))
  | [.tup l] => some (.new (.lst l))
  | _ => none
theorem ok_list : CallOk X (.type "list") dListOf := by
  intro Bs B Hs H s r vs ds x Q E h hf q
  unfold dListOf at hf
  split at hf
  · cases hf
    obtain ⟨v, rfl, hh⟩ := h.one; clear h; have h := hh
    obtain ⟨a, us, rfl, h1, h2⟩ := h.lst E.sub
    exact ⟨_, call_list_of, a, us, rfl, .inl (sq_of h1), fun p hp => q.lst E h2 hp⟩
  · cases hf
    obtain ⟨v, rfl, hh⟩ := h.one; clear h; have h := hh
    obtain ⟨a, us, rfl, h1, h2, _⟩ := h.tup E.sub
    exact ⟨_, call_list_of, a, us, rfl, .inr (st_of h1), fun p hp => q.lst E h2 hp⟩
  · cases hf
def dTupOf : List D → Option Rv
  | [.lst l] => some (.val (.tup l))
  | [.tup l] => some (.val (.tup l))
  | _ => none
theorem ok_tuple : CallOk X (.type "tuple") dTupOf := by
  intro Bs B Hs H s r vs ds x Q E h hf q
  unfold dTupOf at hf
  split at hf
  · cases hf
    obtain ⟨v, rfl, hh⟩ := h.one; clear h; have h := hh
    obtain ⟨a, us, rfl, h1, h2⟩ := h.lst E.sub
    exact ⟨_, call_tuple_of, a, us, rfl, .inl ⟨sq_of h1, fun p hp => q.tup E h2 hp⟩⟩
  · cases hf
    obtain ⟨v, rfl, hh⟩ := h.one; clear h; have h := hh
    obtain ⟨a, us, rfl, h1, h2, h3⟩ := h.tup E.sub
    exact ⟨_, call_tuple_of, a, us, rfl, .inr ⟨st_of h1, q.val E h3⟩⟩
  · cases hf
/-- bools, texts of a list -/
def toBls : List D → Option (List Bool)
  | [] => some []
  | .bl b :: l => (toBls l).map (b :: ·)
  | _ => none
theorem toBls_rp {K : PySem.W.Frag} {H : Hp} : ∀ {ds : List D} {ns : List Bool} {vs : List V}, toBls ds = some ns → RpAll K H vs ds → vs = ns.map V.bl
  | [], _, _, h, .nil => by simp only [toBls, Option.some.injEq] at h; subst h; rfl
  | d :: ds, _, _, h, .cons a b => by
    cases d <;> simp only [toBls, Option.map_eq_some_iff, reduceCtorEq] at h
    obtain ⟨ms, h1, rfl⟩ := h
    cases a
    rw [toBls_rp h1 b]; rfl
def toStrs : List D → Option (List Str)
  | [] => some []
  | .str b :: l => (toStrs l).map (b :: ·)
  | _ => none
theorem toStrs_rp {K : PySem.W.Frag} {H : Hp} : ∀ {ds : List D} {ns : List Str} {vs : List V}, toStrs ds = some ns → RpAll K H vs ds → vs = ns.map V.str
  | [], _, _, h, .nil => by simp only [toStrs, Option.some.injEq] at h; subst h; rfl
  | d :: ds, _, _, h, .cons a b => by
    cases d <;> simp only [toStrs, Option.map_eq_some_iff, reduceCtorEq] at h
    obtain ⟨ms, h1, rfl⟩ := h
    cases a
    rw [toStrs_rp h1 b]; rfl
def dAll : List D → Option Rv
  | [.lst l] => (toBls l).map fun bs => .val (.bl (bs.all id))
  | _ => none
theorem ok_all (R : Rm X) : CallOk X (.builtin "all") dAll := by
  intro Bs B Hs H s r vs ds x Q E h hf q
  unfold dAll at hf
  split at hf
  · simp only [Option.map_eq_some_iff] at hf
    obtain ⟨bs, hb, rfl⟩ := hf
    obtain ⟨v, rfl, hh⟩ := h.one; clear h; have h := hh
    obtain ⟨a, us, rfl, h1, h2⟩ := h.lst E.sub
    have := toBls_rp hb h2
    subst this
    exact ⟨_, cr_all R.calm, a, bs, rfl, sq_of h1, q.val E (.bl _)⟩
  · cases hf
/-! ### methods of built-ins -/
def MtOk (X : Cx) (id : String) (T : String) (f : D → List D → Option Rv) : Prop := ∀ (Bs B Hs H : Hp) (s : St) (r : Rho) (v : V) (vs : List V) (d : D) (ds : List D) (x : Rv) (Q : VK), EnvOk X.K Bs B Hs H s r → Opd X.K Hs H v d → OpdAll X.K Hs H vs ds → f d ds = some x →
  PrimQ X.K Bs B Hs H s r Q x → ∃ rr, MtR X id rr ∧ rr v vs H Q
def mAny (X : Cx) (id : String) : V → List V → Hp → VK → Prop := fun v vs H Q => ∃ rr, MtR X id rr ∧ rr v vs H Q
theorem mt_any {id : String} : MtR X id (mAny X id) := fun pins s σ H x xs v us Q I r r2 ⟨rr, h, q⟩ => h pins s σ H x xs v us Q I r r2 q
/-- T is the receiver's type -/
def tyD : D → String
  | .str _ => "str"
  | .int _ => "int"
  | .lst _ => "list"
  | .scr _ => "list"
  | .dT _ => "dict"
  | .dK _ => "dict"
  | _ => ""
theorem tyD_ok {Hs H : Hp} (e : Ex Hs H) {v : V} {d : D} {T : String} (h : Opd X.K Hs H v d) (ht : tyD d = T) (hT : T ≠ "") : tyV X.K T v H := by
  have k := h.rp e
  clear h
  subst ht
  cases k
  · exact absurd rfl hT
  · exact absurd rfl hT
  · exact rfl
  · exact rfl
  · rename_i h _; exact .inl ⟨rfl, _, sq_of h⟩
  · exact absurd rfl hT
  · rename_i h; exact .inl ⟨rfl, _, h⟩
  · rename_i h _ _; exact .inr (.inr (.inl ⟨rfl, .inr ⟨_, h⟩⟩))
  · rename_i h _ _; exact .inr (.inr (.inl ⟨rfl, .inl ⟨_, h⟩⟩))
  · exact absurd rfl hT
def eMt (T : String) (f : D → List D → Option Rv) (oa : Ev Src) (as : Ev (List Src)) : Ev Rv := fun r => (oa r).bind fun x r1 => match x.rd r1 with
  | some d1 => if tyD d1 = T then (as r1).bind fun ys r2 => (match x.rd r2, rdAll r2 ys with
    | some d, some ds => (match f d ds with
      | some z => .ok z r2
      | none => .stuck)
    | _, _ => .stuck) else .stuck
  | none => .stuck
theorem snd_mt {name : Str} {T id : String} {f : D → List D → Option Rv} {oa : Ev Src} {as : Ev (List Src)} (ok : MtOk X id T f) (ha : SndO X W o oa) (hs : SndA X W (e :: es) as) (hT : T ≠ "") (pa : PlainAttrs T) (slot : Slot T name id) (hty : typeOf (.builtin id) = pure (.type "method_descriptor"))
    (hbase : attributeBase o name X.env (eval o X.env) = eval o X.env := by rfl)
    (hfew : ((backTo cpos (starEach (e :: es) X.env)).all (fun x => !x.1) && (backToKw cpos (keywordEach [] X.env)).all (fun x => x.1.isSome)
      && decide ((e :: es).length + ([] : List Keyword).length + (if ([] : List Keyword).isEmpty then 0 else 1) < 30)) = true := by rfl)
    (hline : (apos.endLine == cpos.line) = true := by rfl) (hst : starEach (e :: es) X.env = (false, eval e X.env) :: starEach es X.env := by rfl) (hplain : (backTo cpos (starEach es X.env)).any (·.1) = false := by rfl) :
    SndE X W (.Call (.Attribute o name apos) (e :: es) [] cpos) (eMt T f oa as) := fun Bs B Hs H s r Q E q =>
  ⟨_, pe_bm pa slot hty mt_any pe_all pa_all hbase hfew hline hst hplain, ha _ _ _ _ _ _ _ E (PostE.bind q fun x r1 v Hs1 H1 _ x1 E1 ra q1 => by
    split at q1
    · rename_i d1 h1
      split at q1
      · rename_i h2
        refine ⟨tyD_ok E1.sub (Src.opd E1 ra h1) h2 hT, hs _ _ _ _ _ _ _ E1 (PostE.bind q1 fun ys r2 us Hs2 H2 _ x2 E2 rb q2 => ?_)⟩
        split at q2
        · rename_i d ds h3 h4
          split at q2
          · rename_i z hz
            exact ok _ _ _ _ _ _ _ _ _ _ _ _ E2 (Src.opd E2 (SrcAt.mono x2 ra) h3) (SrcAll.opd E2 rb h4) hz (PostE.prim E2 q2)
          · exact False.elim q2
        · exact False.elim q2
      · exact False.elim q1
    · exact False.elim q1)⟩
def dJoin : D → List D → Option Rv
  | .str a, [.lst l] => (match toStrs l with
    | some ys => if (ys.map (·.length)).sum + ys.length * a.length ≤ 16777216 then vS (Txt.join a ys) else none
    | none => none)
  | _, _ => none
theorem ok_join : MtOk X "str.join" "str" dJoin := by
  intro Bs B Hs H s r v vs d ds x Q E hv h hf q
  unfold dJoin at hf
  split at hf
  · split at hf
    · rename_i ys hy
      split at hf <;> cases hf
      obtain ⟨u, rfl, hh⟩ := h.one; clear h; have h := hh
      obtain ⟨a, us, rfl, h1, h2⟩ := h.lst E.sub
      have := toStrs_rp hy h2
      subst this
      rw [hv.str]
      exact ⟨_, mt_join, _, a, ys, rfl, rfl, .inl (sq_of h1), by assumption, q.val E (.str _)⟩
    · cases hf
  · cases hf
theorem RpAll.strs {K : PySem.W.Frag} {H : Hp} : ∀ l : List Str, RpAll K H (l.map V.str) (l.map D.str)
  | [] => .nil
  | x :: l => .cons (.str x) (RpAll.strs l)
def dSplit : D → List D → Option Rv
  | .str a, [.str b] => if (b.length == 0) = false ∧ a.length + 2 ≤ sizeLine then some (.new (.lst ((Txt.split a b).map .str))) else none
  | _, _ => none
theorem ok_split : MtOk X "str.split" "str" dSplit := by
  intro Bs B Hs H s r v vs d ds x Q E hv h hf q
  unfold dSplit at hf
  split at hf
  · split at hf <;> cases hf
    rename_i hz
    obtain ⟨u, rfl, hh⟩ := h.one; clear h; have h := hh
    rw [hv.str, h.str]
    exact ⟨_, mt_split, _, _, rfl, rfl, hz.1, hz.2, fun p hp => q.lst E (RpAll.strs _) hp⟩
  · cases hf
/-! ### x.append(e), x.pop(): x an own list -/
/-- the object of an own slot changes -/
theorem EnvOk.putOwn {K : PySem.W.Frag} {Bs B Hs H : Hp} {s : St} {r : Rho} (E : EnvOk K Bs B Hs H s r) {i : Nat} {o o' : Own} {a : Addr} {u : HO} (h : r[i]? = some (.own o)) (hs : s[i]? = some (some (.ref a))) (hn : OwnAt K Hs (upd H a u) a o') : EnvOk K Bs B Hs (upd H a u) s (r.set i (.own o')) := by
  obtain ⟨a', e1, h2, h3, h4⟩ := E.own i o h
  rw [hs] at e1; cases e1
  have ap : ∀ (j : Nat) oj, (r.set i .un)[j]? = some (.own oj) → s[j]? ≠ some (some (.ref a)) := fun j oj hj => by
    rw [List.getElem?_set] at hj
    by_cases e : i = j
    · subst e
      rw [if_pos rfl] at hj
      split at hj <;> cases hj
    · rw [if_neg e] at hj
      exact E.dis i j a o oj e h hj hs
  have E1 := (E.drop i).poke (o := u) h2 h3 ap
  have E2 := E1.setRv (v := .ref a) (x := .new o') ⟨a, rfl, h2, h3, hn, ap⟩ i
  rw [List.set_set] at E2
  have es : s.set i (some (.ref a)) = s := by
    apply List.ext_getElem?
    intro j
    rw [List.getElem?_set]
    by_cases e : i = j
    · subst e
      rw [if_pos rfl]
      split
      · exact hs.symm
      · rename_i hl
        rw [List.getElem?_eq_none_iff.mpr (by omega)]
    · rw [if_neg e]
  rw [es] at E2
  exact E2
def eApp (i : Nat) (ev : Ev Rv) : Ev Rv := fun r => match r[i]? with
  | some (.own (.lst _)) => (ev r).bind fun x r1 => (match r1[i]? with
    | some (.own (.lst l)) => if l.length < sizeLine then .ok (.val .non) (r1.set i (.own (.lst (l ++ [x.data])))) else .stuck
    | _ => .stuck)
  | _ => .stuck
theorem snd_app {i : Nat} {ev : Ev Rv} (ho : PE X o (tVar i)) (h : SndE X W e ev) (hbase : attributeBase o "append" X.env (eval o X.env) = eval o X.env := by rfl)
    (hfew : ((backTo cpos (starEach [e] X.env)).all (fun x => !x.1) && (backToKw cpos (keywordEach [] X.env)).all (fun x => x.1.isSome)
      && decide (([e] : List Expr).length + ([] : List Keyword).length + (if ([] : List Keyword).isEmpty then 0 else 1) < 30)) = true := by rfl)
    (hline : (apos.endLine == cpos.line) = true := by rfl) (hst : starEach [e] X.env = (false, eval e X.env) :: starEach [] X.env := by rfl) (hplain : (backTo cpos (starEach [] X.env)).any (·.1) = false := by rfl) :
    SndE X W (.Call (.Attribute o "append" apos) [e] [] cpos) (eApp i ev) := fun Bs B Hs H s r Q E q => by
  unfold eApp at q
  split at q
  case h_2 => exact False.elim q
  rename_i l0 hl0
  obtain ⟨a, h1, h2, h3, vs0, h4, h5⟩ := E.own i _ hl0
  refine ⟨_, pe_bm PySem.F.plainAttrs_list PySem.F.slot_list_append PySem.F.type_list_append mt_append ho (pa_cons pe_all pa_nil hst) hbase hfew hline hst hplain, .ref a, h1, .inl ⟨rfl, _, sq_of h4⟩, h _ _ _ _ _ _ _ E (PostE.bind q fun x r1 v Hs1 H1 _ x1 E1 ra q1 => ?_)⟩
  obtain ⟨Hs2, e2, E2, r2⟩ := RvAt.use E1 ra
  have q1 := PostE.mono e2 q1
  split at q1
  case h_2 => exact False.elim q1
  rename_i l hl
  obtain ⟨a', g1, g2, g3, vs, g4, g5⟩ := E2.own i _ hl
  rw [h1] at g1; cases g1
  split at q1
  case isFalse => exact False.elim q1
  exact ⟨a, vs, v, rfl, rfl, g4, by rw [g5.length]; assumption, q1.ok (E2.putOwn (o' := .lst (l ++ [x.data])) hl h1 ⟨_, upd_same, g5.snoc r2⟩) .non⟩
def ePop (i : Nat) : Ev Rv := fun r => match r[i]? with
  | some (.own (.lst l)) => (match l[l.length - 1]? with
    | some d => .ok (.val d) (r.set i (.own (.lst l.dropLast)))
    | none => .stuck)
  | _ => .stuck
theorem RpAll.dropLast {K : PySem.W.Frag} {H : Hp} {vs : List V} {ds : List D} (h : RpAll K H vs ds) : RpAll K H vs.dropLast ds.dropLast := by
  rw [List.dropLast_eq_take, List.dropLast_eq_take, h.length]; exact h.take _
theorem snd_pop {i : Nat} (ho : PE X o (tVar i)) (hbase : attributeBase o "pop" X.env (eval o X.env) = eval o X.env := by rfl) (hline : (apos.endLine == cpos.line) = true := by rfl) : SndE X W (.Call (.Attribute o "pop" apos) [] [] cpos) (ePop i) := fun Bs B Hs H s r Q E q => by
  unfold ePop at q
  split at q
  case h_2 => exact False.elim q
  rename_i l hl
  split at q
  case h_2 => exact False.elim q
  rename_i d hd
  obtain ⟨a, h1, h2, h3, vs, h4, h5⟩ := E.own i _ hl
  obtain ⟨v, hv, rv⟩ := h5.get hd
  exact ⟨_, pe_bm0 PySem.F.plainAttrs_list PySem.F.slot_list_pop PySem.F.type_list_pop mt_pop ho hbase hline, .ref a, h1, .inl ⟨rfl, _, sq_of h4⟩, a, vs, v, rfl, rfl, h4, by rw [h5.length]; exact hv,
    q.ok (E.putOwn (o' := .lst l.dropLast) hl h1 ⟨_, upd_same, h5.dropLast⟩) rv⟩
/-! ### x[k] = .., x an own list or dict -/
def gIx (i : Nat) (oi : Rho → Option Int) : Tg := fun d r => match r[i]?, oi r with
  | some (.own (.lst l)), some k => (match ixN l.length k with
    | some j => some (r.set i (.own (.lst (l.set j d))))
    | none => none)
  | _, _ => none
/-- an index that is written -/
theorem sng_ix {i : Nat} {b : Expr} {k : Int} (ho : PE X o (tVar i)) (hb : PE X b (tC (.int k))) (ha : ∀ v, assign (.Subscript o b pos) X.env v = (do
      let ov ← holding [v] (eval o X.env)
      let iv ← holding [v, ov] (eval b X.env)
      standAt pos
      holding [v, ov, iv] (setItem ov iv v)
      release [v, ov, iv] []) := by intro _; rfl) : SndG X (.Subscript o b pos) (gIx i fun _ => some k) [] := fun Bs B Hs H s r r' v d Q E hv e q => by
  unfold gIx at e
  split at e
  case h_2 => cases e
  rename_i l k' hl hk
  cases hk
  split at e <;> cases e
  rename_i j hj
  obtain ⟨a, h1, h2, h3, vs, h4, h5⟩ := E.own i _ hl
  refine ⟨_, pg_sub ho hb set_list ha, .ref a, h1, a, vs, k, j, rfl, rfl, h4, by rw [h5.length]; exact hj, ?_⟩
  exact q _ _ (.refl _ _) (E.putOwn (o' := .lst (l.set j d)) hl h1 ⟨_, upd_same, RpAll.set hv j h5⟩)
/-- x[b] = e, whatever b is -/
def sSetIx (i : Nat) (ev : Ev Rv) (oi : Ev Src) : Sv := fun r => (ev r).toS fun x r1 => match r1[i]? with
  | some (.own _) => (oi r1).toS fun y r2 => (match r2[i]?, y.rd r2 with
    | some (.own (.lst l)), some (.int k) => (match ixN l.length k with
      | some j => .nx (r2.set i (.own (.lst (l.set j x.data))))
      | none => .stuck)
    | _, _ => .stuck)
  | _ => .stuck
theorem sns_setix {i : Nat} {b : Expr} {ev : Ev Rv} {oi : Ev Src} {p2 : Pos} (ho : PE X o (tVar i)) (h : SndE X W e ev) (hb : SndO X W b oi) (ha : ∀ v, assign (.Subscript o b p2) X.env v = (do
      let ov ← holding [v] (eval o X.env)
      let iv ← holding [v, ov] (eval b X.env)
      standAt p2
      holding [v, ov, iv] (setItem ov iv v)
      release [v, ov, iv] []) := by intro _; rfl) (hs : swapsWithSole [.Subscript o b p2] e pos.line X.env = pure false := by rfl) (hw : swappedStores [.Subscript o b p2] e X.env = pure none := by rfl)
    (h1 : (assignEach [.Subscript o b p2] X.env).map (·.2) = [assign (.Subscript o b p2) X.env] := by rfl) : SndS X W z (.Assign [.Subscript o b p2] e pos) (sSetIx i ev oi) := fun Bs B Hs H s r D E q =>
  ⟨_, ps_asg pe_all (pg_sub ho pe_all set_list ha) hs hw h1, h _ _ _ _ _ _ _ E (PostS.toS q fun x r1 v Hs1 H1 x1 E1 ra q1 => by
    obtain ⟨Hs2, e2, E2, r2⟩ := RvAt.use E1 ra
    have q1 := PostS.mono e2 q1
    split at q1
    case h_2 => exact False.elim q1
    rename_i o0 ho0
    obtain ⟨a, h1, h2, h3, h4⟩ := E2.own i _ ho0
    refine ⟨.ref a, h1, hb _ _ _ _ _ _ _ E2 (PostS.toS q1 fun y r3 u Hs3 H3 x3 E3 rb q3 => ?_)⟩
    split at q3
    case h_2 => exact False.elim q3
    rename_i l k hl hk
    split at q3
    case h_2 => exact False.elim q3
    rename_i j hj
    obtain ⟨a', g1, g2, g3, vs, g4, g5⟩ := E3.own i _ hl
    rw [h1] at g1; cases g1
    rw [(Src.opd E3 rb hk).int]
    exact ⟨a, vs, k, j, rfl, rfl, g4, by rw [g5.length]; exact hj, q3.nx (E3.putOwn (o' := .lst (l.set j x.data)) hl h1 ⟨_, upd_same, RpAll.set (r2.mono x3) j g5⟩)⟩)⟩
def putD {A : Type} [DecidableEq A] (l : List (A × D)) (k : A) (v : D) : List (A × D) :=
  if (l.any fun p => decide (p.1 = k)) = true then l.map (fun p => if p.1 = k then (p.1, v) else p) else l ++ [(k, v)]
theorem putD_rp {A : Type} [DecidableEq A] {K : PySem.W.Frag} {H : Hp} {k : A} {v : V} {d : D} {kvs : List (A × V)} {l : List (A × D)} (h : kvs.map (·.1) = l.map (·.1)) (r : RpAll K H (kvs.map (·.2)) (l.map (·.2))) (hv : Rp K H v d) :
    (putK kvs k v).map (·.1) = (putD l k d).map (·.1) ∧ RpAll K H ((putK kvs k v).map (·.2)) ((putD l k d).map (·.2)) ∧ (putD l k d).length ≤ l.length + 1 := by
  have hany : (kvs.any fun p => decide (p.1 = k)) = (l.any fun p => decide (p.1 = k)) := by
    have e1 : (kvs.any fun p => decide (p.1 = k)) = ((kvs.map (·.1)).any fun a => decide (a = k)) := by rw [List.any_map]; rfl
    have e2 : (l.any fun p => decide (p.1 = k)) = ((l.map (·.1)).any fun a => decide (a = k)) := by rw [List.any_map]; rfl
    rw [e1, e2, h]
  unfold putK putD
  rw [hany]
  by_cases hc : (l.any fun p => decide (p.1 = k)) = true
  · rw [if_pos hc, if_pos hc]
    have m1 : ∀ {B : Type} (m : List (A × B)) (y : B), (m.map fun p => if p.1 = k then (p.1, y) else p).map (·.1) = m.map (·.1) := fun m y => by
      rw [List.map_map]
      apply List.map_congr_left
      intro p _
      show (if p.1 = k then (p.1, y) else p).1 = p.1
      split <;> rfl
    refine ⟨by rw [m1, m1]; exact h, ?_, by rw [List.length_map]; omega⟩
    clear hc hany
    induction kvs generalizing l with
    | nil => cases l with | nil => exact .nil | cons _ _ => simp at h
    | cons a kvs ih =>
      cases l with
      | nil => simp at h
      | cons b l =>
        simp only [List.map_cons, List.cons.injEq] at h
        simp only [List.map_cons] at r ⊢
        cases r with
        | cons r1 r2 =>
          refine .cons ?_ (ih h.2 r2)
          rw [h.1]
          split
          · exact hv
          · exact r1
  · rw [if_neg hc, if_neg hc]
    refine ⟨by rw [List.map_append, List.map_append, h]; rfl, ?_, by rw [List.length_append]; exact Nat.le_refl _⟩
    rw [List.map_append, List.map_append]
    exact r.append (.cons hv .nil)
def sDput (i : Nat) (ev : Ev Rv) (oi : Ev Src) : Sv := fun r => (ev r).toS fun x r1 => match r1[i]? with
  | some (.own _) => (oi r1).toS fun y r2 => (match r2[i]?, y.rd r2 with
    | some (.own (.dT l)), some (.tup ks) => (match keysD ks with
      | some k => if l.length < sizeLine then .nx (r2.set i (.own (.dT (putD l k x.data)))) else .stuck
      | none => .stuck)
    | some (.own (.dK l)), some kd => (match keyD kd with
      | some k => if l.length < sizeLine then .nx (r2.set i (.own (.dK (putD l k x.data)))) else .stuck
      | none => .stuck)
    | _, _ => .stuck)
  | _ => .stuck
theorem sns_dput {i : Nat} {b : Expr} {ev : Ev Rv} {oi : Ev Src} {p2 : Pos} (R : Rm X) (ho : PE X o (tVar i)) (h : SndE X W e ev) (hb : SndO X W b oi) (hs : swapsWith e (some (.Subscript o b p2)) pos.line X.env = pure false := by rfl) :
    SndS X W z (.Assign [.Subscript o b p2] e pos) (sDput i ev oi) := fun Bs B Hs H s r D E q =>
  ⟨_, ps_dput (by have := R.un; omega) ho pe_all pe_all hs, h _ _ _ _ _ _ _ E (PostS.toS q fun x r1 v Hs1 H1 x1 E1 ra q1 => by
    obtain ⟨Hs2, e2, E2, r2⟩ := RvAt.use E1 ra
    have q1 := PostS.mono e2 q1
    split at q1
    case h_2 => exact False.elim q1
    rename_i o0 ho0
    obtain ⟨a, h1, h2, h3, h4⟩ := E2.own i _ ho0
    refine ⟨.ref a, h1, hb _ _ _ _ _ _ _ E2 (PostS.toS q1 fun y r3 u Hs3 H3 x3 E3 rb q3 => ?_)⟩
    split at q3
    · rename_i l ks hl hk
      split at q3
      case h_2 => exact False.elim q3
      rename_i k hkk
      split at q3
      case isFalse => exact False.elim q3
      obtain ⟨a', g1, g2, g3, kvs, g4, g5, g6⟩ := E3.own i _ hl
      rw [h1] at g1; cases g1
      obtain ⟨b', us, rfl, k1, k2, _⟩ := (Src.opd E3 rb hk).tup E3.sub
      have := keysD_rp k2 hkk
      subst this
      obtain ⟨p1, p2, p3⟩ := putD_rp (k := k) g5 g6 (r2.mono x3)
      have hl' : kvs.length = l.length := by have := congrArg List.length g5; simpa using this
      exact ⟨a, _, rfl, DPut.t g4 k1 (by rw [hl']; assumption), q3.nx (E3.putOwn (o' := .dT (putD l k x.data)) hl h1 ⟨_, upd_same, p1, p2⟩)⟩
    · rename_i l kd hl hk
      split at q3
      case h_2 => exact False.elim q3
      rename_i k hkk
      split at q3
      case isFalse => exact False.elim q3
      obtain ⟨a', g1, g2, g3, kvs, g4, g5, g6⟩ := E3.own i _ hl
      rw [h1] at g1; cases g1
      have : u = kV k := keyD_rp ((Src.opd E3 rb hk).rp E3.sub) hkk
      subst this
      obtain ⟨p1, p2, p3⟩ := putD_rp (k := k) g5 g6 (r2.mono x3)
      have hl' : kvs.length = l.length := by have := congrArg List.length g5; simpa using this
      exact ⟨a, _, rfl, DPut.k g4 (by rw [hl']; assumption), q3.nx (E3.putOwn (o' := .dK (putD l k x.data)) hl h1 ⟨_, upd_same, p1, p2⟩)⟩
    · exact False.elim q3)⟩
/-! {} -/
def eDT : Ev Rv := fun r => .ok (.new (.dT [])) r
def eDK : Ev Rv := fun r => .ok (.new (.dK [])) r
theorem snd_dt : SndE X W (.Dict [] [] pos) eDT := fun Bs B Hs H s r Q E q => ⟨_, pe_dnewT, fun p hp => (PostE.prim E q).newO E hp ⟨[], upd_same, rfl, .nil⟩⟩
theorem snd_dk : SndE X W (.Dict [] [] pos) eDK := fun Bs B Hs H s r Q E q => ⟨_, pe_dnewK, fun p hp => (PostE.prim E q).newO E hp ⟨[], upd_same, rfl, .nil⟩⟩
/-! texts with fields -/
def JOk (X : Cx) (W : WX) : List Expr → List (Ev Src) → Prop
  | [], [] => True
  | e :: es, o :: os => SndO X W e o ∧ JOk X W es os
  | _, _ => False
def eJoin : List (Ev Src) → Str → Rho → EO Str
  | [], acc, r => .ok acc r
  | o :: os, acc, r => (o r).bind fun x r1 => match x.rd r1 with
    | some (.str y) => if (acc ++ y).length ≤ sizeLine then eJoin os (acc ++ y) r1 else .stuck
    | _ => .stuck
def eJs (os : List (Ev Src)) : Ev Rv := fun r => (eJoin os Str.empty r).bind fun x r1 => .ok (.val (.str x)) r1
def oFmt (oa : Ev Src) : Ev Src := fun r => (oa r).bind fun x r1 => match x.rd r1 with
  | some (.str y) => if y.length ≤ sizeLine then .ok (.dat (.str y)) r1 else .stuck
  | some (.int i) => if i.natAbs.log2 < 1920 then .ok (.dat (.str (toString i))) r1 else .stuck
  | _ => .stuck
theorem sno_fmt {oa : Ev Src} (h : SndO X W e oa) : SndO X W (.FormattedValue e (-1) none pos) (oFmt oa) := fun Bs B Hs H s r Q E q =>
  ⟨_, pe_fmt pe_all, h _ _ _ _ _ _ _ E (PostE.bind q fun x r1 v Hs1 H1 _ x1 E1 ra q1 => by
    split at q1
    · rename_i y hy
      split at q1
      · rw [(Src.opd E1 ra hy).str]
        exact .inl ⟨y, rfl, by assumption, q1.ok E1 (show Rp X.K Hs1 _ _ from .str y)⟩
      · exact False.elim q1
    · rename_i i hi
      split at q1
      · rw [(Src.opd E1 ra hi).int]
        exact .inr ⟨i, rfl, by assumption, q1.ok E1 (show Rp X.K Hs1 _ _ from .str _)⟩
      · exact False.elim q1
    · exact False.elim q1)⟩
theorem pj_of : ∀ {es : List Expr} {os : List (Ev Src)}, JOk X W es os → PJ X es (es.map (aE X))
  | [], [], _ => .nil
  | [], _ :: _, h => False.elim h
  | _ :: _, [], h => False.elim h
  | _ :: es, _ :: os, h => .cons pe_all (pj_of h.2)
theorem js_core {Bs B : Hp} {s : St} : ∀ {es : List Expr} {os : List (Ev Src)} {acc : Str} {Hs H : Hp} {r : Rho} {Q : Str → Hp → Prop}, JOk X W es os → EnvOk X.K Bs B Hs H s r →
    PostE X.K W Bs B Hs s (fun _ _ _ (y : Str) z => y = z) Q (eJoin os acc r) → tJs (es.map (aE X)) acc s H Q
  | [], [], acc, Hs, H, r, Q, _, E, q => q.ok E rfl
  | [], _ :: _, _, _, _, _, _, h, _, _ => False.elim h
  | _ :: _, [], _, _, _, _, _, h, _, _ => False.elim h
  | e :: es, o :: os, acc, Hs, H, r, Q, h, E, q => h.1 _ _ _ _ _ _ _ E (PostE.bind q fun x r1 v Hs1 H1 _ x1 E1 ra q1 => by
    split at q1
    · rename_i y hy
      split at q1
      · rw [(Src.opd E1 ra hy).str]
        exact ⟨y, rfl, by assumption, js_core h.2 E1 q1⟩
      · exact False.elim q1
    · exact False.elim q1)
theorem snd_js {v1 v2 : Expr} {rest : List Expr} {os : List (Ev Src)} (h : JOk X W (v1 :: v2 :: rest) os) : SndE X W (.JoinedStr (v1 :: v2 :: rest) pos) (eJs os) := fun Bs B Hs H s r Q E q =>
  ⟨_, pe_joined (pj_of h), js_core h E (PostE.bind q fun x r1 y Hs1 H1 _ x1 E1 ra q1 => by
    have ra : y = x := ra
    subst ra
    exact q1.ok E1 (show Rp X.K Hs1 _ _ from .str y))⟩
end
end Mp
set_option Elab.async false
set_option linter.all false
set_option maxRecDepth 100000
namespace Mp
open PySem PyProof.Rows L2 Evl
/-! ### a def's promise, where no repr runs around the call -/
structure FnG (P : Program) (w : World) (K : PySem.W.Frag) (mg : Str → Option Value) (base : Heap) (k : Nat) (f : Addr) (fd : FuncData) (ps : List Str) (sp : Sp) : Prop where
  len : ∀ vs H Q E, sp vs H Q E → vs.length = ps.length
  run : ∀ (A : Around) (outer : List Env) (s : Shared) (H : Hp) (args : Args) (us : List Value) (vs : List V) (Q : VK) (E : XK),
    Room k A → A.guards = some [] → Env0 P w K mg base A outer s H → BindsTo s fd args (ps.zip us) → Vals vs us → sp vs H Q E →
    codeAny (model P w) A (.call (.ref f) args) (CR (L2.CX P w) outer P w H s Q E) s
section
variable {P : Program} {w : World} {K : PySem.W.Frag} {mg : Str → Option Value} {base : Heap}
/-- by its body -/
theorem fng_of {x qual : Str} {st : Stmt} {f : Addr} {fd : FuncData} {N ps : List Str} {k : Nat} {sp : Sp} (F : Fun K x qual st f fd) (S : FnScope N ps (defScope st))
    (len : ∀ vs H Q E, sp vs H Q E → vs.length = ps.length)
    (hbody : ∀ (cdv : Value) (A : Around) (outer : List Env) (s : Shared) (H : Hp) (vs : List V) (Q : VK) (E : XK),
      Room k (A.deeper (envOfC qual (defScope st) s.heap.objs.size f cdv)) → A.guards = some [] → sp vs H Q E →
      aSs (cxOf (L2.CX P w) P w K mg base N qual (defScope st) f cdv A outer s H E) (defBody st) { nx := fun _ H' => Q .non H', rt := Q } (start N vs) H) :
    FnG P w K mg base (k + 1) f fd ps sp := by
  obtain ⟨oc, od, kV, doc, pm, an, cdv, ct, osl, rfl, lk, hcd⟩ := F.ex
  constructor
  · exact len
  intro A outer s H args us vs Q E room gd env bind rv want
  have nvs : vs.length = ps.length := len _ _ _ _ want
  have inK : K.In s.heap := env.mod.kin.keeps fun b o e => (env.bs b o e).1
  have noLim : s.heap.NoLimit := env.mod.nolimit.keeps fun b o e => (env.bs b o e).1
  have kinds : ∀ y ∈ ps.zip us, (defScope st).names.lookup y.1 = some .local ∨
      ((defScope st).names.lookup y.1 = some .cell ∧ ((cellsFrom (s.heap.objs.size + 1) (defScope st).names []).lookup y.1).isSome = true) := by
    rintro ⟨n, v⟩ hy
    cases S.par n (List.of_mem_zip hy).1 with
    | inl q => exact .inl q
    | inr q => exact .inr ⟨q, PySem.W.cellsFrom_some _ _ _ (.inl q)⟩
  refine codeAny_call_function room.depth (inK _ _ lk) rfl S.co S.gen rfl (PySem.W.codeRec_of inK hcd) ?_
  refine bind _ _ _ _ ?_
  refine wpAny_newFunctionEnv_cells S.kind kinds ?_
  intro env' he s1 made
  subst he
  refine ⟨noLim.keeps made.toInCall.keep, ?_⟩
  refine codeAny_func ?_
  obtain ⟨t, ht, hq⟩ := hbody cdv A outer s H vs Q E (room.deeper _) gd want
  have I := inv_start (CX := L2.CX P w) (E := E) S room.hd env nvs rv made
  have fin : ∀ {σ' : L2.St} {H' : Hp} {v : V} {u : Value} {s' : Shared}, Inv (cxOf (L2.CX P w) P w K mg base N qual (defScope st) f cdv A outer s H E) [] σ' H' s' → RelV v u → Q v H' → CE outer P w H s Q u s' :=
    fun J rv q => ⟨_, _, J.os, J.bare, J.base, J.hok, rv, q⟩
  refine wpAny_mono (ht.run [] s1 (start N vs) H _ I hq) ?_ fun e s' hs => hs
  intro fl s' hs
  cases fl with
  | next => obtain ⟨σ', H', J, q⟩ := hs; exact fin (v := .non) (u := .none) J rfl q
  | ret u => obtain ⟨v, σ', H', J, rv, q⟩ := hs; exact fin J rv q
  | brk => obtain ⟨_, _, _, q⟩ := hs; exact q.elim
  | cont => obtain ⟨_, _, _, q⟩ := hs; exact q.elim
end
/-! ### what is called: a value g with n arguments and keywords ks -/
def CallAt (X : Cx) (g : Value) (n : Nat) (ks : List Str) (rr : List V → List V → L2.St → Hp → VK → Prop) : Prop :=
  ∀ (pins : List (Addr × Obj)) (s : Shared) (σ : L2.St) (H : Hp) (vs zs : List V) (us ws : List Value) (Q : VK), Inv X pins σ H s → Vals vs us → Vals zs ws → vs.length = n → zs.length = ks.length → rr vs zs σ H Q →
    wpAny (model X.prog X.w) X.A (call g us (ks.zip ws)) (EP X pins σ Q) X.xe s
/-- the places of the arguments, positional ones and keywords in a row, in the order of the parameters -/
def sel {A : Type} (is : List Nat) (l : List A) : List A := is.filterMap fun i => l[i]?
theorem Vals.sel {is : List Nat} {vs : List V} {us : List Value} (h : Vals vs us) : Vals (sel is vs) (sel is us) := by
  induction is with
  | nil => exact .nil
  | cons i is ih =>
    unfold Mp.sel
    rw [List.filterMap_cons, List.filterMap_cons]
    cases e : vs[i]? with
    | none => rw [h.none_of e]; exact ih
    | some v =>
      obtain ⟨u, hu, r⟩ := h.get e
      rw [hu]; exact .cons r ih
theorem RpAll.sel {K : PySem.W.Frag} {H : Hp} {is : List Nat} {vs : List V} {ds : List D} (h : RpAll K H vs ds) : RpAll K H (sel is vs) (sel is ds) := by
  induction is with
  | nil => exact .nil
  | cons i is ih =>
    unfold Mp.sel
    rw [List.filterMap_cons, List.filterMap_cons]
    cases e : ds[i]? with
    | none =>
      have : vs[i]? = none := by
        rw [List.getElem?_eq_none_iff] at e ⊢
        rw [h.length]; exact e
      rw [this]; exact ih
    | some d =>
      obtain ⟨v, hv, r⟩ := h.get e
      rw [hv]; exact .cons r ih
structure KB (K : PySem.W.Frag) (fd : FuncData) (ps : List Str) (n : Nat) (ks : List Str) (is : List Nat) : Prop where
  to : ∀ (s : Shared) (us ws : List Value), K.In s.heap → us.length = n → ws.length = ks.length → BindsTo s fd ⟨us, ks.zip ws⟩ (ps.zip (sel is (us ++ ws)))
/-- by computation: h is «fun kV doc pm an cdv ct us ws h1 h2 => match us, ws, h1, h2 with | [_, _], [], _, _ => rfl» -/
theorem kb_of {K : PySem.W.Frag} {x qual : Str} {st : Stmt} {f : Addr} {fd : FuncData} {ps ks : List Str} {n : Nat} {is : List Nat} (F : Fun K x qual st f fd)
    (h : ∀ (kV doc pm : Value) (an : Option Addr) (cdv ct : Value) (us ws : List Value), us.length = n → ws.length = ks.length → bindArgs (PySem.W.fnOf x qual (defArgs st) (defBody st) (defScope st) .none kV doc pm an cdv ct) ⟨us, ks.zip ws⟩ = pure (ps.zip (sel is (us ++ ws)))) : KB K fd ps n ks is := by
  obtain ⟨oc, od, kV, doc, pm, an, cdv, ct, osl, rfl, lk, hcd⟩ := F.ex
  exact ⟨fun s us ws _ h1 h2 => .of_eq (h kV doc pm an cdv ct us ws h1 h2)⟩
section
variable {X : Cx} {W : WX} {k n : Nat} {f C : Addr} {fd : FuncData} {ps ks : List Str} {is : List Nat} {sp : Sp}
/-- where a raise goes -/
theorem goes_out (tk : Takes X W) {pins : List (Addr × Obj)} {σ : L2.St} {H : Hp} {s : Shared} {e : Value} {s' : Shared} (I : Inv X pins σ H s) (h : L2.CX X.prog X.w X.stack H s (fun c d H' => W c d σ H') e s') : X.xe e s' :=
  passAt tk σ pins H s e s' I h
theorem call_fng (F : FnG X.prog X.w X.K X.mg X.base k f fd ps sp) (hr : Room k X.A) (hg : X.A.guards = some []) (hb : KB X.K fd ps n ks is) (tk : Takes X W) :
    CallAt X (.ref f) n ks fun vs zs σ H Q => sp (sel is (vs ++ zs)) H Q fun c d H' => W c d σ H' := by
  intro pins s σ H vs zs us ws Q I r rz h1 h2 want
  have r2 : Vals (sel is (vs ++ zs)) (sel is (us ++ ws)) := Vals.sel (r.append rz)
  refine wpAny_call (codeAny_mono (F.run X.A X.stack s H ⟨us, ks.zip ws⟩ _ _ Q _ hr hg I.env0 (hb.to s us ws I.kIn (r.length.symm.trans h1) (rz.length.symm.trans h2)) r2 want) ?_)
  intro res s' hq
  match res, hq with
  | .ok (.ret u), hq => exact I.after hq
  | .error e, hq => exact goes_out tk I hq
theorem guards_make {A : Around} {C : Addr} {us : List Value} {kw : List (Str × Value)} (h : A.guards = some []) : (A.under (.builtin "type.__call__" ⟨.ref C :: us, kw⟩)).guards = some [] := by
  first | exact h | simp [Around.under, pushGuards, Code.guards, Code.isGuard, guardIds, h]
/-- C(..): __init__'s promise upon the new instance -/
theorem call_make (M : Mk X.K C f) (F : FnG X.prog X.w X.K X.mg X.base k f fd ps sp) (hr : Room (k + 1) X.A) (hg : X.A.guards = some []) (hb : KB X.K fd ps (n + 1) ks is) (tk : Takes X W) :
    CallAt X (.ref C) n ks fun vs zs σ H Q => ∀ x dx, H x = none → H dx = none → dx ≠ x →
      sp (sel is ((.ref x :: vs) ++ zs)) (upd (upd H dx (.own x)) x (.ins C dx [])) (fun v H2 => v = .non ∧ Q (.ref x) H2) fun c d H' => W c d σ H' := by
  intro pins s σ H vs zs us ws Q I r rz h1 h2 want
  have want := want (s.heap.objs.size + 1) s.heap.objs.size (I.hok.fresh (Nat.le_succ _)) (I.hok.fresh (Nat.le_refl _)) (Nat.ne_of_lt (Nat.lt_succ_self _))
  have J := Inv.made (C := C) I
  have r1 : Vals (V.ref (s.heap.objs.size + 1) :: vs) (Value.ref (s.heap.objs.size + 1) :: us) := .cons rfl r
  have n1 : (Value.ref (s.heap.objs.size + 1) :: us).length = n + 1 := by
    rw [List.length_cons, ← r.length, h1]
  refine wpAny_call (make_map (f := f) I.kIn M.makes M.init (beq_iff_eq.mp M.fn) ?_)
  refine codeAny_mono (F.run _ X.stack _ _ ⟨Value.ref (s.heap.objs.size + 1) :: us, ks.zip ws⟩ _ _ _ _ (hr.make C us (ks.zip ws)) (guards_make hg)
    (J.env0.make C us (ks.zip ws)) (hb.to _ (Value.ref (s.heap.objs.size + 1) :: us) ws J.kIn n1 (rz.length.symm.trans h2)) (Vals.sel (r1.append rz)) want) ?_
  intro res s' hq
  match res, hq with
  | .ok (.ret u), hq =>
    obtain ⟨v, H', I3, rv, ev, q3⟩ := J.after hq
    subst ev
    exact ⟨rv, V.ref (s.heap.objs.size + 1), H', I3, rfl, q3⟩
  | .error e, hq => exact goes_out tk J hq
/-! ### the four forms of a call, of a global name -/
variable {rr : List V → List V → L2.St → Hp → VK → Prop} {x m : Str} {p pos apos : Pos} {e o : Expr} {es : List Expr} {kws : List Keyword} {t tk : TA} {g : Addr}
def tCA (rr : List V → List V → L2.St → Hp → VK → Prop) (n m : Nat) (t tk : TA) : TE := fun σ H Q => t σ H fun vs H1 => tk σ H1 fun zs H2 => vs.length = n ∧ zs.length = m ∧ rr vs zs σ H2 Q
theorem pe_ca (c : CallAt X (.ref g) n [] rr) (hg : Gl X x) (hm : X.mg x = some (.ref g)) (hk : PySem.W.keepIn X.K (.ref g) = true) (ha : PA X (e :: es) t) (hdb : (x == ("__debug__" : Str)) = false := by decide)
    (he : starEach (e :: es) X.env = (false, eval e X.env) :: starEach es X.env := by rfl) (hpl : (backTo pos (starEach es X.env)).any (·.1) = false := by rfl) : PE X (.Call (.Name x p) (e :: es) [] pos) (tCA rr n 0 t tNil) := by
  constructor
  intro pins s σ H Q I h
  refine wpAny_Call_Name_kw (ld_glob I hg hm ?_ hdb)
  refine PySem.W.callWith_K (h₀ := X.base) I.ok.mod.kin hk ?_ he hpl
  refine thn (ha.run pos pins s σ H _ I h) ?_
  rintro us s1 ⟨vs, H1, I1, r, q⟩
  obtain ⟨l1, l2, q⟩ := q
  exact ⟨I1.kIn, c pins s1 σ H1 vs [] us [] Q I1 r .nil l1 l2 q⟩
theorem pe_ca0 (c : CallAt X (.ref g) 0 [] rr) (hg : Gl X x) (hm : X.mg x = some (.ref g)) (hk : PySem.W.keepIn X.K (.ref g) = true) (hdb : (x == ("__debug__" : Str)) = false := by decide) : PE X (.Call (.Name x p) [] [] pos) (tCA rr 0 0 tNil tNil) := by
  constructor
  intro pins s σ H Q I h
  refine wpAny_Call_Name_kw (ld_glob I hg hm ?_ hdb)
  obtain ⟨l1, l2, q⟩ := h
  exact PySem.W.callWith_K0 I.kIn hk (c pins s σ H [] [] [] [] Q I .nil .nil l1 l2 q)
theorem pe_caK (c : CallAt X (.ref g) n ks rr) (hg : Gl X x) (hm : X.mg x = some (.ref g)) (hk : PySem.W.keepIn X.K (.ref g) = true) (ha : PA X (e :: es) t) (hkw : PK X kws tk)
    (hall : (backToKw pos (keywordEach kws X.env)).all (·.1.isSome) = true := by rfl) (hks : (backToKw pos (keywordEach kws X.env)).filterMap (·.1) = ks := by rfl)
    (hdb : (x == ("__debug__" : Str)) = false := by decide) (he : starEach (e :: es) X.env = (false, eval e X.env) :: starEach es X.env := by rfl)
    (hpl : ((backTo pos (starEach (e :: es) X.env)).any (·.1) || (backToKw pos (keywordEach kws X.env)).any (·.1.isNone)) = false := by rfl) : PE X (.Call (.Name x p) (e :: es) kws pos) (tCA rr n ks.length t tk) := by
  constructor
  intro pins s σ H Q I h
  refine wpAny_Call_Name_kw (ld_glob I hg hm ?_ hdb)
  refine PySem.W.callWith_KW (h₀ := X.base) I.ok.mod.kin hk hall ?_ hpl he
  refine thn (ha.run pos pins s σ H _ I h) ?_
  rintro us s1 ⟨vs, H1, I1, r, q⟩
  refine thn (hkw.run pos pins s1 σ H1 _ I1 q) ?_
  rintro ws s2 ⟨zs, H2, I2, rz, l1, l2, q2⟩
  rw [hks]
  exact ⟨I2.kIn, c pins s2 σ H2 vs zs us ws Q I2 r rz l1 l2 q2⟩
theorem pe_caK0 (c : CallAt X (.ref g) 0 ks rr) (hg : Gl X x) (hm : X.mg x = some (.ref g)) (hk : PySem.W.keepIn X.K (.ref g) = true) (hkw : PK X kws tk)
    (hall : (backToKw pos (keywordEach kws X.env)).all (·.1.isSome) = true := by rfl) (hks : (backToKw pos (keywordEach kws X.env)).filterMap (·.1) = ks := by rfl) (hdb : (x == ("__debug__" : Str)) = false := by decide)
    (hpl : ((backTo pos (starEach [] X.env)).any (·.1) || (backToKw pos (keywordEach kws X.env)).any (·.1.isNone)) = false := by rfl) : PE X (.Call (.Name x p) [] kws pos) (tCA rr 0 ks.length tNil tk) := by
  constructor
  intro pins s σ H Q I h
  refine wpAny_Call_Name_kw (ld_glob I hg hm ?_ hdb)
  refine PySem.W.callWith_KW0 (h₀ := X.base) I.ok.mod.kin hk hall ?_ hpl
  refine thn (hkw.run pos pins s σ H _ I h) ?_
  rintro ws s2 ⟨zs, H2, I2, rz, l1, l2, q2⟩
  rw [hks]
  exact ⟨I2.kIn, c pins s2 σ H2 [] zs [] ws Q I2 .nil rz l1 l2 q2⟩
/-! ### .. of a method of an own class's instance -/
def tCM (C : Addr) (m : Str) (rr : List V → List V → L2.St → Hp → VK → Prop) (n k : Nat) (to : TE) (t tk : TA) : TE := fun σ H Q => to σ H fun x H1 => ∃ a dx fs, x = .ref a ∧ H1 a = some (.ins C dx fs) ∧ fs.lookup m = none ∧
  t σ H1 fun vs H2 => tk σ H2 fun zs H3 => vs.length + 1 = n ∧ zs.length = k ∧ rr (.ref a :: vs) zs σ H3 Q
variable {to : TE} {pl : Sem Bool}
theorem pe_cm (c : CallAt X (.ref g) n [] rr) (he : PE X o to) (cl : Cls X.K C) (hm : Meth X.K C m g) (ha : PA X (e :: es) t)
    (hst : starEach (e :: es) X.env = (false, eval e X.env) :: starEach es X.env := by rfl) (hpl : (backTo pos (starEach es X.env)).any (·.1) = false := by rfl)
    (ht : eval (.Call (.Attribute o m apos) (e :: es) [] pos) X.env = (eval o X.env >>= fun ov => standAt apos.atName >>= fun _ => holding [ov] (getMethod ov m pl) >>= fun r =>
      callWith pos r.1 r.2 (backTo pos (starEach (e :: es) X.env)) (backToKw pos (keywordEach [] X.env))) := by rfl) :
    PE X (.Call (.Attribute o m apos) (e :: es) [] pos) (tCM C m rr n 0 to t tNil) := by
  constructor
  intro pins s σ H Q I h
  refine PySem.W.methodCall_KW (pl := pl) (thn (he.run pins s σ H _ I h) ?_) ht
  rintro u s1 ⟨x, H1, I1, rx, a, dx, fs, rfl, ea, l, q⟩
  obtain rfl : u = Value.ref a := rx
  refine getmeth_ok I1 ea cl hm l ?_
  refine PySem.W.callWith_K (first := [.ref a]) (h₀ := X.base) I.ok.mod.kin hm.kp ?_ hst hpl
  refine thn (ha.run pos pins s1 σ H1 _ I1 q) ?_
  rintro us s2 ⟨vs, H2, I2, r, l1, l2, q2⟩
  exact ⟨I2.kIn, c pins s2 σ H2 (.ref a :: vs) [] (.ref a :: us) [] Q I2 (.cons rfl r) .nil l1 l2 q2⟩
theorem pe_cmK0 (c : CallAt X (.ref g) 1 ks rr) (he : PE X o to) (cl : Cls X.K C) (hm : Meth X.K C m g) (hkw : PK X kws tk)
    (hall : (backToKw pos (keywordEach kws X.env)).all (·.1.isSome) = true := by rfl) (hks : (backToKw pos (keywordEach kws X.env)).filterMap (·.1) = ks := by rfl)
    (hpl : ((backTo pos (starEach [] X.env)).any (·.1) || (backToKw pos (keywordEach kws X.env)).any (·.1.isNone)) = false := by rfl)
    (ht : eval (.Call (.Attribute o m apos) [] kws pos) X.env = (eval o X.env >>= fun ov => standAt apos.atName >>= fun _ => holding [ov] (getMethod ov m pl) >>= fun r =>
      callWith pos r.1 r.2 (backTo pos (starEach [] X.env)) (backToKw pos (keywordEach kws X.env))) := by rfl) :
    PE X (.Call (.Attribute o m apos) [] kws pos) (tCM C m rr 1 ks.length to tNil tk) := by
  constructor
  intro pins s σ H Q I h
  refine PySem.W.methodCall_KW (pl := pl) (thn (he.run pins s σ H _ I h) ?_) ht
  rintro u s1 ⟨x, H1, I1, rx, a, dx, fs, rfl, ea, l, q⟩
  obtain rfl : u = Value.ref a := rx
  refine getmeth_ok I1 ea cl hm l ?_
  refine PySem.W.callWith_KW0 (first := [.ref a]) (h₀ := X.base) I.ok.mod.kin hm.kp hall ?_ hpl
  refine thn (hkw.run pos pins s1 σ H1 _ I1 q) ?_
  rintro ws s2 ⟨zs, H2, I2, rz, l1, l2, q2⟩
  rw [hks]
  exact ⟨I2.kIn, c pins s2 σ H2 [.ref a] zs [.ref a] ws Q I2 (.cons rfl .nil) rz l1 l2 q2⟩
end
end Mp
set_option Elab.async false
set_option linter.all false
set_option maxRecDepth 100000
namespace Mp
open PySem PyProof.Rows L2 Evl
/-! ### what a def comes to, as a function of data -/
inductive FO where
  | stuck | val (d : D) | new (o : Own) | exc (x : Exn)
/-- what is asked behind a call, for what it comes to -/
def AskF (K : PySem.W.Frag) (Hs H : Hp) (Q : VK) (E : XK) : FO → Prop
  | .stuck => False
  | .val d => ∀ v Hs' H', Step Hs H Hs' H' → Rp K Hs' v d → Q v H'
  | .new o => ∀ a Hs' H', Step Hs H Hs' H' → H a = none → Hs' a = none → OwnAt K Hs' H' a o → Q (.ref a) H'
  | .exc x => ∀ cls d Hs' H', Step Hs H Hs' H' → ExAt K Hs' H' cls d x → E cls d H'
/-- a def that changes nothing of what it is given -/
def spP (K : PySem.W.Frag) (n : Nat) (F : List D → FO) : Sp := fun vs H Q E => ∃ Hs ds, Ex Hs H ∧ RpAll K Hs vs ds ∧ ds.length = n ∧ AskF K Hs H Q E (F ds)
/-- what stands elsewhere stays; at x it may change -/
structure StepM (x : Addr) (Hs H Hs' H' : Hp) : Prop where
  sh : Ex Hs Hs'
  sub : Ex Hs' H'
  fr : ∀ b o, b ≠ x → H b = some o → Hs b = none → Hs' b = none ∧ H' b = some o
  at_ : Hs' x = none
def AskM (K : PySem.W.Frag) (x : Addr) (Hs H : Hp) (Q : VK) (E : XK) (o' : Own) : FO → Prop
  | .stuck => False
  | .val d => ∀ v Hs' H', StepM x Hs H Hs' H' → OwnAt K Hs' H' x o' → Rp K Hs' v d → Q v H'
  | .new o => ∀ a Hs' H', StepM x Hs H Hs' H' → OwnAt K Hs' H' x o' → a ≠ x → (H a = none) → Hs' a = none → OwnAt K Hs' H' a o → Q (.ref a) H'
  | .exc y => ∀ cls d Hs' H', StepM x Hs H Hs' H' → OwnAt K Hs' H' x o' → ExAt K Hs' H' cls d y → E cls d H'
/-- a def that may change its first argument, which nobody else holds -/
def spM (K : PySem.W.Frag) (n : Nat) (F : Own → List D → FO × Own) : Sp := fun vs H Q E => ∃ Hs x us o ds, vs = .ref x :: us ∧ Ex Hs H ∧ Hs x = none ∧ OwnAt K Hs H x o ∧ RpAll K Hs us ds ∧ ds.length + 1 = n ∧
  AskM K x Hs H Q E (F o ds).2 (F o ds).1
def startR (N : Nat) (ds : List D) : Rho := ds.map .val ++ List.replicate (N - ds.length) .un
def startM (N : Nat) (o : Own) (ds : List D) : Rho := .own o :: (ds.map .val ++ List.replicate (N - (ds.length + 1)) .un)
def foOf : SO → FO
  | .nx _ => .val .non
  | .ret (.val d) _ => .val d
  | .ret (.new o) _ => .new o
  | .exc x _ => .exc x
  | _ => .stuck
def runP (N : Nat) (sv : Sv) (ds : List D) : FO := foOf (sv (startR N ds))
def ownOf : Rho → Option Own
  | .own o :: _ => some o
  | _ => none
def runM (N : Nat) (sv : Sv) (o : Own) (ds : List D) : FO × Own := match sv (startM N o ds) with
  | .nx r => (match ownOf r with
    | some o' => (.val .non, o')
    | none => (.stuck, o))
  | .ret (.val d) r => (match ownOf r with
    | some o' => (.val d, o')
    | none => (.stuck, o))
  | .ret (.new d) r => (match ownOf r with
    | some o' => (.new d, o')
    | none => (.stuck, o))
  | .exc x r => (match ownOf r with
    | some o' => (.exc x, o')
    | none => (.stuck, o))
  | _ => (.stuck, o)
theorem start_get {N : List Str} {vs : List V} {i : Nat} {v : V} (h : vs[i]? = some v) : (L2.start N vs)[i]? = some (some v) := by
  unfold L2.start
  have hi : i < vs.length := (List.getElem?_eq_some_iff.mp h).1
  rw [List.getElem?_append_left (by rw [List.length_map]; exact hi), List.getElem?_map, h]; rfl
theorem env_start {K : PySem.W.Frag} {Hs H : Hp} (e : Ex Hs H) {N : List Str} {vs : List V} {ds : List D} (r : RpAll K Hs vs ds) (hn : ds.length ≤ N.length) : EnvOk K Hs H Hs H (L2.start N vs) (startR N.length ds) := by
  have hl := r.length
  have key : ∀ (i : Nat) c, (startR N.length ds)[i]? = some c → (∃ d, ds[i]? = some d ∧ c = .val d) ∨ c = .un := fun i c h => by
    unfold startR at h
    by_cases hi : i < ds.length
    · rw [List.getElem?_append_left (by rw [List.length_map]; exact hi), List.getElem?_map, List.getElem?_eq_getElem hi] at h
      exact .inl ⟨_, List.getElem?_eq_getElem hi, (Option.some.inj h).symm⟩
    · rw [List.getElem?_append_right (by rw [List.length_map]; omega), List.getElem?_replicate] at h
      split at h
      · exact .inr (Option.some.inj h).symm
      · cases h
  refine ⟨e, Ex.refl _, fun b o h n => ⟨n, h⟩, e, ?_, fun i d h => ?_, fun i o h => ?_, fun i j a oi oj ne h => ?_⟩
  · unfold L2.start startR
    rw [List.length_append, List.length_append, List.length_map, List.length_map, List.length_replicate, List.length_replicate, hl]
  · rcases key i _ h with ⟨d', h1, h2⟩ | h2
    · cases h2
      obtain ⟨v, hv, rv⟩ := r.get h1
      exact ⟨v, start_get hv, rv⟩
    · cases h2
  · rcases key i _ h with ⟨d', h1, h2⟩ | h2 <;> cases h2
  · rcases key i _ h with ⟨d', h1, h2⟩ | h2 <;> cases h2
theorem EnvOk.stepOf {K : PySem.W.Frag} {Hs H Hs' H' : Hp} {s : L2.St} {r : Rho} (E : EnvOk K Hs H Hs' H' s r) : Step Hs H Hs' H' := ⟨E.ext1, E.sub, fun b o h n => E.ext2 b o h n⟩
section
variable {P : Program} {w : World} {K : PySem.W.Frag} {mg : Str → Option Value} {base : Heap}
/-- a def that changes nothing of what it is given, by its body -/
theorem fn_pure {x qual : Str} {st : Stmt} {f : Addr} {fd : FuncData} {N ps : List Str} {k : Nat} {sv : Sv} (F : Fun K x qual st f fd) (S : FnScope N ps (defScope st)) (hn : ps.length ≤ N.length)
    (hbody : ∀ (cdv : Value) (A : Around) (outer : List Env) (s : Shared) (H : Hp) (E : XK),
      Room k (A.deeper (envOfC qual (defScope st) s.heap.objs.size f cdv)) → A.guards = some [] →
      SndSs (cxOf (L2.CX P w) P w K mg base N qual (defScope st) f cdv A outer s H E) (fun c d _ H' => E c d H') false (defBody st) sv) :
    FnG P w K mg base (k + 1) f fd ps (spP K ps.length (runP N.length sv)) := by
  refine fng_of F S (fun vs H Q E h => ?_) fun cdv A outer s H vs Q E room gd want => ?_
  · obtain ⟨Hs, ds, _, r, hl, _⟩ := h
    rw [r.length, hl]
  · obtain ⟨Hs, ds, e, r, hl, ask⟩ := want
    refine hbody cdv A outer s H E room gd Hs H Hs H (L2.start N vs) (startR N.length ds) _ (env_start e r (by omega)) ?_
    show PostS K _ _ _ _ _ _ _ (sv (startR N.length ds))
    unfold runP at ask
    cases hm : sv (startR N.length ds) with
    | stuck => rw [hm] at ask; exact ask
    | bk r => rw [hm] at ask; exact False.elim ask
    | ct r => rw [hm] at ask; exact False.elim ask
    | nx r =>
      rw [hm] at ask
      exact fun s1 Hs' H' _ _ E' => ask .non Hs' H' E'.stepOf .non
    | exc y r =>
      rw [hm] at ask
      exact fun c d s1 Hs' H' _ _ E' hx => ask c d Hs' H' E'.stepOf hx
    | ret y r =>
      rw [hm] at ask
      cases y with
      | val d => exact fun v s1 Hs' H' _ _ E' rv => ask v Hs' H' E'.stepOf rv
      | new o =>
        intro v s1 Hs' H' _ _ E' rv
        obtain ⟨a, rfl, h1, h2, h3, _⟩ := rv
        exact ask a Hs' H' E'.stepOf h2 h1 h3
/-- the heap without what stands at x -/
def without (H : Hp) (x : Addr) : Hp := fun b => if b = x then none else H b
theorem without_same {H : Hp} {x : Addr} : without H x x = none := if_pos rfl
theorem without_ne {H : Hp} {x b : Addr} (h : b ≠ x) : without H x b = H b := if_neg h
theorem env_startM {Hs H : Hp} (e : Ex Hs H) {x : Addr} {o : Own} (hx : Hs x = none) (hO : OwnAt K Hs H x o) {N : List Str} {us : List V} {ds : List D} (r : RpAll K Hs us ds) (hn : ds.length + 1 ≤ N.length) :
    EnvOk K Hs (without H x) Hs H (L2.start N (.ref x :: us)) (startM N.length o ds) := by
  have hl := r.length
  have ex : Ex Hs (without H x) := fun b u h => by
    rw [without_ne (ne_of_none h hx)]; exact e b u h
  have key : ∀ (i : Nat) c, (startM N.length o ds)[i]? = some c → (i = 0 ∧ c = .own o) ∨ (∃ j d, i = j + 1 ∧ ds[j]? = some d ∧ c = .val d) ∨ c = .un := fun i c h => by
    unfold startM at h
    cases i with
    | zero => exact .inl ⟨rfl, (Option.some.inj h).symm⟩
    | succ j =>
      rw [List.getElem?_cons_succ] at h
      by_cases hi : j < ds.length
      · rw [List.getElem?_append_left (by rw [List.length_map]; exact hi), List.getElem?_map, List.getElem?_eq_getElem hi] at h
        exact .inr (.inl ⟨j, _, rfl, List.getElem?_eq_getElem hi, (Option.some.inj h).symm⟩)
      · rw [List.getElem?_append_right (by rw [List.length_map]; omega), List.getElem?_replicate] at h
        split at h
        · exact .inr (.inr (Option.some.inj h).symm)
        · cases h
  refine ⟨e, Ex.refl _, fun b u h n => ?_, ex, ?_, fun i d h => ?_, fun i u h => ?_, fun i j a oi oj ne h1 h2 => ?_⟩
  · have hb : b ≠ x := by rintro rfl; rw [without_same] at h; cases h
    rw [without_ne hb] at h; exact ⟨n, h⟩
  · unfold L2.start startM
    simp only [List.length_append, List.length_map, List.length_replicate, List.length_cons, hl]
    omega
  · rcases key i _ h with ⟨_, h2⟩ | ⟨j, d', rfl, h1, h2⟩ | h2
    · cases h2
    · cases h2
      obtain ⟨v, hv, rv⟩ := r.get h1
      exact ⟨v, start_get (by rw [List.getElem?_cons_succ]; exact hv), rv⟩
    · cases h2
  · rcases key i _ h with ⟨rfl, h2⟩ | ⟨j, d', rfl, h1, h2⟩ | h2
    · cases h2; exact ⟨x, start_get rfl, hx, without_same, hO⟩
    · cases h2
    · cases h2
  · rcases key i _ h1 with ⟨rfl, _⟩ | ⟨j', d', rfl, _, g⟩ | g
    · rcases key j _ h2 with ⟨rfl, _⟩ | ⟨j', d', rfl, _, g⟩ | g
      · exact absurd rfl ne
      · cases g
      · cases g
    · cases g
    · cases g
theorem EnvOk.stepM {Hs H Hs' H' : Hp} {x : Addr} {s : L2.St} {r : Rho} {o' : Own} (E : EnvOk K Hs (without H x) Hs' H' s r) (h0 : s[0]? = some (some (.ref x))) (ho : ownOf r = some o') : StepM x Hs H Hs' H' ∧ OwnAt K Hs' H' x o' := by
  have hr : r[0]? = some (.own o') := by
    cases r with
    | nil => simp [ownOf] at ho
    | cons c r => cases c <;> simp [ownOf] at ho; subst ho; rfl
  obtain ⟨a, h1, h2, h3, h4⟩ := E.own 0 o' hr
  rw [h0] at h1; cases h1
  exact ⟨⟨E.ext1, E.sub, fun b u hb h n => E.ext2 b u (by rw [without_ne hb]; exact h) n, h2⟩, h4⟩
/-- a def that changes its first argument alone -/
theorem fn_mut {x qual : Str} {st : Stmt} {f : Addr} {fd : FuncData} {N ps : List Str} {k : Nat} {sv : Sv} (F : Fun K x qual st f fd) (S : FnScope N ps (defScope st)) (hn : ps.length ≤ N.length)
    (hbody : ∀ (cdv : Value) (A : Around) (outer : List Env) (s : Shared) (H : Hp) (E : XK),
      Room k (A.deeper (envOfC qual (defScope st) s.heap.objs.size f cdv)) → A.guards = some [] →
      SndSs (cxOf (L2.CX P w) P w K mg base N qual (defScope st) f cdv A outer s H E) (fun c d _ H' => E c d H') true (defBody st) sv) :
    FnG P w K mg base (k + 1) f fd ps (spM K ps.length (runM N.length sv)) := by
  refine fng_of F S (fun vs H Q E h => ?_) fun cdv A outer s H vs Q E room gd want => ?_
  · obtain ⟨Hs, y, us, o, ds, rfl, _, _, _, r, hl, _⟩ := h
    rw [List.length_cons, r.length, hl]
  · obtain ⟨Hs, y, us, o, ds, rfl, e, hy, hO, r, hl, ask⟩ := want
    refine hbody cdv A outer s H E room gd Hs (without H y) Hs H (L2.start N (.ref y :: us)) (startM N.length o ds) _ (env_startM e hy hO r (by omega)) ?_
    show PostS K _ _ _ _ _ _ _ (sv (startM N.length o ds))
    have s0 : (L2.start N (.ref y :: us))[0]? = some (some (.ref y)) := start_get rfl
    unfold runM at ask
    cases hm : sv (startM N.length o ds) with
    | stuck => rw [hm] at ask; exact ask
    | bk r => rw [hm] at ask; exact False.elim ask
    | ct r => rw [hm] at ask; exact False.elim ask
    | nx r =>
      rw [hm] at ask
      cases ho : ownOf r with
      | none => simp only [ho] at ask; exact False.elim ask
      | some o' =>
        simp only [ho] at ask
        intro s1 Hs' H' kz _ E'
        obtain ⟨st, ow⟩ := E'.stepM ((kz rfl).trans s0) ho
        exact ask .non Hs' H' st ow .non
    | exc z r =>
      rw [hm] at ask
      cases ho : ownOf r with
      | none => simp only [ho] at ask; exact False.elim ask
      | some o' =>
        simp only [ho] at ask
        intro c d s1 Hs' H' kz _ E' hx
        obtain ⟨st, ow⟩ := E'.stepM ((kz rfl).trans s0) ho
        exact ask c d Hs' H' st ow hx
    | ret z r =>
      rw [hm] at ask
      cases z with
      | val d =>
        cases ho : ownOf r with
        | none => simp only [ho] at ask; exact False.elim ask
        | some o' =>
          simp only [ho] at ask
          intro v s1 Hs' H' kz _ E' rv
          obtain ⟨st, ow⟩ := E'.stepM ((kz rfl).trans s0) ho
          exact ask v Hs' H' st ow rv
      | new d =>
        cases ho : ownOf r with
        | none => simp only [ho] at ask; exact False.elim ask
        | some o' =>
          simp only [ho] at ask
          intro v s1 Hs' H' kz _ E' rv
          obtain ⟨st, ow⟩ := E'.stepM ((kz rfl).trans s0) ho
          obtain ⟨a, rfl, h1, h2, h3, h4⟩ := rv
          have hr0 : r[0]? = some (.own o') := by
            cases r with
            | nil => simp [ownOf] at ho
            | cons c r => cases c <;> simp [ownOf] at ho; subst ho; rfl
          have ne : a ≠ y := by rintro rfl; exact h4 0 o' hr0 ((kz rfl).trans s0)
          rw [without_ne ne] at h2
          exact ask a Hs' H' st ow ne h2 h1 h3
end
/-! ### calls of own defs, by what they come to -/
section
variable {X : Cx} {W : WX} {n : Nat} {g C : Addr} {ks : List Str} {is : List Nat} {x m : Str} {p pos apos : Pos} {e o : Expr} {es : List Expr} {kws : List Keyword}
/-- f, called at X, comes to what F says of its arguments -/
def FunAt (X : Cx) (W : WX) (g : Value) (n : Nat) (ks : List Str) (is : List Nat) (F : List D → FO) : Prop :=
  CallAt X g n ks fun vs zs σ H Q => spP X.K (sel is (vs ++ zs)).length F (sel is (vs ++ zs)) H Q fun c d H' => W c d σ H'
theorem fun_at {fd : FuncData} {ps : List Str} {k np : Nat} {F : List D → FO} (G : FnG X.prog X.w X.K X.mg X.base k g fd ps (spP X.K np F)) (hr : Room k X.A) (hg : X.A.guards = some []) (hb : KB X.K fd ps n ks is) (tk : Takes X W) (hnp : ∀ l : List V, l.length = n + ks.length → (sel is l).length = np) : FunAt X W (.ref g) n ks is F := by
  intro pins s σ H vs zs us ws Q I r rz h1 h2 want
  refine call_fng G hr hg hb tk pins s σ H vs zs us ws Q I r rz h1 h2 ?_
  rw [hnp _ (by rw [List.length_append, h1, h2])] at want
  exact want
def ofFO : FO → Rho → EO Rv
  | .stuck, _ => .stuck
  | .val d, r => .ok (.val d) r
  | .new o, r => .ok (.new o) r
  | .exc x, r => .exc x r
/-- what a call needs where its arguments stand -/
theorem ask_of {K : PySem.W.Frag} {Bs B Hs H : Hp} {s : L2.St} {r : Rho} {Q : VK} {y : FO} (E : EnvOk K Bs B Hs H s r) (q : PostE K W Bs B Hs s (relR K B s) Q (ofFO y r)) : AskF K Hs H Q (fun c d H' => W c d s H') y := by
  cases y with
  | stuck => exact q
  | val d => exact fun v Hs' H' st rv => q v Hs' H' st.sh (E.step st) rv
  | new o => exact fun a Hs' H' st h1 h2 h3 => q (.ref a) Hs' H' st.sh (E.step st) ⟨a, rfl, h2, E.bnone h1, h3, E.apart h1⟩
  | exc z => exact fun c d Hs' H' st hx => q c d Hs' H' st.sh (E.step st) hx
def eCall (F : List D → FO) (is : List Nat) (va vk : Ev (List D)) : Ev Rv := fun r => (va r).bind fun ds r1 => (vk r1).bind fun es r2 => ofFO (F (sel is (ds ++ es))) r2
def SndK (X : Cx) (W : WX) (kws : List Keyword) (ev : Ev (List D)) : Prop := ∀ (Bs B Hs H : Hp) (s : L2.St) (r : Rho) (Q : List V → Hp → Prop), EnvOk X.K Bs B Hs H s r →
  PostE X.K W Bs B Hs s (relDA X.K) Q (ev r) → ∃ t, PK X kws t ∧ t s H Q
def aK (X : Cx) (kws : List Keyword) : TA := fun s H Q => ∃ t, PK X kws t ∧ t s H Q
theorem pk_all : PK X kws (aK X kws) := ⟨fun pos pins s σ H Q I ⟨t, h, q⟩ => h.run pos pins s σ H Q I q⟩
theorem snk_nil : SndK X W [] vNil := fun Bs B Hs H s r Q E q => ⟨_, pk_nil, q.ok E .nil⟩
theorem snk_cons {ea : Ev Rv} {as : Ev (List D)} {nm : Option Str} {kpos : Pos} (ha : SndE X W e ea) (hs : SndK X W kws as) : SndK X W (⟨nm, e, kpos⟩ :: kws) (vCons ea as) := fun Bs B Hs H s r Q E q =>
  ⟨_, pk_cons pe_all pk_all, ha _ _ _ _ _ _ _ E (PostE.bind q fun x r1 v Hs1 H1 _ x1 E1 ra q1 => by
    obtain ⟨Hs2, e2, E2, r2⟩ := RvAt.use E1 ra
    exact hs _ _ _ _ _ _ _ E2 (PostE.bind (q1.mono e2) fun xs r2' vs Hs3 H3 _ x3 E3 rb q3 => q3.ok E3 (.cons (r2.mono x3) rb)))⟩
/-- the end of every pure call -/
theorem pure_end {F : List D → FO} {Bs B Hs1 H1 Hs2 H2 : Hp} {s : L2.St} {r2 : Rho} {vs zs : List V} {ds es' : List D} {Q : VK} (E2 : EnvOk X.K Bs B Hs2 H2 s r2) (ra : RpAll X.K Hs2 vs ds) (rb : RpAll X.K Hs2 zs es') (q : PostE X.K W Bs B Hs2 s (relR X.K B s) Q (ofFO (F (sel is (ds ++ es'))) r2)) :
    spP X.K (sel is (vs ++ zs)).length F (sel is (vs ++ zs)) H2 Q fun c d H' => W c d s H' :=
  ⟨Hs2, sel is (ds ++ es'), E2.sub, RpAll.sel (ra.append rb), (RpAll.length (RpAll.sel (ra.append rb))).symm, ask_of E2 q⟩
theorem snd_call {F : List D → FO} {va : Ev (List D)} (c : FunAt X W (.ref g) n [] is F) (ha : SndV X W (e :: es) va) (hl : ∀ r ds r', va r = .ok ds r' → ds.length = n) (hg : Gl X x) (hm : X.mg x = some (.ref g)) (hk : PySem.W.keepIn X.K (.ref g) = true) (hdb : (x == ("__debug__" : Str)) = false := by decide)
    (he : starEach (e :: es) X.env = (false, eval e X.env) :: starEach es X.env := by rfl) (hpl : (backTo pos (starEach es X.env)).any (·.1) = false := by rfl) : SndE X W (.Call (.Name x p) (e :: es) [] pos) (eCall F is va vNil) := fun Bs B Hs H s r Q E q =>
  ⟨_, pe_ca c hg hm hk pa_all hdb he hpl, ha _ _ _ _ _ _ _ E (PostE.bind q fun ds r1 vs Hs1 H1 hv x1 E1 ra q1 => by
    have ra : RpAll X.K Hs1 vs ds := ra
    exact ⟨ra.length.trans (hl _ _ _ hv), rfl, pure_end (Hs1 := Hs1) (H1 := H1) E1 ra .nil q1⟩)⟩
theorem snd_callK {F : List D → FO} {va vk : Ev (List D)} (c : FunAt X W (.ref g) n ks is F) (ha : SndV X W (e :: es) va) (hkw : SndK X W kws vk) (hl : ∀ r ds r', va r = .ok ds r' → ds.length = n) (hl2 : ∀ r ds r', vk r = .ok ds r' → ds.length = ks.length) (hg : Gl X x) (hm : X.mg x = some (.ref g)) (hk : PySem.W.keepIn X.K (.ref g) = true)
    (hall : (backToKw pos (keywordEach kws X.env)).all (·.1.isSome) = true := by rfl) (hks : (backToKw pos (keywordEach kws X.env)).filterMap (·.1) = ks := by rfl)
    (hdb : (x == ("__debug__" : Str)) = false := by decide) (he : starEach (e :: es) X.env = (false, eval e X.env) :: starEach es X.env := by rfl)
    (hpl : ((backTo pos (starEach (e :: es) X.env)).any (·.1) || (backToKw pos (keywordEach kws X.env)).any (·.1.isNone)) = false := by rfl) : SndE X W (.Call (.Name x p) (e :: es) kws pos) (eCall F is va vk) := fun Bs B Hs H s r Q E q =>
  ⟨_, pe_caK c hg hm hk pa_all pk_all hall hks hdb he hpl, ha _ _ _ _ _ _ _ E (PostE.bind q fun ds r1 vs Hs1 H1 hv x1 E1 ra q1 => hkw _ _ _ _ _ _ _ E1 (PostE.bind q1 fun es' r2 zs Hs2 H2 hw x2 E2 rb q2 => by
    have ra : RpAll X.K Hs1 vs ds := ra
    have rb : RpAll X.K Hs2 zs es' := rb
    exact ⟨ra.length.trans (hl _ _ _ hv), rb.length.trans (hl2 _ _ _ hw), pure_end (Hs1 := Hs1) (H1 := H1) E2 (ra.mono x2) rb q2⟩))⟩
theorem snd_callK0 {F : List D → FO} {vk : Ev (List D)} (c : FunAt X W (.ref g) 0 ks is F) (hkw : SndK X W kws vk) (hl2 : ∀ r ds r', vk r = .ok ds r' → ds.length = ks.length) (hg : Gl X x) (hm : X.mg x = some (.ref g)) (hk : PySem.W.keepIn X.K (.ref g) = true)
    (hall : (backToKw pos (keywordEach kws X.env)).all (·.1.isSome) = true := by rfl) (hks : (backToKw pos (keywordEach kws X.env)).filterMap (·.1) = ks := by rfl)
    (hdb : (x == ("__debug__" : Str)) = false := by decide) (hpl : ((backTo pos (starEach [] X.env)).any (·.1) || (backToKw pos (keywordEach kws X.env)).any (·.1.isNone)) = false := by rfl) : SndE X W (.Call (.Name x p) [] kws pos) (eCall F is vNil vk) := fun Bs B Hs H s r Q E q =>
  ⟨_, pe_caK0 c hg hm hk pk_all hall hks hdb hpl, hkw _ _ _ _ _ _ _ E (PostE.bind (show PostE X.K W Bs B Hs s (relR X.K B s) Q ((vk r).bind fun es r2 => ofFO (F (sel is ([] ++ es))) r2) from q) fun es' r2 zs Hs2 H2 hw x2 E2 rb q2 => by
    have rb : RpAll X.K Hs2 zs es' := rb
    exact ⟨rfl, rb.length.trans (hl2 _ _ _ hw), pure_end (Hs1 := Hs2) (H1 := H2) E2 .nil rb q2⟩)⟩
/-! ### a def that changes the object of an own slot, its first argument -/
def MutAt (X : Cx) (W : WX) (g : Value) (n : Nat) (F : Own → List D → FO × Own) : Prop :=
  CallAt X g n [] fun vs zs σ H Q => spM X.K vs.length F vs H Q fun c d H' => W c d σ H'
theorem mut_at {fd : FuncData} {ps : List Str} {k : Nat} {F : Own → List D → FO × Own} (G : FnG X.prog X.w X.K X.mg X.base k g fd ps (spM X.K n F)) (hr : Room k X.A) (hg : X.A.guards = some []) (hb : KB X.K fd ps n [] is) (tk : Takes X W) (hnp : ∀ l : List V, l.length = n → sel is l = l) : MutAt X W (.ref g) n F := by
  intro pins s σ H vs zs us ws Q I r rz h1 h2 want
  refine call_fng G hr hg hb tk pins s σ H vs zs us ws Q I r rz h1 h2 ?_
  have hz : zs = [] := List.eq_nil_of_length_eq_zero h2
  subst hz
  rw [h1] at want
  show spM X.K n F (sel is (vs ++ [])) H Q fun c d H' => W c d σ H'
  rw [List.append_nil, hnp vs h1]
  exact want
theorem EnvOk.afterM {K : PySem.W.Frag} {Bs B Hs H Hs' H' : Hp} {s : L2.St} {r : Rho} (E : EnvOk K Bs B Hs H s r) {i : Nat} {a : Addr} {o o' : Own} (hi : r[i]? = some (.own o)) (hs : s[i]? = some (some (.ref a))) (st : StepM a Hs H Hs' H') (ho : OwnAt K Hs' H' a o') :
    EnvOk K Bs B Hs' H' s (r.set i (.own o')) := by
  obtain ⟨a', e1, g2, g3, g4⟩ := E.own i o hi
  rw [hs] at e1; cases e1
  have cell : ∀ (j : Nat) c, (r.set i (.own o'))[j]? = some c → (j = i ∧ c = .own o') ∨ (j ≠ i ∧ r[j]? = some c) := fun j c h => by
    rw [List.getElem?_set] at h
    by_cases e : i = j
    · subst e
      rw [if_pos rfl] at h
      split at h
      · exact .inl ⟨rfl, (Option.some.inj h).symm⟩
      · cases h
    · rw [if_neg e] at h; exact .inr ⟨fun z => e z.symm, h⟩
  refine ⟨st.sub, E.ext1.trans st.sh, fun b u h n => ?_, E.ext3, by rw [List.length_set]; exact E.len, fun j d h => ?_, fun j u h => ?_, fun i' j' b oi oj ne h1 h2 h3 h4 => ?_⟩
  · have hb : b ≠ a := ne_of_none h g3
    obtain ⟨n1, k1⟩ := E.ext2 b u h n
    exact st.fr b u hb k1 n1
  · rcases cell j _ h with ⟨_, h2⟩ | ⟨_, h2⟩
    · cases h2
    · obtain ⟨v, k1, k2⟩ := E.val j d h2
      exact ⟨v, k1, k2.mono st.sh⟩
  · rcases cell j _ h with ⟨rfl, h2⟩ | ⟨ne, h2⟩
    · cases h2; exact ⟨a, hs, st.at_, g3, ho⟩
    · obtain ⟨b, k1, k2, k3, k4⟩ := E.own j u h2
      have hb : b ≠ a := by rintro rfl; exact E.dis i j b o u (fun z => ne z.symm) hi h2 hs k1
      obtain ⟨w, hw⟩ := k4.here
      obtain ⟨n1, k5⟩ := st.fr b w hb hw k2
      exact ⟨b, k1, n1, k3, k4.mono st.sh (by rw [k5, hw])⟩
  · have o1 : ∃ u, r[i']? = some (.own u) := by
      rcases cell i' _ h1 with ⟨rfl, _⟩ | ⟨_, h⟩
      · exact ⟨o, hi⟩
      · exact ⟨_, h⟩
    have o2 : ∃ u, r[j']? = some (.own u) := by
      rcases cell j' _ h2 with ⟨rfl, _⟩ | ⟨_, h⟩
      · exact ⟨o, hi⟩
      · exact ⟨_, h⟩
    obtain ⟨u1, o1⟩ := o1
    obtain ⟨u2, o2⟩ := o2
    exact E.dis i' j' b u1 u2 ne o1 o2 h3 h4
theorem StepM.apart {K : PySem.W.Frag} {Bs B Hs H Hs' H' : Hp} {s : L2.St} {r : Rho} (E : EnvOk K Bs B Hs H s r) {b : Addr} (hb : H b = none) (j : Nat) (oj : Own) (h : r[j]? = some (.own oj)) : s[j]? ≠ some (some (.ref b)) := E.apart hb j oj h
def eMut (i : Nat) (F : Own → List D → FO × Own) (va : Ev (List D)) : Ev Rv := fun r => match r[i]? with
  | some (.own _) => (va r).bind fun ds r1 => (match r1[i]? with
    | some (.own o) => ofFO (F o ds).1 (r1.set i (.own (F o ds).2))
    | _ => .stuck)
  | _ => .stuck
theorem askM_of {K : PySem.W.Frag} {Bs B Hs H : Hp} {s : L2.St} {r : Rho} {Q : VK} {y : FO} {i : Nat} {a : Addr} {o o' : Own} (E : EnvOk K Bs B Hs H s r) (hi : r[i]? = some (.own o)) (hs : s[i]? = some (some (.ref a))) (q : PostE K W Bs B Hs s (relR K B s) Q (ofFO y (r.set i (.own o')))) :
    AskM K a Hs H Q (fun c d H' => W c d s H') o' y := by
  cases y with
  | stuck => exact q
  | val d => exact fun v Hs' H' st ow rv => q v Hs' H' st.sh (E.afterM hi hs st ow) rv
  | new p =>
    intro b Hs' H' st ow ne h1 h2 h3
    refine q (.ref b) Hs' H' st.sh (E.afterM hi hs st ow) ⟨b, rfl, h2, E.bnone h1, h3, fun j oj hj => ?_⟩
    rw [List.getElem?_set] at hj
    by_cases e : i = j
    · subst e
      rw [hs]
      intro z; cases z; exact ne rfl
    · rw [if_neg e] at hj
      exact E.apart h1 j oj hj
  | exc z => exact fun c d Hs' H' st ow hx => q c d Hs' H' st.sh (E.afterM hi hs st ow) hx
theorem snd_mut {i : Nat} {F : Own → List D → FO × Own} {va : Ev (List D)} (c : MutAt X W (.ref g) (n + 1) F) (ho : PE X e (tVar i)) (ha : SndV X W es va) (hl : ∀ r ds r', va r = .ok ds r' → ds.length = n) (hg : Gl X x) (hm : X.mg x = some (.ref g)) (hk : PySem.W.keepIn X.K (.ref g) = true) (hdb : (x == ("__debug__" : Str)) = false := by decide)
    (he : starEach (e :: es) X.env = (false, eval e X.env) :: starEach es X.env := by rfl) (hpl : (backTo pos (starEach es X.env)).any (·.1) = false := by rfl) : SndE X W (.Call (.Name x p) (e :: es) [] pos) (eMut i F va) := fun Bs B Hs H s r Q E q => by
  unfold eMut at q
  split at q
  case h_2 => exact False.elim q
  rename_i o0 ho0
  obtain ⟨a, h1, h2, h3, h4⟩ := E.own i o0 ho0
  refine ⟨_, pe_ca c hg hm hk (pa_cons ho pa_all he) hdb he hpl, .ref a, h1, ha _ _ _ _ _ _ _ E (PostE.bind q fun ds r1 vs Hs1 H1 hv x1 E1 ra q1 => ?_)⟩
  have ra : RpAll X.K Hs1 vs ds := ra
  split at q1
  case h_2 => exact False.elim q1
  rename_i o1 ho1
  obtain ⟨a', g1, g2, g3, g4⟩ := E1.own i o1 ho1
  rw [h1] at g1; cases g1
  have hlen := hl _ _ _ hv
  refine ⟨by rw [List.length_cons, ra.length, hlen], rfl, Hs1, a, vs, o1, ds, rfl, E1.sub, g2, g4, ra, by rw [List.length_cons, ra.length], ?_⟩
  exact askM_of E1 ho1 h1 q1
/-! ### a new instance -/
/-- C(..): what __init__ makes of an instance without attributes -/
def MakeAt (X : Cx) (W : WX) (C : Addr) (n : Nat) (ks : List Str) (is : List Nat) (F : Own → List D → FO × Own) : Prop :=
  CallAt X (.ref C) n ks fun vs zs σ H Q => ∀ x dx, H x = none → H dx = none → dx ≠ x →
    spM X.K ((sel is (vs ++ zs)).length + 1) F (.ref x :: sel is (vs ++ zs)) (upd (upd H dx (.own x)) x (.ins C dx [])) (fun v H2 => v = .non ∧ Q (.ref x) H2) fun c d H' => W c d σ H'
theorem make_at {fd : FuncData} {ps : List Str} {k : Nat} {f : Addr} {js : List Nat} {F : Own → List D → FO × Own} {np : Nat} (M : Mk X.K C f) (G : FnG X.prog X.w X.K X.mg X.base k f fd ps (spM X.K np F)) (hr : Room (k + 1) X.A) (hg : X.A.guards = some []) (hb : KB X.K fd ps (n + 1) ks js) (tk : Takes X W)
    (hnp : ∀ (y : V) (l : List V), l.length = n + ks.length → sel js (y :: l) = y :: sel is l ∧ (sel is l).length + 1 = np) : MakeAt X W C n ks is F := by
  intro pins s σ H vs zs us ws Q I r rz h1 h2 want
  refine call_make M G hr hg hb tk pins s σ H vs zs us ws Q I r rz h1 h2 fun y dx h3 h4 h5 => ?_
  have := want y dx h3 h4 h5
  obtain ⟨e1, e2⟩ := hnp (.ref y) (vs ++ zs) (by rw [List.length_append, h1, h2])
  rw [e2] at this
  show spM _ _ _ (sel js (.ref y :: (vs ++ zs))) _ _ _
  rw [e1]
  exact this
def eMake (C : Addr) (F : Own → List D → FO × Own) (is : List Nat) (va vk : Ev (List D)) : Ev Rv := fun r => (va r).bind fun ds r1 => (vk r1).bind fun es r2 => match F (.ins C []) (sel is (ds ++ es)) with
  | (.val .non, o) => .ok (.new o) r2
  | (.exc z, _) => .exc z r2
  | _ => .stuck
theorem make_end {F : Own → List D → FO × Own} {Bs B Hs2 H2 : Hp} {s : L2.St} {r2 : Rho} {vs zs : List V} {ds es' : List D} {Q : VK} (E2 : EnvOk X.K Bs B Hs2 H2 s r2) (ra : RpAll X.K Hs2 vs ds) (rb : RpAll X.K Hs2 zs es')
    (q : PostE X.K W Bs B Hs2 s (relR X.K B s) Q (match F (.ins C []) (sel is (ds ++ es')) with
      | (.val .non, o) => .ok (.new o) r2
      | (.exc z, _) => .exc z r2
      | _ => .stuck)) : ∀ x dx, H2 x = none → H2 dx = none → dx ≠ x →
    spM X.K ((sel is (vs ++ zs)).length + 1) F (.ref x :: sel is (vs ++ zs)) (upd (upd H2 dx (.own x)) x (.ins C dx [])) (fun v H3 => v = .non ∧ Q (.ref x) H3) fun c d H' => W c d s H' := by
  intro x dx hx hdx ne
  have hsx : Hs2 x = none := fresh_back E2.sub hx
  have hsd : Hs2 dx = none := fresh_back E2.sub hdx
  have up : Ex H2 (upd (upd H2 dx (.own x)) x (.ins C dx [])) := fun b u h => by
    rw [upd_ne (ne_of_none h hx), upd_ne (ne_of_none h hdx)]; exact h
  have st0 : ∀ {Hs' H' : Hp}, StepM x Hs2 (upd (upd H2 dx (.own x)) x (.ins C dx [])) Hs' H' → Step Hs2 H2 Hs' H' := fun st => ⟨st.sh, st.sub, fun b u h n => st.fr b u (ne_of_none h hx) (up b u h) n⟩
  refine ⟨Hs2, x, _, .ins C [], sel is (ds ++ es'), rfl, E2.sub.trans up, hsx, ⟨dx, [], upd_same, rfl, .nil⟩, RpAll.sel (ra.append rb), by rw [RpAll.length (RpAll.sel (is := is) (ra.append rb))], ?_⟩
  cases hF : F (.ins C []) (sel is (ds ++ es')) with
  | mk fo o =>
    rw [hF] at q
    cases fo with
    | stuck => exact q
    | new p => exact (show False from q).elim
    | exc z => exact fun c d Hs' H' st ow hx => q c d Hs' H' st.sh (E2.step (st0 st)) hx
    | val d =>
      cases d with
      | non =>
        intro v Hs' H' st ow rv
        cases rv
        exact ⟨rfl, q (.ref x) Hs' H' st.sh (E2.step (st0 st)) ⟨x, rfl, st.at_, E2.bnone hx, ow, E2.apart hx⟩⟩
      | _ => exact (show False from q).elim
theorem snd_make {F : Own → List D → FO × Own} {va : Ev (List D)} (c : MakeAt X W C n [] is F) (ha : SndV X W (e :: es) va) (hl : ∀ r ds r', va r = .ok ds r' → ds.length = n) (hg : Gl X x) (hm : X.mg x = some (.ref C)) (hk : PySem.W.keepIn X.K (.ref C) = true) (hdb : (x == ("__debug__" : Str)) = false := by decide)
    (he : starEach (e :: es) X.env = (false, eval e X.env) :: starEach es X.env := by rfl) (hpl : (backTo pos (starEach es X.env)).any (·.1) = false := by rfl) : SndE X W (.Call (.Name x p) (e :: es) [] pos) (eMake C F is va vNil) := fun Bs B Hs H s r Q E q =>
  ⟨_, pe_ca c hg hm hk pa_all hdb he hpl, ha _ _ _ _ _ _ _ E (PostE.bind q fun ds r1 vs Hs1 H1 hv x1 E1 ra q1 => by
    have ra : RpAll X.K Hs1 vs ds := ra
    exact ⟨ra.length.trans (hl _ _ _ hv), rfl, make_end E1 ra .nil q1⟩)⟩
theorem snd_makeK0 {F : Own → List D → FO × Own} {vk : Ev (List D)} (c : MakeAt X W C 0 ks is F) (hkw : SndK X W kws vk) (hl2 : ∀ r ds r', vk r = .ok ds r' → ds.length = ks.length) (hg : Gl X x) (hm : X.mg x = some (.ref C)) (hk : PySem.W.keepIn X.K (.ref C) = true)
    (hall : (backToKw pos (keywordEach kws X.env)).all (·.1.isSome) = true := by rfl) (hks : (backToKw pos (keywordEach kws X.env)).filterMap (·.1) = ks := by rfl)
    (hdb : (x == ("__debug__" : Str)) = false := by decide) (hpl : ((backTo pos (starEach [] X.env)).any (·.1) || (backToKw pos (keywordEach kws X.env)).any (·.1.isNone)) = false := by rfl) : SndE X W (.Call (.Name x p) [] kws pos) (eMake C F is vNil vk) := fun Bs B Hs H s r Q E q =>
  ⟨_, pe_caK0 c hg hm hk pk_all hall hks hdb hpl, hkw _ _ _ _ _ _ _ E (PostE.bind (show PostE X.K W Bs B Hs s (relR X.K B s) Q ((vk r).bind fun es r2 => match F (.ins C []) (sel is ([] ++ es)) with
      | (.val .non, o) => .ok (.new o) r2
      | (.exc z, _) => .exc z r2
      | _ => .stuck) from q) fun es' r2 zs Hs2 H2 hw x2 E2 rb q2 => by
    have rb : RpAll X.K Hs2 zs es' := rb
    exact ⟨rfl, rb.length.trans (hl2 _ _ _ hw), make_end E2 .nil rb q2⟩)⟩
end
end Mp
set_option Elab.async false
set_option linter.all false
set_option maxRecDepth 100000
namespace Mp
open PySem PyProof.Rows L2 Evl
/-! ### attributes -/
theorem fld_rp {K : PySem.W.Frag} {H : Hp} {f : Str} : ∀ {fs : List (Str × V)} {l : List (Str × D)}, fs.map (·.1) = l.map (·.1) → RpAll K H (fs.map (·.2)) (l.map (·.2)) →
    (∀ d, l.lookup f = some d → ∃ v, fs.lookup f = some v ∧ Rp K H v d) ∧ (l.lookup f = none → fs.lookup f = none)
  | [], [], _, _ => ⟨fun d h => by simp at h, fun _ => rfl⟩
  | [], _ :: _, h, _ => by simp at h
  | _ :: _, [], h, _ => by simp at h
  | (a, v) :: fs, (b, d) :: l, h, r => by
    simp only [List.map_cons, List.cons.injEq] at h
    obtain ⟨rfl, h2⟩ := h
    cases r with
    | cons r1 r2 =>
      have ih := fld_rp (f := f) h2 r2
      simp only [List.lookup_cons]
      cases e : f == a with
      | true => exact ⟨fun d' h' => by simp at h'; subst h'; exact ⟨v, rfl, r1⟩, fun h' => by simp at h'⟩
      | false => exact ih
def putFD (f : Str) (d : D) : List (Str × D) → List (Str × D)
  | [] => [(f, d)]
  | (g, x) :: r => if g = f then (g, d) :: r else (g, x) :: putFD f d r
theorem putFD_rp {K : PySem.W.Frag} {H : Hp} {f : Str} {v : V} {d : D} (hv : Rp K H v d) : ∀ {fs : List (Str × V)} {l : List (Str × D)}, fs.map (·.1) = l.map (·.1) → RpAll K H (fs.map (·.2)) (l.map (·.2)) →
    (putF f v fs).map (·.1) = (putFD f d l).map (·.1) ∧ RpAll K H ((putF f v fs).map (·.2)) ((putFD f d l).map (·.2))
  | [], [], _, _ => ⟨rfl, .cons hv .nil⟩
  | [], _ :: _, h, _ => by simp at h
  | _ :: _, [], h, _ => by simp at h
  | (a, w) :: fs, (b, e) :: l, h, r => by
    simp only [List.map_cons, List.cons.injEq] at h
    obtain ⟨rfl, h2⟩ := h
    cases r with
    | cons r1 r2 =>
      obtain ⟨p1, p2⟩ := putFD_rp (f := f) hv h2 r2
      unfold putF putFD
      by_cases e : a = f
      · rw [if_pos e, if_pos e]
        exact ⟨by simp only [List.map_cons]; rw [h2], .cons hv r2⟩
      · rw [if_neg e, if_neg e]
        exact ⟨by simp only [List.map_cons]; rw [p1], .cons r1 p2⟩
theorem Opd.ins {K : PySem.W.Frag} {Hs H : Hp} (e : Ex Hs H) {v : V} {C : Addr} {l : List (Str × D)} (h : Opd K Hs H v (.ins C l)) : ∃ a dx fs, v = .ref a ∧ H a = some (.ins C dx fs) ∧ fs.map (·.1) = l.map (·.1) ∧ RpAll K Hs (fs.map (·.2)) (l.map (·.2)) := by
  generalize hd : D.ins C l = d at h
  cases h with
  | sh h =>
    subst hd
    cases h with
    | ins h k r => exact ⟨_, _, _, rfl, e _ _ h, k, r⟩
  | own h =>
    rename_i a o
    cases o <;> simp only [Own.data] at hd <;> cases hd
    obtain ⟨dx, fs, h1, h2, h3⟩ := h
    exact ⟨_, dx, fs, rfl, h1, h2, h3⟩
section
variable {X : Cx} {W : WX} {z : Bool} {n : Nat} {g C : Addr} {ks : List Str} {is : List Nat} {x m f : Str} {p pos apos : Pos} {e o : Expr} {es : List Expr} {kws : List Keyword}
def dFld (C : Addr) (f : Str) : D → Option Rv
  | .ins C' l => if C' = C then (l.lookup f).map .val else none
  | _ => none
theorem snd_fld {oa : Ev Src} (c : Cls X.K C) (na : NoAttr X.K C f) (ha : SndO X W e oa) (hb : attributeBase e f X.env (eval e X.env) = eval e X.env := by rfl) : SndE X W (.Attribute e f pos) (e1 (dFld C f) oa) := fun Bs B Hs H s r Q E q =>
  ⟨_, pe_fld pe_all hb, ha _ _ _ _ _ _ _ E (PostE.bind q fun x r1 v Hs1 H1 _ x1 E1 ra q1 => by
    split at q1
    · rename_i d hd
      have o := Src.opd E1 ra hd
      split at q1
      · rename_i y hy
        unfold dFld at hy
        split at hy
        · split at hy
          · rename_i C' l hC
            subst hC
            simp only [Option.map_eq_some_iff] at hy
            obtain ⟨w, hw, rfl⟩ := hy
            obtain ⟨a, dx, fs, rfl, h1, h2, h3⟩ := o.ins E1.sub
            obtain ⟨u, hu, ru⟩ := (fld_rp (f := f) h2 h3).1 w hw
            exact ⟨a, C', dx, fs, u, rfl, h1, c, na, hu, q1.ok E1 ru⟩
          · cases hy
        · cases hy
      · exact False.elim q1
    · exact False.elim q1)⟩
/-- x.f = e, x an own instance -/
def sFldD (i : Nat) (f : Str) (ev : Ev Rv) : Sv := fun r => (ev r).toS fun y r1 => match r1[i]? with
  | some (.own (.ins C l)) => if l.length < 1000 then .nx (r1.set i (.own (.ins C (putFD f y.data l)))) else .stuck
  | _ => .stuck
theorem sns_fld {i : Nat} {ev : Ev Rv} {p2 : Pos} (c : ∀ C l (r : Rho), r[i]? = some (.own (.ins C l)) → Cls X.K C ∧ NoAttr X.K C f) (ho : PE X o (tVar i)) (h : SndE X W e ev) (hs : swapsWith e (some (.Attribute o f p2)) pos.line X.env = pure false := by rfl) : SndS X W z (.Assign [.Attribute o f p2] e pos) (sFldD i f ev) := fun Bs B Hs H s r D E q =>
  ⟨_, ps_fld ho pe_all hs, h _ _ _ _ _ _ _ E (PostS.toS q fun y r1 v Hs1 H1 x1 E1 ra q1 => by
    obtain ⟨Hs2, e2, E2, r2⟩ := RvAt.use E1 ra
    have q1 := PostS.mono e2 q1
    split at q1
    case h_2 => exact False.elim q1
    rename_i C' l hl
    split at q1
    case isFalse => exact False.elim q1
    obtain ⟨a, h1, h2, h3, dx, fs, h4, h5, h6⟩ := E2.own i _ hl
    obtain ⟨c1, c2⟩ := c C' l r1 hl
    obtain ⟨p1, p2⟩ := putFD_rp (f := f) r2 h5 h6
    have hlen : fs.length = l.length := by have := congrArg List.length h5; simpa using this
    exact ⟨.ref a, h1, a, C', dx, fs, rfl, h4, c1, c2, by rw [hlen]; assumption, q1.nx (E2.putOwn (o' := .ins C' (putFD f y.data l)) hl h1 ⟨dx, _, upd_same, p1, p2⟩)⟩)⟩
/-! ### a method that changes nothing -/
def eMeth (C : Addr) (m : Str) (F : List D → FO) (is : List Nat) (eo : Ev Rv) (va vk : Ev (List D)) : Ev Rv := fun r => (eo r).bind fun x r1 => match x.data with
  | .ins C' l => if C' = C ∧ l.lookup m = none then (va r1).bind fun ds r2 => (vk r2).bind fun es r3 => ofFO (F (sel is ((.ins C' l :: ds) ++ es))) r3 else .stuck
  | _ => .stuck
theorem snd_meth {F : List D → FO} {eo : Ev Rv} {va : Ev (List D)} {pl : Sem Bool} (c : FunAt X W (.ref g) (n + 1) [] is F) (he : SndE X W o eo) (cl : Cls X.K C) (hm : Meth X.K C m g) (ha : SndV X W (e :: es) va) (hl : ∀ r ds r', va r = .ok ds r' → ds.length = n)
    (hst : starEach (e :: es) X.env = (false, eval e X.env) :: starEach es X.env := by rfl) (hpl : (backTo pos (starEach es X.env)).any (·.1) = false := by rfl)
    (ht : eval (.Call (.Attribute o m apos) (e :: es) [] pos) X.env = (eval o X.env >>= fun ov => standAt apos.atName >>= fun _ => holding [ov] (getMethod ov m pl) >>= fun r =>
      callWith pos r.1 r.2 (backTo pos (starEach (e :: es) X.env)) (backToKw pos (keywordEach [] X.env))) := by rfl) : SndE X W (.Call (.Attribute o m apos) (e :: es) [] pos) (eMeth C m F is eo va vNil) := fun Bs B Hs H s r Q E q =>
  ⟨_, pe_cm c pe_all cl hm pa_all hst hpl ht, he _ _ _ _ _ _ _ E (PostE.bind q fun x r1 v Hs1 H1 _ x1 E1 ra q1 => by
    obtain ⟨Hs2, e2, E2, r2⟩ := RvAt.use E1 ra
    have q2 := PostE.mono e2 q1
    clear q1
    generalize x.data = xd at r2 q2
    split at q2
    case h_2 => exact False.elim q2
    rename_i C' l
    split at q2
    case isFalse => exact False.elim q2
    rename_i hc
    obtain ⟨rfl, hno⟩ := hc
    cases r2 with
    | ins h1 h2 h3 =>
      rename_i a dx fs
      refine ⟨a, dx, fs, rfl, E2.sub _ _ h1, (fld_rp (f := m) h2 h3).2 hno, ha _ _ _ _ _ _ _ E2 (PostE.bind q2 fun ds r3 vs Hs3 H3 hv x3 E3 rb q3 => ?_)⟩
      have rb : RpAll X.K Hs3 vs ds := rb
      refine ⟨by rw [rb.length, hl _ _ _ hv], rfl, ?_⟩
      have rr : Rp X.K Hs3 (.ref a) (.ins C' l) := (Rp.ins h1 h2 h3).mono x3
      exact pure_end (Hs1 := Hs3) (H1 := H3) (ds := .ins C' l :: ds) (es' := []) E3 (.cons rr rb) .nil q3)⟩
theorem snd_methK0 {F : List D → FO} {eo : Ev Rv} {vk : Ev (List D)} {pl : Sem Bool} (c : FunAt X W (.ref g) 1 ks is F) (he : SndE X W o eo) (cl : Cls X.K C) (hm : Meth X.K C m g) (hkw : SndK X W kws vk) (hl2 : ∀ r ds r', vk r = .ok ds r' → ds.length = ks.length)
    (hall : (backToKw pos (keywordEach kws X.env)).all (·.1.isSome) = true := by rfl) (hks : (backToKw pos (keywordEach kws X.env)).filterMap (·.1) = ks := by rfl)
    (hpl : ((backTo pos (starEach [] X.env)).any (·.1) || (backToKw pos (keywordEach kws X.env)).any (·.1.isNone)) = false := by rfl)
    (ht : eval (.Call (.Attribute o m apos) [] kws pos) X.env = (eval o X.env >>= fun ov => standAt apos.atName >>= fun _ => holding [ov] (getMethod ov m pl) >>= fun r =>
      callWith pos r.1 r.2 (backTo pos (starEach [] X.env)) (backToKw pos (keywordEach kws X.env))) := by rfl) : SndE X W (.Call (.Attribute o m apos) [] kws pos) (eMeth C m F is eo vNil vk) := fun Bs B Hs H s r Q E q =>
  ⟨_, pe_cmK0 c pe_all cl hm pk_all hall hks hpl ht, he _ _ _ _ _ _ _ E (PostE.bind q fun x r1 v Hs1 H1 _ x1 E1 ra q1 => by
    obtain ⟨Hs2, e2, E2, r2⟩ := RvAt.use E1 ra
    have q2 := PostE.mono e2 q1
    clear q1
    generalize x.data = xd at r2 q2
    split at q2
    case h_2 => exact False.elim q2
    rename_i C' l
    split at q2
    case isFalse => exact False.elim q2
    rename_i hc
    obtain ⟨rfl, hno⟩ := hc
    cases r2 with
    | ins h1 h2 h3 =>
      rename_i a dx fs
      have q1 : PostE X.K W Bs B Hs2 s (relR X.K B s) Q ((vk r1).bind fun es r3 => ofFO (F (sel is ((.ins C' l :: []) ++ es))) r3) := q2
      refine ⟨a, dx, fs, rfl, E2.sub _ _ h1, (fld_rp (f := m) h2 h3).2 hno, hkw _ _ _ _ _ _ _ E2 (PostE.bind q1 fun ds r3 vs Hs3 H3 hv x3 E3 rb q3 => ?_)⟩
      have rb : RpAll X.K Hs3 vs ds := rb
      refine ⟨rfl, by rw [rb.length, hl2 _ _ _ hv], ?_⟩
      have rr : Rp X.K Hs3 (.ref a) (.ins C' l) := (Rp.ins h1 h2 h3).mono x3
      exact pure_end (Hs1 := Hs3) (H1 := H3) (ds := [.ins C' l]) (es' := ds) E3 (.cons rr .nil) rb q3)⟩
/-! ### calls that the machine makes by itself, a little deeper -/
/-- an around of the same frames, with room -/
structure Near (X : Cx) (k : Nat) (A : Around) : Prop where
  room : Room k A
  gd : A.guards = some []
  fr : A.frames = X.A.frames
theorem Near.self {k : Nat} (hr : Room k X.A) (hg : X.A.guards = some []) : Near X k X.A := ⟨hr, hg, rfl⟩
theorem Near.in1 {k : Nat} {A : Around} (h : Near X (k + 1) A) : Near X k A.in1 := ⟨h.room.in1, h.gd, h.fr⟩
/-- the def g, called at A with the values us: it comes to what F says -/
theorem near_call {fd : FuncData} {ps : List Str} {k np : Nat} {A : Around} {F : List D → FO} (N : Near X k A) (G : FnG X.prog X.w X.K X.mg X.base k g fd ps (spP X.K np F)) (hb : KB X.K fd ps np [] is) (hnp : ∀ {T : Type} (l : List T), l.length = np → sel is l = l)
    {pins : List (Addr × Obj)} {s : Shared} {σ : L2.St} {Hs H : Hp} {vs : List V} {us : List Value} {ds : List D} {Q : VK} {E : Value → Shared → Prop} (I : Inv X pins σ H s) (r : Vals vs us) (sub : Ex Hs H) (rd : RpAll X.K Hs vs ds) (hl : ds.length = np)
    (ask : AskF X.K Hs H Q (fun _ _ _ => False) (F ds)) : wpAny (model X.prog X.w) A (call (.ref g) us) (EP X pins σ Q) E s := by
  have nv : vs.length = np := rd.length.trans hl
  have nu : us.length = np := r.length.symm.trans nv
  have env : Env0 X.prog X.w X.K X.mg X.base A X.stack s H := by
    have e := I.env0
    exact ⟨N.fr.trans e.frames, e.mod, e.bs, e.bsz, e.funs, e.frf, e.hok, e.bare⟩
  have bd : BindsTo s fd ⟨us, []⟩ (ps.zip us) := by
    have h := hb.to s us [] I.kIn nu rfl
    rw [List.append_nil, hnp us nu] at h
    exact h
  refine wpAny_call (codeAny_mono (G.run A X.stack s H ⟨us, []⟩ us vs Q (fun _ _ _ => False) N.room N.gd env bd r ⟨Hs, ds, sub, rd, hl, ask⟩) ?_)
  intro res s' hq
  match res, hq with
  | .ok (.ret u), hq => exact I.after hq
  | .error e, hq =>
    obtain ⟨_, _, _, _, _, _, _, _, _, _, _, _, w⟩ := hq
    exact w.elim
/-- the facts of an own class for len, str, repr, truth and == -/
def FlatAns (F : List D → FO) (ds : List D) (d : D) : Prop := F ds = .val d ∧ ∀ o : Own, o.data ≠ d
theorem inst_at {pins : List (Addr × Obj)} {s : Shared} {σ : L2.St} {H : Hp} {a dx : Addr} {fs : List (Str × V)} (I : Inv X pins σ H s) (h : H a = some (.ins C dx fs)) : ∃ od, PySem.W.InstAt s.heap a (PySem.W.instObj C dx) C (some od) := by
  obtain ⟨mA, O, _⟩ := ins_get I.hok h
  obtain ⟨od, J, _⟩ := O.look
  exact ⟨od, J⟩
/-- len(o), str(o), repr(o) of own instances -/
def dOwn1 (C : Addr) (F : List D → FO) (ok : D → Bool) : List D → Option Rv
  | [.ins C' l] => if C' = C then (match F [.ins C' l] with
    | .val d => if ok d then some (.val d) else none
    | _ => none) else none
  | _ => none
theorem own1_core {F : List D → FO} {ok : D → Bool} {Bs B Hs H : Hp} {s : L2.St} {r : Rho} {vs : List V} {ds : List D} {y : Rv} (E : EnvOk X.K Bs B Hs H s r) (h : OpdAll X.K Hs H vs ds) (hf : dOwn1 C F ok ds = some y) :
    ∃ a dx fs l d Hu, vs = [.ref a] ∧ H a = some (.ins C dx fs) ∧ F [.ins C l] = .val d ∧ y = .val d ∧ ok d = true ∧ Ex Hu H ∧ Rp X.K Hu (.ref a) (.ins C l) ∧ Hu = H := by
  unfold dOwn1 at hf
  split at hf
  · split at hf
    · rename_i C' l hC
      subst hC
      split at hf
      · rename_i d hd
        split at hf <;> cases hf
        rename_i ho
        obtain ⟨v, rfl, hh⟩ := h.one
        obtain ⟨a, dx, fs, rfl, h1, h2, h3⟩ := hh.ins E.sub
        exact ⟨a, dx, fs, l, d, H, rfl, h1, hd, rfl, ho, Ex.refl _, .ins h1 h2 (h3.mono E.sub), rfl⟩
      · cases hf
    · cases hf
  · cases hf
def isNat63 : D → Bool
  | .int i => decide (0 ≤ i) && decide (i < 9223372036854775808)
  | _ => false
def isStrD : D → Bool
  | .str _ => true
  | _ => false
/-- Step from the full heap is a step from the shared one -/
theorem step_full {Hs H H' Hu : Hp} (e : Ex Hs H) (st : Step H H Hu H') : Step Hs H Hs H' := ⟨Ex.refl _, (e.trans st.sh).trans st.sub, fun b o h n => ⟨n, st.sub b o (st.sh b o h)⟩⟩
/-- flat data as a value -/
def flatVal : D → V
  | .bl b => .bl b
  | .int i => .int i
  | .str x => .str x
  | _ => .non
theorem rp_flat {K : PySem.W.Frag} {H : Hp} {v : V} {d : D} (h : Rp K H v d) (ok : (isNat63 d || isStrD d) = true) : v = flatVal d := by
  cases h <;> first | rfl | simp [isNat63, isStrD] at ok
/-- one call of an own special method, as an operation on the instance -/
theorem own1_ok {fd : FuncData} {ps : List Str} {k : Nat} {F : List D → FO} {ok : D → Bool} {gv : Value} (hflat : ∀ d, ok d = true → (isNat63 d || isStrD d) = true)
    (rule : ∀ (pins : List (Addr × Obj)) (s : Shared) (σ : L2.St) (H : Hp) (a dx : Addr) (fs : List (Str × V)) (d : D) (Q : VK), Inv X pins σ H s → H a = some (.ins C dx fs) → ok d = true →
      (∀ (A : Around) (E : Value → Shared → Prop), Near X k A → wpAny (model X.prog X.w) A (call (.ref g) [.ref a]) (EP X pins σ fun v H' => v = flatVal d ∧ Q v H') E s) →
      wpAny (model X.prog X.w) X.A (call gv [.ref a]) (EP X pins σ Q) X.xe s)
    (G : FnG X.prog X.w X.K X.mg X.base k g fd ps (spP X.K 1 F)) (hb : KB X.K fd ps 1 [] is) (hnp : ∀ {T : Type} (l : List T), l.length = 1 → sel is l = l) : CallOk X gv (dOwn1 C F ok) := by
  intro Bs B Hs H s r vs ds y Q E h hd q
  obtain ⟨a, dx, fs, l, d, Hu, rfl, h1, hF, rfl, hok, _, rp, rfl⟩ := own1_core E h hd
  refine ⟨fun vs' H0 Q0 => vs' = [.ref a] ∧ H0 = Hu ∧ ∀ H', Step Hs Hu Hs H' → Q0 (flatVal d) H', ?_, rfl, rfl, fun H' st => q _ Hs H' st ?_⟩
  · intro pins sh σ H0 xs us Q0 I rv hq
    obtain ⟨rfl, rfl, hq⟩ := hq
    cases rv with
    | cons ra rn =>
      cases rn
      cases ra
      refine rule pins sh σ H0 a dx fs d Q0 I h1 hok fun A E' N => ?_
      refine near_call N G hb hnp I (.cons (show RelV (.ref a) (Value.ref a) from rfl) .nil) (Ex.refl H0) (.cons rp .nil) rfl ?_
      rw [hF]
      intro v Hs' H' st rv
      have hv := rp_flat rv (hflat d hok)
      exact ⟨hv, hv ▸ hq H' (step_full E.sub st)⟩
  · have := hflat d hok
    show Rp X.K Hs (flatVal d) d
    cases d <;> first | exact .int _ | exact .str _ | simp [isNat63, isStrD] at this
theorem ok_lenO {fd : FuncData} {ps : List Str} {k : Nat} {F : List D → FO} (N : Near X k X.A.in1) (G : FnG X.prog X.w X.K X.mg X.base k g fd ps (spP X.K 1 F)) (hb : KB X.K fd ps 1 [] is) (hnp : ∀ {T : Type} (l : List T), l.length = 1 → sel is l = l)
    (hs : PySem.W.findIn X.K (.ref C) "__len__" = some (some (.ref g))) (hf : PySem.W.isFn X.K (.ref g) = true) : CallOk X (.builtin "len") (dOwn1 C F isNat63) := by
  refine own1_ok (fun d h => by rw [h]; rfl) ?_ G hb hnp
  intro pins s σ H a dx fs d Q I h1 hok h
  obtain ⟨od, J⟩ := inst_at I h1
  obtain ⟨m, fr⟩ := I.fr
  refine PySem.W.len_K fr I.ok.mod.kin J hs hf (wpAny_mono (h _ _ N) ?_ fun _ _ x => x)
  rintro v s' ⟨v', H', I', rv', hv, qq⟩
  subst hv
  cases d <;> simp only [isNat63, reduceCtorEq] at hok
  rename_i i
  obtain ⟨t, rfl⟩ := rv'
  simp only [Bool.and_eq_true, decide_eq_true_eq] at hok
  exact ⟨hok, .int i, H', I'.tok _, ⟨_, rfl⟩, qq⟩
theorem ok_strO {fd : FuncData} {ps : List Str} {k : Nat} {F : List D → FO} (R : Rm X) (N : Near X k X.A.in1.in1) (G : FnG X.prog X.w X.K X.mg X.base k g fd ps (spP X.K 1 F)) (hb : KB X.K fd ps 1 [] is) (hnp : ∀ {T : Type} (l : List T), l.length = 1 → sel is l = l)
    (hs : PySem.W.findIn X.K (.ref C) "__str__" = some (some (.ref g))) (hf : PySem.W.isFn X.K (.ref g) = true) : CallOk X (.type "str") (dOwn1 C F isStrD) := by
  refine own1_ok (fun d h => by rw [h]; simp) ?_ G hb hnp
  intro pins s σ H a dx fs d Q I h1 hok h
  obtain ⟨od, J⟩ := inst_at I h1
  have hu := R.un
  refine PySem.W.kso_call (by show X.A.units + 1 + 1 < cLine; omega) I.kIn J hs hf (wpAny_mono (h _ _ N) ?_ fun _ _ x => x)
  rintro v s' ⟨v', H', I', rv', hv, qq⟩
  subst hv
  cases d <;> simp only [isStrD, reduceCtorEq] at hok
  rename_i y
  obtain ⟨t, rfl⟩ := rv'
  exact ⟨.str y, H', I', ⟨_, rfl⟩, qq⟩
theorem ok_reprO {fd : FuncData} {ps : List Str} {k : Nat} {F : List D → FO} (R : Rm X) (N : Near X k X.A.in1) (G : FnG X.prog X.w X.K X.mg X.base k g fd ps (spP X.K 1 F)) (hb : KB X.K fd ps 1 [] is) (hnp : ∀ {T : Type} (l : List T), l.length = 1 → sel is l = l)
    (hs : PySem.W.findIn X.K (.ref C) "__repr__" = some (some (.ref g))) (hf : PySem.W.isFn X.K (.ref g) = true) : CallOk X (.builtin "repr") (dOwn1 C F isStrD) := by
  refine own1_ok (fun d h => by rw [h]; simp) ?_ G hb hnp
  intro pins s σ H a dx fs d Q I h1 hok h
  obtain ⟨od, J⟩ := inst_at I h1
  obtain ⟨m, fr⟩ := I.fr
  have hu := R.un
  refine PySem.W.repr_K (by show X.A.units + 1 < cLine; omega) fr I.ok.mod.kin J hs hf (wpAny_mono (h _ _ N) ?_ fun _ _ x => x)
  rintro v s' ⟨v', H', I', rv', hv, qq⟩
  subst hv
  cases d <;> simp only [isStrD, reduceCtorEq] at hok
  rename_i y
  obtain ⟨t, rfl⟩ := rv'
  exact ⟨.str y, H', I', ⟨_, rfl⟩, qq⟩
/-! repr of data -/
def dRepr : List D → Option Rv
  | [d] => (match toPy d with
    | some p => if p.showable && !p.hasDict && decide (p.shown.length ≤ 100000) && decide (p.depth ≤ 64) then some (.val (.str p.shown)) else none
    | none => none)
  | _ => none
theorem ok_repr (R : Rm X) (hg : X.A.guards = some []) : CallOk X (.builtin "repr") dRepr := by
  intro Bs B Hs H s r vs ds y Q E h hd q
  unfold dRepr at hd
  split at hd
  case h_2 => cases hd
  rename_i d
  split at hd
  case h_2 => cases hd
  rename_i pd hp
  split at hd
  case isFalse => cases hd
  cases hd
  rename_i hz
  simp only [Bool.and_eq_true, decide_eq_true_eq, Bool.not_eq_true'] at hz
  obtain ⟨⟨⟨hz1, hz2⟩, hz3⟩, hz4⟩ := hz
  obtain ⟨v, rfl, hh⟩ := h.one
  have dp := (hh.rp E.sub).dp hp
  refine ⟨fun vs' H0 Q0 => vs' = [v] ∧ H0 = H ∧ Q0 (.str pd.shown) H0, ?_, rfl, rfl, q.val E (.str _)⟩
  intro pins sh σ H0 xs us Q0 I rv hq
  obtain ⟨rfl, rfl, hq⟩ := hq
  have hu := R.un
  have hsl : pd.shown.length ≤ sizeLine := Nat.le_trans hz3 (by rw [sizeLine_eq]; decide)
  cases rv with
  | cons ra rn =>
    cases rn
    rename_i u
    obtain ⟨as, rds⟩ := Dp.reads I pd v u dp ra
    cases v with
    | ref a =>
      cases ra
      exact repr_of_reads' rds hz1 (fun e => by rw [hz2] at e; cases e) hg (by omega) (fun b o e => e) (fun h' t tk hk => ⟨.str pd.shown, H0, I.kept hk, ⟨_, rfl⟩, hq⟩) hsl
    | non =>
      cases ra
      cases dp
      exact PySem.P.repr_of_none ⟨.str _, H0, I.tok _, ⟨_, rfl⟩, hq⟩
    | bl b =>
      cases ra
      cases dp
      exact PySem.P.repr_of_bool ⟨.str _, H0, I.tok _, ⟨_, rfl⟩, hq⟩
    | int i =>
      obtain ⟨t, rfl⟩ := ra
      cases dp
      simp only [PyData.showable, decide_eq_true_eq] at hz1
      exact PySem.P.repr_of_int hz1 ⟨.str _, H0, I.tok _, ⟨_, rfl⟩, hq⟩
    | str x =>
      obtain ⟨t, rfl⟩ := ra
      cases dp
      exact PySem.P.repr_of_str ⟨.str _, H0, I.tok _, ⟨_, rfl⟩, hq⟩ hsl
    | _ => cases dp
end
end Mp
set_option Elab.async false
set_option linter.all false
set_option maxRecDepth 100000
namespace Mp
open PySem PyProof.Rows L2 Evl
/-! ### enumerate of a tuple -/
set_option maxHeartbeats 1000000 in
theorem enum_new1 {v : Value} {o : Obj} {H : Heap → Prop} (B : Begins v o H) : Meets (Builtin.«enumerate.__new__» ⟨[.type "enumerate", v], []⟩) (fun _ R s => H s.heap ∧
    R (.ok (.ret (.ref (s.heap.push o).objs.size))) { s with heap := (s.heap.push o).push { cls := .type "enumerate", data := .fields #[.none, .bool false, .ref s.heap.objs.size, rawInt 0, .none, .none] } }) :=
  .of_wp fun prog w A R s h => by
    obtain ⟨hp, g, d, tk, os⟩ := s
    obtain ⟨hH, hR⟩ := h
    have sub_e := sub_enumerate
    have starts : ∀ {A' : Around} {E : Value → Shared → Prop} {Q : Value → Shared → Prop}, Q (.ref hp.objs.size) ⟨hp.push o, g, d, tk, os⟩ → wpAny (model prog w) A' (pyIter v) Q E ⟨hp, g, d, tk, os⟩ := fun q => B.iter prog w _ _ ⟨hp, g, d, tk, os⟩ _ hH q
    wp_walk using starts
    refine wpAny_stack_any fun st => wpAny_pure ?_
    split
    · rename_i c _ _ _ _ _
      cases (c == Value.type "enumerate") <;> (wp_walk using starts; exact ⟨_, rfl, hR⟩)
    · wp_walk using starts
      exact ⟨_, rfl, hR⟩
theorem enum_call1 {prog : Program} {w : World} {A : Around} {E : Value → Shared → Prop} {s : Shared} {v : Value} {o : Obj} {H : Heap → Prop} {Q : Value → Shared → Prop} (B : Begins v o H) (hH : H s.heap)
    (h : ∀ h', IsEnum h' (s.heap.objs.size + 1) s.heap.objs.size 0 .none → h'.get? s.heap.objs.size = some o → (∀ b u, s.heap.get? b = some u → h'.get? b = some u) → Q (.ref (s.heap.objs.size + 1)) { s with heap := h' }) :
    wpAny (model prog w) A (call (.type "enumerate") [v]) Q E s := by
  refine callType_new F.called_enumerate (by decide) (F.typeCall_enumerate_1 _) (F.newCall_enumerate_1 _) (fun x => F.args_object_init_2 x _) F.entry_enumerate_new (enum_new1 B) ⟨hH, ?_⟩
  have sz1 : (s.heap.push o).objs.size = s.heap.objs.size + 1 := Heap.size_push ..
  generalize hE : ({ cls := .type "enumerate", data := .fields #[.none, .bool false, .ref s.heap.objs.size, rawInt 0, .none, .none] } : Obj) = eo
  have he : ((s.heap.push o).push eo).get? (s.heap.objs.size + 1) = some eo := by
    have z := Heap.get?_push_size (s.heap.push o) (o := eo) (by subst hE; rfl)
    rwa [sz1] at z
  show _ ∧ _
  rw [sz1]
  subst hE
  exact ⟨⟨_, he, rfl⟩, h _ he (Heap.get?_push_of_some _ (Heap.get?_push_size _ B.free)) fun b u x => Heap.get?_push_of_some _ (Heap.get?_push_of_some _ x)⟩
/-- the tuple at a, each item in a new pair -/
def ItE (K : PySem.W.Frag) (a : Addr) : It :=
  ⟨fun i H => ∃ (xs : List V) (x : V), SqT K H a xs ∧ xs[i]? = some x, fun i H v H' => ∃ T x, v = .ref T ∧ H T = none ∧ H' = upd H T (.tup [.int (i : Nat), x]) ∧ ∀ xs, SqT K H a xs → xs[i]? = some x, fun i H => ∃ xs : List V, SqT K H a xs ∧ xs.length ≤ i⟩
theorem turn_enumT {P : Program} {w : World} {K : PySem.W.Frag} {elts : List Expr} {kk : Nat} {tpos : Pos} (a e it : Addr) :
    Turn P w K (.Tuple elts kk tpos) (ItE K a) [e, it] e (fun i h => (∃ old, IsEnum h e it ((i : Nat) : Int) old) ∧ h.IsTupleIter it a i ∧ (e ≠ it ∧ a ≠ it ∧ a ≠ e)) where
  mem := by simp
  obj := fun i h st b hb => by
    obtain ⟨⟨old, he⟩, ⟨o, ho, hc, hd⟩, _⟩ := st
    rcases (show b = e ∨ b = it by simpa using hb) with z | z
    · rw [z]; exact ⟨_, he, fun v q => nomatch q⟩
    · rw [z]; exact ⟨o, ho, fun v q => by rw [hd] at q; cases q⟩
  keep := fun i h h' st k => by
    obtain ⟨⟨old, he⟩, hi, ne⟩ := st
    exact ⟨⟨old, k e (by simp) _ he⟩, hi.at fun o q => k it (by simp) o q, ne⟩
  item := by
    intro X hP hw hK hc i pins s σ H E I hf st hg
    subst hP hw hK
    obtain ⟨⟨old, he⟩, hit, ne, na, nae⟩ := st
    obtain ⟨xs, x, hq, hx⟩ := hg
    obtain ⟨its, rv, p, hz⟩ := I.tuple hq
    obtain ⟨u, hu, ru⟩ := rv.get hx
    have hel : e < s.heap.objs.size := Heap.lt_size he
    have hil : it < s.heap.objs.size := by obtain ⟨_, q, _⟩ := hit; exact Heap.lt_size q
    have D := Draws.tuple (prog := X.prog) (w := X.w) (A := X.A.in1) (I.ok.hd hc) it a na its.toArray
    have lt : i < its.toArray.size := by
      rw [List.size_toArray]
      exact (List.getElem?_eq_some_iff.mp hu).1
    refine wpAny_pyNext_enum_itemD D he ⟨hit, p⟩ lt ne (by simp [ne, Ne.symm nae]) fun y h' tk hy ho hst hT hsz hk => ?_
    have ey : y = u := by
      have : its.toArray[i]? = some u := by simpa using hu
      rw [this] at hy; exact (Option.some.inj hy).symm
    subst ey
    refine ⟨_, rfl, wpAny_letOwnedTupleGo_enum (s := { s with heap := h', toks := tk + 1 }) ho fun h'' he' sb => ?_⟩
    have hT2 := (sb.2 _ (Nat.ne_of_gt hel)).trans hT
    have new : ObjOk X.prog X.w (upd H s.heap.objs.size (.tup [.int (i : Nat), x])) h'' s.heap.objs.size (.tup [.int (i : Nat), x]) := ⟨by show 2 ≤ sizeLine; decide, [.int i tk, y], .cons ⟨_, rfl⟩ (.cons ru .nil), ⟨_, hT2, rfl, _, rfl⟩⟩
    have I1 : Inv X pins σ (upd H s.heap.objs.size (.tup [.int (i : Nat), x])) { s with heap := h'', toks := tk + 1 } :=
      I.turnedNew (ch := [e, it]) (fun b ob hb q => (sb.2 b fun z => hb (by simp [z])).trans (hk b ob (fun z => hb (by simp [z])) (fun z => hb (by simp [z])) q)) hf (Nat.le_refl _) new
    refine ⟨.ref s.heap.objs.size, _, I1, rfl, ⟨_, x, rfl, I.hok.fresh (Nat.le_refl _), rfl, fun ys hy => by rw [I.tuple_inj hy hq]; exact hx⟩, ⟨⟨y, ?_⟩, hst.1.at fun o q => (sb.2 it (Ne.symm ne)).trans q, ne, na, nae⟩, fun b hb => ?_⟩
    · rw [show ((i + 1 : Nat) : Int) = (i : Int) + 1 by omega]; exact he'
    · have lt : b < s.heap.objs.size := by
        rcases (show b = e ∨ b = it by simpa using hb) with z | z <;> (rw [z]; assumption)
      rw [upd_ne (Nat.ne_of_lt lt)]
      exact (hf b hb).1
  done := by
    intro X hP hw hK hc i pins s σ H E I hf st hg
    subst hP hw hK
    obtain ⟨⟨old, he⟩, hit, ne, na, nae⟩ := st
    obtain ⟨xs, hq, hx⟩ := hg
    obtain ⟨its, rv, p, hz⟩ := I.tuple hq
    obtain ⟨f0, f1, f2, f3, f4, f5⟩ := hf it (by simp)
    have hl := rv.length
    have D := Draws.tuple (prog := X.prog) (w := X.w) (A := X.A.in1) (I.ok.hd hc) it a na its.toArray
    have hh : X.A.handled = none := I.ok.hd hc
    have hT : s.TypeIs (.ref e) "enumerate" := ⟨_, he, rfl⟩
    unfold pyNext
    refine wpAny_bind (wpAny_attempt (wpAny_callSpecial?_slot (name := Str.ofString "__next__") hT F.slot_enumerate_next (wpAny_call_entry F.slot_enumerate_next hT F.entry_enumerate_next ?_ (F.args_enumerate_next_1 _))))
    show wpAny _ _ (field (.ref e) 2 >>= _) _ _ _
    refine wpAny_bind (wpAny_field he rfl (x := .ref it) rfl ?_)
    refine wpAny_bind (wpAny_nextOf_tuple_end hh hit p (by simp; omega) fun h' y eb hy => ?_)
    obtain ⟨o, ho, hcl⟩ := hy
    refine wpAny_bind (wpAny_isInstance (T := "StopIteration") (b := true) ⟨o, ho, hcl⟩ isSubtype_stop ?_)
    exact wpAny_pure ⟨rfl, I.turned (t' := s.toks) (fun b o hb q => eb b o hb q) f0 f1 f3 f4 f5⟩
  self := fun A i s Q E st h => let ⟨⟨_, he⟩, _⟩ := st; wpAny_pyIter_enum he h
def iEnT (K : PySem.W.Frag) (ta : TA) : TI := fun σ H R => ta σ H fun vs H1 => ∃ a xs, vs = [.ref a] ∧ SqT K H1 a xs ∧ R (ItE K a) H1
theorem pi_enumT {X : Cx} {e : Expr} {ta : TA} {p pos tpos : Pos} {elts : List Expr} {kk : Nat} (hg : Gl X "enumerate") (hm : X.mg "enumerate" = none) (ha : PA X [e] ta) (hs : starEach [e] X.env = [(false, eval e X.env)] := by rfl) :
    PI X (.Tuple elts kk tpos) (.Call (.Name "enumerate" p) [e] [] pos) (iEnT X.K ta) := by
  constructor
  intro pins s σ H R I h
  refine Call_ (ld_blt I hg hm boot_enumerate (PyProof.Rows.callWith_type1 (thn (ha.run pos pins s σ H _ I h) fun us s1 ⟨vs, H1, I1, r1, a, xs, ex, hq, q⟩ => ?_) hs rfl))
  subst ex
  cases r1 with
  | cons r rr =>
    cases rr
    cases r
    obtain ⟨its, rv, p', hz⟩ := I1.tuple hq
    refine enum_call1 (begins_tuple a its.toArray) p' fun h' he ho hk => wpAny_pyIter_enum he ?_
    have I2 : Inv X pins σ H1 { s1 with heap := h' } := I1.kept (t' := s1.toks) hk
    have al : a < s1.heap.objs.size := by obtain ⟨_, q, _⟩ := p'; exact Heap.lt_size q
    refine ⟨s1.heap.objs.size + 1, [s1.heap.objs.size + 1, s1.heap.objs.size], _, _, H1, rfl, I2, turn_enumT a (s1.heap.objs.size + 1) s1.heap.objs.size, ⟨⟨.none, he⟩, ⟨_, ho, rfl, rfl⟩, Nat.succ_ne_self _, Nat.ne_of_lt al, Nat.ne_of_lt (Nat.lt_succ_of_lt al)⟩, fun b hb => ?_, q⟩
    have hle : s1.heap.objs.size ≤ b := by
      rcases (show b = s1.heap.objs.size + 1 ∨ b = s1.heap.objs.size by simpa using hb) with z | z
      · rw [z]; exact Nat.le_add_right _ _
      · rw [z]; exact Nat.le_refl _
    exact I1.fpOk hle (I1.hok.fresh hle)
section
variable {X : Cx} {W : WX} {tg e a b c : Expr} {pos : Pos}
theorem wk_enumT {K : PySem.W.Frag} {Hb : Hp} {a : Addr} {vs : List V} {ds : List D} (h : Hb a = some (.tup vs)) (r : RpAll K Hb vs ds) : Wk K Hb (ItE K a) (enumD ds) := fun Hs H e1 e2 => by
  have hl : H a = some (.tup vs) := e2 _ _ (e1 _ _ h)
  refine ⟨fun i d hd => ?_, ⟨vs, st_of hl, by unfold enumD; rw [List.length_map, List.length_zipIdx, r.length]; exact Nat.le_refl _⟩⟩
  unfold enumD at hd
  rw [List.getElem?_map, List.getElem?_zipIdx] at hd
  cases hc : ds[i]? with
  | none => rw [hc] at hd; cases hd
  | some y =>
    rw [hc] at hd; simp at hd; subst hd
    obtain ⟨v, hv, rv⟩ := r.get hc
    refine ⟨⟨vs, v, st_of hl, hv⟩, fun x H' ⟨T, z, e, hT, e3, hx⟩ => ?_⟩
    subst e; subst e3
    have := hx vs (st_of hl)
    rw [hv] at this; cases this
    have hTs : Hs T = none := fresh_back e2 hT
    refine ⟨upd Hs T _, Step.new e2 hT, .tup upd_same (.cons (.int _) (.cons (rv.mono (e1.trans (Ex.new hTs))) .nil))⟩
/-- enumerate of a list or a tuple -/
def iEn (ev : Ev Rv) : Ev (List D) := fun r => (ev r).bind fun x r => match x.data with
  | .lst ds => .ok (enumD ds) r
  | .tup ds => .ok (enumD ds) r
  | _ => .stuck
theorem sni_en {ev : Ev Rv} {p tpos : Pos} {elts : List Expr} {kk : Nat} (h : SndE X W e ev) (hg : Gl X "enumerate") (hm : X.mg "enumerate" = none) (hs : starEach [e] X.env = [(false, eval e X.env)] := by rfl) (hst : starEach [e] X.env = (false, eval e X.env) :: starEach [] X.env := by rfl) :
    SndI X W (.Tuple elts kk tpos) (.Call (.Name "enumerate" p) [e] [] pos) (iEn ev) := fun Bs B Hs H s r R E q => by
  unfold iEn at q
  cases hv : ev r with
  | stuck => rw [hv] at q; exact False.elim q
  | exc y r1 =>
    refine ⟨_, pi_enum hg hm (pa_cons pe_all pa_nil hst) hs, h _ _ _ _ _ _ _ E ?_⟩
    rw [hv] at q ⊢; exact q
  | ok x r1 =>
    rw [hv] at q
    have q : PostE X.K W Bs B Hs s (relI X.K) R (match x.data with
      | .lst ds => .ok (enumD ds) r1
      | .tup ds => .ok (enumD ds) r1
      | _ => .stuck) := q
    split at q
    · rename_i ds hx
      refine ⟨_, pi_enum hg hm (pa_cons pe_all pa_nil hst) hs, h _ _ _ _ _ _ _ E ?_⟩
      rw [hv]
      intro v Hs' H' e1 E1 ra
      obtain ⟨Hs2, e2, E2, r2⟩ := RvAt.use E1 ra
      rw [hx] at r2
      cases r2 with
      | lst h1 h2 => exact ⟨_, _, rfl, sq_of (E2.sub _ _ h1), q _ Hs2 H' (e1.trans e2) E2 (wk_enum h1 h2)⟩
    · rename_i ds hx
      refine ⟨_, pi_enumT hg hm (pa_cons pe_all pa_nil hst) hs, h _ _ _ _ _ _ _ E ?_⟩
      rw [hv]
      intro v Hs' H' e1 E1 ra
      obtain ⟨Hs2, e2, E2, r2⟩ := RvAt.use E1 ra
      rw [hx] at r2
      cases r2 with
      | tup h1 h2 => exact ⟨_, _, rfl, st_of (E2.sub _ _ h1), q _ Hs2 H' (e1.trans e2) E2 (wk_enumT h1 h2)⟩
    · exact False.elim q
/-! ### starred items of displays -/
def vStar (ea : Ev Rv) (as : Ev (List D)) : Ev (List D) := fun r => (ea r).bind fun x r1 => match x.data with
  | .lst l => (as r1).bind fun xs r2 => .ok (l ++ xs) r2
  | .tup l => (as r1).bind fun xs r2 => .ok (l ++ xs) r2
  | _ => .stuck
theorem snv_star {es : List Expr} {ea : Ev Rv} {as : Ev (List D)} {p : Pos} (ha : SndE X W e ea) (hs : SndV X W es as) (hst : starEach (.Starred e p :: es) X.env = (true, eval e X.env) :: starEach es X.env := by rfl) : SndV X W (.Starred e p :: es) (vStar ea as) := fun Bs B Hs H s r Q E q =>
  ⟨_, StX.pa_star pe_all pa_all hst, ha _ _ _ _ _ _ _ E (PostE.bind q fun x r1 v Hs1 H1 _ x1 E1 ra q1 => by
    obtain ⟨Hs2, e2, E2, r2⟩ := RvAt.use E1 ra
    have q1 := PostE.mono e2 q1
    generalize x.data = xd at q1 r2
    split at q1
    · cases r2 with
      | lst h1 h2 => exact ⟨_, _, rfl, .inr (sq_of (E2.sub _ _ h1)), hs _ _ _ _ _ _ _ E2 (PostE.bind q1 fun xs r3 vs Hs3 H3 _ x3 E3 rb q3 => q3.ok E3 ((h2.mono x3).append rb))⟩
    · cases r2 with
      | tup h1 h2 => exact ⟨_, _, rfl, .inl (st_of (E2.sub _ _ h1)), hs _ _ _ _ _ _ _ E2 (PostE.bind q1 fun xs r3 vs Hs3 H3 _ x3 E3 rb q3 => q3.ok E3 ((h2.mono x3).append rb))⟩
    · exact False.elim q1)⟩
end
end Mp
set_option Elab.async false
set_option linter.all false
set_option maxRecDepth 100000
namespace Mp
open PySem PyProof.Rows L2 Evl
/-! ### two rules for one operation -/
section
variable {X : Cx} {W : WX} {tg e o a b c : Expr} {es : List Expr} {pos p : Pos} {x : Str}
theorem ok_or {g : Value → Value → Sem Value} {f1 f2 : D → D → Option Rv} (h1 : OpOk X g f1) (h2 : OpOk X g f2) : OpOk X g fun d e => (f1 d e).orElse fun _ => f2 d e := by
  intro Bs B Hs H s r v u d e x Q E hv hu hf q
  have hf : (f1 d e).orElse (fun _ => f2 d e) = some x := hf
  cases h : f1 d e with
  | none => rw [h] at hf; exact h2 _ _ _ _ _ _ _ _ _ _ _ _ E hv hu hf q
  | some y =>
    rw [h] at hf
    have hf : some y = some x := hf
    cases hf
    exact h1 _ _ _ _ _ _ _ _ _ _ _ _ E hv hu h q
theorem cok_or {g : Value} {f1 f2 : List D → Option Rv} (h1 : CallOk X g f1) (h2 : CallOk X g f2) : CallOk X g fun d => (f1 d).orElse fun _ => f2 d := by
  intro Bs B Hs H s r vs ds x Q E h hf q
  have hf : (f1 ds).orElse (fun _ => f2 ds) = some x := hf
  cases hh : f1 ds with
  | none => rw [hh] at hf; exact h2 _ _ _ _ _ _ _ _ _ _ E h hf q
  | some y =>
    rw [hh] at hf
    have hf : some y = some x := hf
    cases hf
    exact h1 _ _ _ _ _ _ _ _ _ _ E h hh q
/-! ### names of the module -/
theorem snd_gi {i : Int} {t : Tok} (hg : Gl X x) (hm : X.mg x = some (.int i t)) (hd : (x == ("__debug__" : Str)) = false := by decide) : SndE X W (.Name x pos) (eC (.int i)) := snd_c (v := .int i) (pe_glob hg hm ⟨t, rfl⟩ hd) fun _ => .int _
theorem sno_gi {i : Int} {t : Tok} (hg : Gl X x) (hm : X.mg x = some (.int i t)) (hd : (x == ("__debug__" : Str)) = false := by decide) : SndO X W (.Name x pos) (oC (.int i)) := sno_c (v := .int i) (pe_glob hg hm ⟨t, rfl⟩ hd) fun _ => .int _
theorem snd_gs {i : Str} {t : Tok} (hg : Gl X x) (hm : X.mg x = some (.str i t)) (hd : (x == ("__debug__" : Str)) = false := by decide) : SndE X W (.Name x pos) (eC (.str i)) := snd_c (v := .str i) (pe_glob hg hm ⟨t, rfl⟩ hd) fun _ => .str _
theorem sno_gs {i : Str} {t : Tok} (hg : Gl X x) (hm : X.mg x = some (.str i t)) (hd : (x == ("__debug__" : Str)) = false := by decide) : SndO X W (.Name x pos) (oC (.str i)) := sno_c (v := .str i) (pe_glob hg hm ⟨t, rfl⟩ hd) fun _ => .str _
/-! ### order of tuples -/
def lexLe (ns ms : List Int) : Bool := Ob.lexAt (fun j => decide (ns.getD j 0 = ms.getD j 0)) (fun j => decide (ns.getD j 0 ≤ ms.getD j 0)) (decide (ns.length ≤ ms.length)) 0 (min ns.length ms.length)
def dLeT : D → D → Option Rv
  | .tup a, .tup b => match toInts a, toInts b with
    | some ns, some ms => vB (lexLe ns ms)
    | _, _ => none
  | _, _ => none
theorem ok_leT (R : Rm X) : OpOk X (compareOp .LtE) dLeT := by
  intro Bs B Hs H s r v u d e x Q E hv hu hf q
  have hr := R.un
  unfold dLeT at hf
  split at hf
  · split at hf <;> cases hf
    rename_i n1 n2
    obtain ⟨a, vs, rfl, h1, r1, w1⟩ := hv.tup E.sub
    obtain ⟨b, us, rfl, h2, r2, w2⟩ := hu.tup E.sub
    have e1 := toInts_rp n1 r1
    have e2 := toInts_rp n2 r2
    subst e1 e2
    exact ⟨_, op_leT (by omega), _, _, _, _, rfl, rfl, st_of h1, st_of h2, q.val E (.bl _)⟩
  · cases hf
/-! ### isinstance -/
/-- what an own class must have for isinstance, == and != -/
structure InsK (K : PySem.W.Frag) (C : Addr) : Prop where
  cl : Cls K C
  ha : PySem.W.findIn K (.ref C) "__class__" = some (some (.builtin "object.__class__"))
  hn : PySem.W.specialIn K (.builtin "object.__class__") "__get__" = some (some (.builtin "getset_descriptor.__get__"))
  htk : PySem.W.takesIn K (.builtin "object.__class__") = some true
  hm : PySem.W.mroIn K C (.type "object") = some true
def tyNm : D → String
  | .non => "NoneType"
  | .bl _ => "bool"
  | .int _ => "int"
  | .str _ => "str"
  | .tup _ => "tuple"
  | .lst _ => "list"
  | .dT _ => "dict"
  | .dK _ => "dict"
  | .scr _ => "list"
  | .ins _ _ => ""
def tyVl : D → Value
  | .ins C _ => .ref C
  | d => .type (tyNm d)
theorem tyx_of {K : PySem.W.Frag} {H : Hp} {v : V} {d : D} (h : Rp K H v d) (hs : ∀ l, d ≠ .scr l) (hi : ∀ C l, d = .ins C l → InsK K C) : TyX K H v (tyVl d) := by
  cases h with
  | non => exact .base .non
  | bl b => exact .base (.bl b)
  | int b => exact .base (.int b)
  | str b => exact .base (.str b)
  | lst h r => exact .base (.lst h)
  | tup h r => exact .base (.tup h)
  | scr h => exact absurd rfl (hs _)
  | dT h k r => exact .base (.dT h)
  | dK h k r => exact .base (.dK h)
  | ins h k r =>
    have c := hi _ _ rfl
    exact .base (.ins h c.cl c.ha c.hn c.htk c.hm)
/-- f tells isinstance(d, cu) -/
structure IsOk (K : PySem.W.Frag) (cu : Value) (f : D → Option Bool) : Prop where
  one : ∀ d b, f d = some b → PySem.W.kitOne K (tyVl d) cu = some b
  scr : ∀ l, f (.scr l) = none
  ins : ∀ C l b, f (.ins C l) = some b → InsK K C
def dIsi (f : D → Option Bool) (d : D) : Option Rv := (f d).map fun b => .val (.bl b)
theorem snd_isi {oa : Ev Src} {cu : Value} {cv : V} {f : D → Option Bool} (hf : IsOk X.K cu f) (hc : PE X c (tC cv)) (kc : ClsV cv cu) (ha : SndO X W a oa) (hg : Gl X "isinstance") (hm : X.mg "isinstance" = none) (hv : bootBuiltins "isinstance" = some (.builtin "isinstance"))
    (he : starEach [a, c] X.env = (false, eval a X.env) :: starEach [c] X.env := by rfl) (hst2 : starEach [c] X.env = (false, eval c X.env) :: starEach [] X.env := by rfl) (hpl : (backTo pos (starEach [c] X.env)).any (·.1) = false := by rfl) :
    SndE X W (.Call (.Name "isinstance" p) [a, c] [] pos) (e1 (dIsi f) oa) := fun Bs B Hs H s r Q E q =>
  ⟨_, pe_callB call_isi hg hm hv (pa_cons pe_all (pa_cons hc pa_nil hst2) he) (by decide) (by decide) he hpl, ha _ _ _ _ _ _ _ E (PostE.bind q fun x r1 v Hs1 H1 _ x1 E1 ra q1 => by
    split at q1
    · rename_i d hd
      have o := (Src.opd E1 ra hd).rp E1.sub
      split at q1
      · rename_i z hz
        simp only [dIsi, Option.map_eq_some_iff] at hz
        obtain ⟨b, hb, rfl⟩ := hz
        exact ⟨v, cv, tyVl d, cu, b, rfl, kc, tyx_of o (fun l e => by subst e; rw [hf.scr] at hb; cases hb) (fun C l e => by subst e; exact hf.ins _ _ _ hb), hf.one _ _ hb, q1.ok E1 (.bl _)⟩
      · exact False.elim q1
    · exact False.elim q1)⟩
/-- of a built-in type; own instances: k -/
def isT (T : String) (k : Bool) : D → Option Bool
  | .scr _ => none
  | .ins _ _ => if k then some false else none
  | d => some (tyNm d == T || (tyNm d == "bool" && T == "int"))
theorem kitB_all : ∀ T ∈ ["int", "str", "tuple", "bool", "list"], ∀ n ∈ ["NoneType", "bool", "int", "str", "tuple", "list", "dict"], kitB n T = some (n == T || (n == "bool" && T == "int")) := by decide +kernel
theorem isT_ok {K : PySem.W.Frag} {T : String} (hT : T ∈ ["int", "str", "tuple", "bool", "list"] := by decide) : IsOk K (.type T) (isT T false) where
  one := fun d b h => by
    have key := kitB_all T hT
    cases d <;> simp only [isT, Option.some.injEq, reduceCtorEq, Bool.false_eq_true, if_false] at h <;> subst h <;> exact kit_ty (key _ (by simp [tyNm]))
  scr := fun l => rfl
  ins := fun C l b h => by simp [isT] at h
/-- the same, instances of the one class at C among what is asked -/
def isTC (T : String) (C : Addr) : D → Option Bool
  | .ins C' _ => if C' = C then some false else none
  | d => isT T false d
theorem isTC_ok {K : PySem.W.Frag} {T : String} {C : Addr} (c : InsK K C) (h0 : PySem.W.kitOne K (.ref C) (.type T) = some false) (hT : T ∈ ["int", "str", "tuple", "bool", "list"] := by decide) : IsOk K (.type T) (isTC T C) where
  one := fun d b h => by
    cases d with
    | ins C' l =>
      simp only [isTC] at h
      split at h
      · rename_i e; subst e; cases h; exact h0
      · cases h
    | _ => exact (isT_ok hT).one _ b h
  scr := fun l => rfl
  ins := fun C' l b h => by
    simp only [isTC] at h
    split at h
    · rename_i e; subst e; exact c
    · cases h
/-- of the own class at C -/
def isC (C : Addr) : D → Option Bool
  | .ins C' _ => if C' = C then some true else none
  | .scr _ => none
  | d => some false
theorem isC_ok {K : PySem.W.Frag} {C : Addr} (c : InsK K C) (h0 : ∀ n ∈ ["NoneType", "bool", "int", "str", "tuple", "list", "dict"], PySem.W.kitOne K (.type n) (.ref C) = some false) : IsOk K (.ref C) (isC C) where
  one := fun d b h => by
    cases d with
    | ins C' l =>
      simp only [isC] at h
      split at h
      · rename_i e; subst e; cases h; exact if_pos (beq_self_eq_true _)
      · cases h
    | scr l => simp [isC] at h
    | _ => simp only [isC, Option.some.injEq] at h; subst h; exact h0 _ (by simp [tyNm])
  scr := fun l => rfl
  ins := fun C' l b h => by
    simp only [isC] at h
    split at h
    · rename_i e; subst e; exact c
    · cases h
/-! ### signs of a text, as a list -/
def dListStr : List D → Option Rv
  | [.str z] => if z.length ≤ sizeLine then some (.new (.lst (signs z))) else none
  | _ => none
theorem signs_rp {K : PySem.W.Frag} {H : Hp} : ∀ l : List Nat, RpAll K H (l.map fun c => V.str ⟨#[c]⟩) (l.map fun c => D.str ⟨#[c]⟩)
  | [] => .nil
  | c :: l => .cons (.str _) (signs_rp l)
def rListS : List V → Hp → VK → Prop := fun xs H Q => ∃ z : Str, xs = [.str z] ∧ z.length ≤ sizeLine ∧ ∀ q, H q = none → Q (.ref q) (upd H q (.lst (z.cps.toList.map fun c => V.str ⟨#[c]⟩)))
theorem call_listS (hc : X.calm = true) : CallR X (.type "list") rListS := by
  intro pins s σ H xs us Q I r h
  obtain ⟨z, rfl, hz, q⟩ := h
  cases r with
  | cons rx rr =>
    cases rr
    obtain ⟨t, rfl⟩ := rx
    refine call_list_str (I.ok.hd hc) z t (fun h' tk acc' c' hk hS hacc => ?_) hz
    refine ⟨.ref s.heap.objs.size, upd H s.heap.objs.size (.lst (z.cps.toList.map fun c => V.str ⟨#[c]⟩)), I.laid hk (Nat.le_refl _) (show ObjOk X.prog X.w _ _ _ (.lst (z.cps.toList.map fun c => V.str ⟨#[c]⟩)) from ⟨?_, acc'.toList, c', ?_, ?_⟩), rfl, q _ (I.hok.fresh (Nat.le_refl _))⟩
    · rw [List.length_map, Array.length_toList]; exact hz
    · refine vals_of_at (by rw [List.length_map, Array.length_toList, Array.length_toList]; exact hacc.1.symm) fun j x w h1 h2 => ?_
      obtain ⟨c, u, e1, e2⟩ := hacc.2 j w (by rw [← Array.getElem?_toList]; exact h2)
      rw [List.getElem?_map, Array.getElem?_toList, e1] at h1
      cases h1
      subst e2
      exact ⟨u, rfl⟩
    · rw [Array.toArray_toList]; exact hS
theorem ok_listS (R : Rm X) : CallOk X (.type "list") dListStr := by
  intro Bs B Hs H s r vs ds x Q E h hf q
  unfold dListStr at hf
  split at hf
  · split at hf <;> cases hf
    rename_i z hz
    obtain ⟨v, rfl, hh⟩ := h.one
    rw [hh.str]
    exact ⟨_, call_listS R.calm, z, rfl, hz, fun p hp => q.lst E (signs_rp _) hp⟩
  · cases hf
end
end Mp
set_option Elab.async false
set_option linter.all false
set_option maxRecDepth 100000
namespace Mp
open PySem PySem.Spec PyProof.Rows L2 Evl
section
variable {X : Cx} {W : WX} {z : Bool} {n : Nat} {g C : Addr} {ks : List Str} {is : List Nat} {x m f : Str} {p pos apos : Pos} {e o : Expr} {es : List Expr} {kws : List Keyword}
/-- what a call comes to that may not raise -/
def ofFO0 : FO → Rho → EO Rv
  | .val d, r => .ok (.val d) r
  | .new o, r => .ok (.new o) r
  | _, _ => .stuck
theorem ask_of0 {K : PySem.W.Frag} {Bs B Hs H : Hp} {s : L2.St} {r : Rho} {Q : VK} {y : FO} (E : EnvOk K Bs B Hs H s r) (q : PostE K W Bs B Hs s (relR K B s) Q (ofFO0 y r)) : AskF K Hs H Q (fun _ _ _ => False) y := by
  cases y with
  | stuck => exact False.elim q
  | val d => exact fun v Hs' H' st rv => q v Hs' H' st.sh (E.step st) rv
  | new o => exact fun a Hs' H' st h1 h2 h3 => q (.ref a) Hs' H' st.sh (E.step st) ⟨a, rfl, h2, E.bnone h1, h3, E.apart h1⟩
  | exc z => exact False.elim q
/-- near_call, as code -/
theorem near_code {fd : FuncData} {ps : List Str} {k np : Nat} {A : Around} {F : List D → FO} (N : Near X k A) (G : FnG X.prog X.w X.K X.mg X.base k g fd ps (spP X.K np F)) (hb : KB X.K fd ps np [] is) (hnp : ∀ {T : Type} (l : List T), l.length = np → sel is l = l)
    {pins : List (Addr × Obj)} {s : Shared} {σ : L2.St} {Hs H : Hp} {vs : List V} {us : List Value} {ds : List D} {Q : VK} (I : Inv X pins σ H s) (r : Vals vs us) (sub : Ex Hs H) (rd : RpAll X.K Hs vs ds) (hl : ds.length = np)
    (ask : AskF X.K Hs H Q (fun _ _ _ => False) (F ds)) : codeAny (model X.prog X.w) A (.call (.ref g) ⟨us, []⟩) (fun res s' => ∃ u, res = .ok (.ret u) ∧ EP X pins σ Q u s') s := by
  have nv : vs.length = np := rd.length.trans hl
  have nu : us.length = np := r.length.symm.trans nv
  have env : Env0 X.prog X.w X.K X.mg X.base A X.stack s H := by
    have e := I.env0
    exact ⟨N.fr.trans e.frames, e.mod, e.bs, e.bsz, e.funs, e.frf, e.hok, e.bare⟩
  have bd : BindsTo s fd ⟨us, []⟩ (ps.zip us) := by
    have h := hb.to s us [] I.kIn nu rfl
    rw [List.append_nil, hnp us nu] at h
    exact h
  refine codeAny_mono (G.run A X.stack s H ⟨us, []⟩ us vs Q (fun _ _ _ => False) N.room N.gd env bd r ⟨Hs, ds, sub, rd, hl, ask⟩) ?_
  intro res s' hq
  match res, hq with
  | .ok (.ret u), hq => exact ⟨u, rfl, I.after hq⟩
  | .error e, hq =>
    obtain ⟨_, _, _, _, _, _, _, _, _, _, _, _, w⟩ := hq
    exact w.elim
/-! ### properties -/
theorem getprop_near {fd : FuncData} {ps : List Str} {k : Nat} {F : List D → FO} {pr a dx : Addr} {fs : List (Str × V)} {l : List (Str × D)} {pins : List (Addr × Obj)} {σ : L2.St} {Hs H : Hp} {s : Shared} {Q : VK} {b : Bool} {E' : Value → Shared → Prop}
    (N : Near X k X.A.in1) (G : FnG X.prog X.w X.K X.mg X.base k g fd ps (spP X.K 1 F)) (hb : KB X.K fd ps 1 [] is) (hnp : ∀ {T : Type} (l : List T), l.length = 1 → sel is l = l) (c : Cls X.K C) (hp : PropOf X.K C f pr g)
    (I : Inv X pins σ H s) (ea : H a = some (.ins C dx fs)) (sub : Ex Hs H) (rd : Rp X.K Hs (.ref a) (.ins C l)) (ask : AskF X.K Hs H Q (fun _ _ _ => False) (F [.ins C l])) : wpAny (model X.prog X.w) X.A (getAttr (.ref a) f b) (EP X pins σ Q) E' s := by
  obtain ⟨od, J⟩ := inst_at I ea
  obtain ⟨rest, hrec⟩ := hp.rec_
  have I1 := I.tok (s.toks + 1)
  have hc : (PySem.W.clsIn X.K C).isSome = true := by
    obtain ⟨cd, hc, _⟩ := PySem.W.any_some c.hd
    rw [hc]; rfl
  have pg := PySem.W.plainGet_of (c.get f)
  refine PySem.W.get_bind I.kIn J pg.1 (PySem.W.findObj_data hc hp.at_ hp.get hp.tak) pg.2 (wpAny_call (PySem.W.prop_get (s := { s with toks := s.toks + 1 }) I.kIn hrec ?_))
  refine codeAny_mono (near_code N G hb hnp I1 (.cons (show L2.RelV (.ref a) (Value.ref a) from rfl) .nil) sub (.cons rd .nil) rfl ask) ?_
  rintro res s' ⟨u, rfl, v, H', I3, rv, q3⟩
  show wpAny _ _ (handedOut u) _ _ _
  rw [PySem.W.handedOut_of (handed_of rv)]
  exact wpAny_pure ⟨v, H', I3, rv, q3⟩
def eProp (C : Addr) (F : List D → FO) (ev : Ev Rv) : Ev Rv := fun r => (ev r).bind fun x r1 => match x.data with
  | .ins C' l => if C' = C then ofFO0 (F [.ins C' l]) r1 else .stuck
  | _ => .stuck
theorem snd_prop {fd : FuncData} {ps : List Str} {k : Nat} {F : List D → FO} {pr : Addr} {ev : Ev Rv} (N : Near X k X.A.in1) (G : FnG X.prog X.w X.K X.mg X.base k g fd ps (spP X.K 1 F)) (hb : KB X.K fd ps 1 [] is) (hnp : ∀ {T : Type} (l : List T), l.length = 1 → sel is l = l)
    (c : Cls X.K C) (hp : PropOf X.K C f pr g) (h : SndE X W e ev) (hab : attributeBase e f X.env (eval e X.env) = eval e X.env := by rfl) : SndE X W (.Attribute e f pos) (eProp C F ev) := fun Bs B Hs H s r Q E q => by
  let t : TE := fun σ H Q => aE X e σ H fun x H1 => ∃ a dx fs l Hs, x = .ref a ∧ H1 a = some (.ins C dx fs) ∧ Ex Hs H1 ∧ Rp X.K Hs (.ref a) (.ins C l) ∧ AskF X.K Hs H1 Q (fun _ _ _ => False) (F [.ins C l])
  have pe : PE X (.Attribute e f pos) t := by
    constructor
    intro pins s σ H Q I h
    refine attr_of hab (thn (pe_all.run pins s σ H _ I h) fun u s1 ⟨x, H1, I1, rx, a, dx, fs, l, Hs, ex, ea, sub, rd, ask⟩ => ?_)
    subst ex
    obtain rfl : u = Value.ref a := rx
    exact getprop_near N G hb hnp c hp I1 ea sub rd ask
  refine ⟨t, pe, h _ _ _ _ _ _ _ E (PostE.bind q fun x r1 v Hs1 H1 _ x1 E1 ra q1 => ?_)⟩
  obtain ⟨Hs2, e2, E2, r2⟩ := RvAt.use E1 ra
  have q2 := PostE.mono e2 q1
  clear q1
  generalize x.data = xd at q2 r2
  have q1 := q2
  clear q2
  split at q1
  · rename_i C' l
    split at q1
    · rename_i hC
      subst hC
      cases r2 with
      | ins h1 h2 h3 =>
        rename_i a dx fs
        exact ⟨a, dx, fs, l, Hs2, rfl, E2.sub _ _ h1, E2.sub, .ins h1 h2 h3, ask_of0 E2 q1⟩
    · exact False.elim q1
  · exact False.elim q1
/-! ### own ==, != -/
/-- what may stand on the right -/
def eqArg (C : Addr) : D → Bool
  | .ins C' _ => decide (C' = C)
  | .scr _ => false
  | _ => true
def dOwn2 (C : Addr) (F : List D → FO) (neg : Bool) (d e : D) : Option Rv := match d with
  | .ins C' l => if C' = C ∧ eqArg C e = true then (match F [.ins C' l, e] with
    | .val (.bl k) => vB (k != neg)
    | _ => none) else none
  | _ => none
theorem ty_looks {pins : List (Addr × Obj)} {s : Shared} {σ : L2.St} {H : Hp} {v : V} {u : Value} {e : D} (c : InsK X.K C) (I : Inv X pins σ H s) (rv : L2.RelV v u) (re : Rp X.K H v e) (ha : eqArg C e = true) :
    PySem.W.Looks (model X.prog X.w) s.heap (typeOf u) (tyVl e) := by
  have ty : TyX X.K H v (tyVl e) := tyx_of re (fun l h => by subst h; cases ha) (fun C' l h => by
    subst h
    have : C' = C := by simpa [eqArg] using ha
    subst this; exact c)
  obtain ⟨P, Z, hP, _⟩ := kit_of I rv ty
  exact Z.ty _ _ I.kIn hP
theorem not_first {e : D} (nf : ∀ T ∈ ["NoneType", "bool", "int", "str", "tuple", "list", "dict"], PySem.W.notFirst X.K C (.type T) = true) (ha : eqArg C e = true) : PySem.W.notFirst X.K C (tyVl e) = true := by
  cases e with
  | ins C' l =>
    have : C' = C := by simpa [eqArg] using ha
    subst this
    simp [PySem.W.notFirst, tyVl]
  | scr l => cases ha
  | _ => exact nf _ (by simp [tyNm])
theorem own2_core {F : List D → FO} {neg : Bool} {Bs B Hs H : Hp} {s : L2.St} {r : Rho} {v u : V} {d e : D} {y : Rv} (E : EnvOk X.K Bs B Hs H s r) (hv : Opd X.K Hs H v d) (hu : Opd X.K Hs H u e) (hf : dOwn2 C F neg d e = some y) :
    ∃ a dx fs l k, v = .ref a ∧ H a = some (.ins C dx fs) ∧ F [.ins C l, e] = .val (.bl k) ∧ y = .val (.bl (k != neg)) ∧ eqArg C e = true ∧ RpAll X.K H [.ref a, u] [.ins C l, e] := by
  unfold dOwn2 at hf
  split at hf
  · split at hf
    · rename_i C' l hC
      obtain ⟨rfl, ha⟩ := hC
      split at hf
      · rename_i k hk
        cases hf
        obtain ⟨a, dx, fs, rfl, h1, h2, h3⟩ := hv.ins E.sub
        exact ⟨a, dx, fs, l, k, rfl, h1, hk, rfl, ha, .cons (.ins h1 h2 (h3.mono E.sub)) (.cons (hu.rp E.sub) .nil)⟩
      · cases hf
    · cases hf
  · cases hf
theorem ok_eqO {fd : FuncData} {ps : List Str} {k : Nat} {F : List D → FO} (R : Rm X) (c : InsK X.K C) (nf : ∀ T ∈ ["NoneType", "bool", "int", "str", "tuple", "list", "dict"], PySem.W.notFirst X.K C (.type T) = true)
    (N : Near X k X.A) (G : FnG X.prog X.w X.K X.mg X.base k g fd ps (spP X.K 2 F)) (hb : KB X.K fd ps 2 [] is) (hnp : ∀ {T : Type} (l : List T), l.length = 2 → sel is l = l)
    (hs : PySem.W.findIn X.K (.ref C) "__eq__" = some (some (.ref g))) (hf : PySem.W.isFn X.K (.ref g) = true) : OpOk X (compareOp .Eq) (dOwn2 C F false) := by
  intro Bs B Hs H s r v u d e y Q E hv hu hd q
  obtain ⟨a, dx, fs, l, b, rfl, h1, hF, rfl, ha, rp⟩ := own2_core E hv hu hd
  refine ⟨fun v' u' H0 Q0 => v' = .ref a ∧ u' = u ∧ H0 = H ∧ ∀ H', Step Hs H Hs H' → Q0 (.bl b) H', ?_, rfl, rfl, rfl, fun H' st => by
    have := q (.bl b) Hs H' st
    simp only [Bool.bne_false] at this
    exact this (.bl b)⟩
  intro pins sh σ H0 v' u' w1 w2 Q0 I rv ru hq
  obtain ⟨rfl, rfl, rfl, hq⟩ := hq
  cases rv
  obtain ⟨od, J⟩ := inst_at I h1
  obtain ⟨m, fr⟩ := I.fr
  have hun := R.un
  have re : Rp X.K H0 u' e := by cases rp with | cons _ b => cases b with | cons b _ => exact b
  show wpAny (model X.prog X.w) X.A (richCompare .Eq (.ref a) w2) (EP X pins σ Q0) X.xe sh
  refine PySem.W.cmp_K (op := .Eq) (by omega) fr I.ok.mod.kin J (ty_looks c I ru re ha) (not_first nf ha) hs hf (wpAny_mono (near_call (Q := fun v H' => v = .bl b ∧ Q0 (.bl b) H') N G hb hnp I (.cons (show L2.RelV (.ref a) (Value.ref a) from rfl) (.cons ru .nil)) (Ex.refl H0) rp rfl ?_) ?_ fun _ _ x => x)
  · rw [hF]
    intro v Hs' H' st rv
    cases rv
    exact ⟨rfl, hq H' (step_full E.sub st)⟩
  · rintro w s' ⟨v', H', I', rv', rfl, qq⟩
    cases rv'
    exact ⟨.bl b, H', I', rfl, qq⟩
/-- the machine's own != by the text's == -/
theorem ne_own {pins : List (Addr × Obj)} {s : Shared} {σ : L2.St} {H : Hp} {a dx : Addr} {fs : List (Str × V)} {w2 tb : Value} {Q : VK} {b : Bool} (R : Rm X) (c : InsK X.K C) (I : Inv X pins σ H s) (h1 : H a = some (.ins C dx fs)) (hb : PySem.W.Looks (model X.prog X.w) s.heap (typeOf w2) tb) (hn : PySem.W.notFirst X.K C tb = true)
    (hne : PySem.W.findIn X.K (.ref C) "__ne__" = some (some (.builtin "object.__ne__"))) (hs : PySem.W.findIn X.K (.ref C) "__eq__" = some (some (.ref g))) (hf : PySem.W.isFn X.K (.ref g) = true)
    (h : wpAny (model X.prog X.w) X.A.in1 (call (.ref g) [.ref a, w2]) (EP X pins σ fun v H' => v = .bl b ∧ Q (.bl (!b)) H') X.xe s) : wpAny (model X.prog X.w) X.A (richCompare .NotEq (.ref a) w2) (EP X pins σ Q) X.xe s := by
  obtain ⟨od, J⟩ := inst_at I h1
  have hun := R.un
  have inner : wpAny (model X.prog X.w) X.A (call (.builtin "object.__ne__") [.ref a, w2]) (EP X pins σ Q) X.xe s := by
    refine wpAny_call (codeAny_call_builtin PySem.F.cmp_object.ne.plain PySem.F.cmpEntry_ne (PySem.W.check_slot (i := "object.__ne__") (owner := "object") (n := "__ne__") PySem.F.cmpKind_ne PySem.F.cmpSplit_ne (J.type.andThen (PySem.W.looks_mroIn I.kIn c.hm)) (PySem.F.cmpArgs_ne _ _) ?_))
    unfold Builtin.«object.__ne__»
    refine wpAny_bind (m := slotArgs "__ne__" 1 _) (wpAny_pure ?_)
    refine wpAny_bind (m := cRoomFor _ _) (wpAny_cRoomFor (by show X.A.units + 1 < cLine; omega) ?_)
    refine wpAny_bind (m := callSpecialIfBound? (.ref a) (Str.ofString "__eq__") _) (PySem.W.ifBound_K I.kIn J hs hf (wpAny_mono h (fun r s' hq => ?_) fun _ _ y => y))
    obtain ⟨v', H', I', rv', rfl, qq⟩ := hq
    cases rv'
    refine wpAny_bind (wpAny_pure ?_)
    exact wpAny_pure ⟨.bl (!b), H', I', rfl, qq⟩
  have bound : wpAny (model X.prog X.w) X.A (callSpecialIfBound? (.ref a) "__ne__" [w2]) (fun r s' => ∃ v, r = some v ∧ EP X pins σ Q v s') X.xe s := by
    simp only [callSpecialIfBound?, bindSpecialIfBound?]
    refine wpAny_holding (wpAny_bind (wpAny_bind (wpAny_bind (J.type.here ((PySem.W.looks_findIn I.kIn hne).here ?_)))))
    have last : wpAny (model X.prog X.w) X.A (call (.builtin "object.__ne__") ([.ref a] ++ [w2]) >>= fun v => pure (some v)) (fun r s' => ∃ v, r = some v ∧ EP X pins σ Q v s') X.xe s := wpAny_bind (wpAny_mono inner (fun v s' h' => wpAny_pure ⟨v, rfl, h'⟩) fun _ _ h' => h')
    refine wpAny_bind (wpAny_askSetting (wpAny_ite ?_))
    split
    · exact wpAny_bind ((PySem.W.Looks.of_pure (PySem.F.cmp_object.ne.bind _)).here (wpAny_pure (by exact last)))
    · exact wpAny_tryCatch (wpAny_bind ((PySem.W.Looks.of_pure (PySem.F.cmp_object.ne.bind _)).here (wpAny_pure (by exact last))))
  have one : wpAny (model X.prog X.w) X.A (tryCompare (.ref a) "__ne__" w2) (fun r s' => ∃ v, r = some v ∧ EP X pins σ Q v s') X.xe s := by
    unfold tryCompare
    refine wpAny_bind (wpAny_mono bound (fun r s' hq => ?_) fun _ _ y => y)
    obtain ⟨v, rfl, v', H', I', rv', qq⟩ := hq
    have nn : v ≠ .notImplemented := by
      rintro rfl
      cases v' <;> simp [L2.RelV] at rv'
    cases v <;> first | exact absurd rfl nn | exact wpAny_pure ⟨_, rfl, v', H', I', rv', qq⟩
  unfold richCompare
  simp only [oneThing_ref]
  refine wpAny_holding (wpAny_bind (wpAny_cRoomFor (by omega) ?_))
  refine wpAny_bind (J.type.here (wpAny_bind (hb.here ?_)))
  have fin : ∀ r s', (∃ v, r = some v ∧ EP X pins σ Q v s') → ∃ v, r = some v ∧ EP X pins σ Q v s' := fun _ _ h => h
  split
  · rename_i qn
    have nf : PySem.W.subIn X.K tb (.ref C) = some false := by
      rcases Bool.or_eq_true_iff.mp hn with e | e
      · rw [beq_iff_eq.mp e] at qn; simp at qn
      · exact beq_iff_eq.mp e
    refine wpAny_bind ((PySem.W.looks_subIn I.kIn nf).here ?_)
    simp only [Bool.false_eq_true, if_false]
    refine wpAny_bind (wpAny_mono one (fun r s' z => ?_) fun _ _ e => e)
    obtain ⟨v, rfl, hq⟩ := z
    exact wpAny_pure hq
  · refine wpAny_bind (wpAny_pure ?_)
    simp only [Bool.false_eq_true, if_false]
    refine wpAny_bind (wpAny_mono one (fun r s' z => ?_) fun _ _ e => e)
    obtain ⟨v, rfl, hq⟩ := z
    exact wpAny_pure hq
theorem ok_neO {fd : FuncData} {ps : List Str} {k : Nat} {F : List D → FO} (R : Rm X) (c : InsK X.K C) (nf : ∀ T ∈ ["NoneType", "bool", "int", "str", "tuple", "list", "dict"], PySem.W.notFirst X.K C (.type T) = true)
    (N : Near X k X.A.in1) (G : FnG X.prog X.w X.K X.mg X.base k g fd ps (spP X.K 2 F)) (hb : KB X.K fd ps 2 [] is) (hnp : ∀ {T : Type} (l : List T), l.length = 2 → sel is l = l)
    (hne : PySem.W.findIn X.K (.ref C) "__ne__" = some (some (.builtin "object.__ne__"))) (hs : PySem.W.findIn X.K (.ref C) "__eq__" = some (some (.ref g))) (hf : PySem.W.isFn X.K (.ref g) = true) : OpOk X (compareOp .NotEq) (dOwn2 C F true) := by
  intro Bs B Hs H s r v u d e y Q E hv hu hd q
  obtain ⟨a, dx, fs, l, b, rfl, h1, hF, rfl, ha, rp⟩ := own2_core E hv hu hd
  refine ⟨fun v' u' H0 Q0 => v' = .ref a ∧ u' = u ∧ H0 = H ∧ ∀ H', Step Hs H Hs H' → Q0 (.bl (!b)) H', ?_, rfl, rfl, rfl, fun H' st => by
    have := q (.bl (!b)) Hs H' st
    simp only [Bool.bne_true] at this
    exact this (.bl (!b))⟩
  intro pins sh σ H0 v' u' w1 w2 Q0 I rv ru hq
  obtain ⟨rfl, rfl, rfl, hq⟩ := hq
  cases rv
  have re : Rp X.K H0 u' e := by cases rp with | cons _ b => cases b with | cons b _ => exact b
  show wpAny (model X.prog X.w) X.A (richCompare .NotEq (.ref a) w2) (EP X pins σ Q0) X.xe sh
  refine ne_own (b := b) R c I h1 (ty_looks c I ru re ha) (not_first nf ha) hne hs hf (near_call (Q := fun v H' => v = .bl b ∧ Q0 (.bl (!b)) H') N G hb hnp I (.cons (show L2.RelV (.ref a) (Value.ref a) from rfl) (.cons ru .nil)) (Ex.refl H0) rp rfl ?_)
  rw [hF]
  intro v Hs' H' st rv
  cases rv
  exact ⟨rfl, hq H' (step_full E.sub st)⟩
/-! ### own __bool__ -/
def dBool (C : Addr) (F : List D → FO) (d : D) : Option Bool := match d with
  | .ins C' l => if C' = C then (match F [.ins C' l] with
    | .val (.bl k) => some k
    | _ => none) else none
  | _ => none
def tTrO (C : Addr) (F : List D → FO) (oa : Ev Src) : Ev Bool := fun r => (oa r).bind fun x r1 => match x.rd r1 with
  | some d => (match dBool C F d with
    | some k => .ok k r1
    | none => .stuck)
  | none => .stuck
theorem snt_truO {fd : FuncData} {ps : List Str} {k : Nat} {F : List D → FO} {oa : Ev Src} (N : Near X k X.A) (G : FnG X.prog X.w X.K X.mg X.base k g fd ps (spP X.K 1 F)) (hb : KB X.K fd ps 1 [] is) (hnp : ∀ {T : Type} (l : List T), l.length = 1 → sel is l = l)
    (hs : PySem.W.findIn X.K (.ref C) "__bool__" = some (some (.ref g))) (hf : PySem.W.isFn X.K (.ref g) = true) (ha : SndO X W e oa) (he : ∀ whole, isTrue e X.env whole = (do let v ← whole; standAt e.pos; holding [v] (truthy v))) : SndT X W e (tTrO C F oa) := fun Bs B Hs H s r Q E q => by
  let rr : V → Hp → (Bool → Hp → Prop) → Prop := fun v H Q => ∃ a dx fs l b, v = .ref a ∧ H a = some (.ins C dx fs) ∧ Rp X.K H (.ref a) (.ins C l) ∧ F [.ins C l] = .val (.bl b) ∧ ∀ Hs H', Ex Hs H → Step Hs H Hs H' → Q b H'
  have tr : TruR X rr := by
    intro pins sh σ H0 v u Q0 I rv hq
    obtain ⟨a, dx, fs, l, b, rfl, h1, rp, hF, hq⟩ := hq
    cases rv
    obtain ⟨od, J⟩ := inst_at I h1
    obtain ⟨m, fr⟩ := I.fr
    refine PySem.W.truthy_K fr I.ok.mod.kin J hs hf (wpAny_mono (near_call (Q := fun v H' => v = .bl b ∧ Q0 b H') N G hb hnp I (.cons (show L2.RelV (.ref a) (Value.ref a) from rfl) .nil) (Ex.refl H0) (.cons rp .nil) rfl ?_) ?_ fun _ _ x => x)
    · rw [hF]
      intro v Hs' H' st rv
      cases rv
      exact ⟨rfl, hq H0 H' (Ex.refl _) (step_full (Ex.refl _) st)⟩
    · rintro w s' ⟨v', H', I', rv', rfl, qq⟩
      cases rv'
      exact ⟨H', I', qq⟩
  refine ⟨_, pt_truthR pe_all tr he, ha _ _ _ _ _ _ _ E (PostE.bind q fun x r1 v Hs1 H1 _ x1 E1 ra q1 => ?_)⟩
  split at q1
  · rename_i d hd
    have o := Src.opd E1 ra hd
    split at q1
    · rename_i b hb'
      unfold dBool at hb'
      split at hb'
      · split at hb'
        · rename_i C' l hC
          subst hC
          split at hb'
          · rename_i k hk
            cases hb'
            obtain ⟨a, dx, fs, rfl, h1, h2, h3⟩ := o.ins E1.sub
            refine ⟨a, dx, fs, l, b, rfl, h1, .ins h1 h2 (h3.mono E1.sub), hk, fun Hs0 H' e0 st => ?_⟩
            have ex : Ex H1 H' := Step.ex e0 st
            exact q1 b Hs1 H' (Ex.refl _) (E1.step ⟨Ex.refl _, E1.sub.trans ex, fun b o h n => ⟨n, ex b o h⟩⟩) rfl
          · cases hb'
        · cases hb'
      · cases hb'
    · exact False.elim q1
  · exact False.elim q1
end
end Mp
set_option Elab.async false
set_option linter.all false
set_option maxRecDepth 100000
namespace Mp
open PySem PySem.Spec PyProof.Rows L2 Evl
/-! ### the law's end -/
section
variable {P : Program} {w : World} {K : PySem.W.Frag} {mg mb : Str → Option Value} {k : Nat} {fa a : Addr} {fd : FuncData} {x : Str} {sp : Sp} {s1 : Shared} {vs : List Value} {ns : List Int}
def LawEnd (s1 : Shared) (r : Result) (s' : Shared) : Prop := r = .ok (.ret (.bool true)) ∧ OldK s1.heap s'.heap ∧ s'.os = s1.os ∧ AllBare s'.gens
/-- at an abstract heap in which the script alone may stand -/
theorem law_at {H : Hp} (inK : K.In s1.heap) (gl : s1.heap.Ns mainGlobals mg) (bl : s1.heap.Ns builtinsNs mb) (bb : ∀ x : Str, x ≠ "__name__" → mb x = bootBuiltins x) (nl : s1.heap.NoLimit) (gn : s1.gens = #[])
    (obj : s1.heap.get? a = some { cls := .type "list", data := .seq vs.toArray }) (room : Room k callerA)
    (F : ∀ base : Heap, K.In base → base.Ns mainGlobals mg → FnG P w K mg base k fa fd [x] sp) (bind : ∀ (s : Shared) (u : Value), BindsTo s fd ⟨[u], []⟩ [(x, u)])
    (want : sp [.ref a] H (fun v _ => v = .bl true) fun _ _ _ => False) (only : ∀ b u, H b = some u → b = a ∧ K.lookup b = none ∧ ∃ o xs, u = .frz o (.lst xs)) (hok : HOk P w H s1.heap) :
    codeAny (model P w) callerA (.call (.ref fa) ⟨[.ref a], []⟩) (LawEnd s1) s1 := by
  have free : ∀ {b : Addr}, (b = a → K.lookup b ≠ none) → H b = none := fun {b} hb => by
    cases e : H b with
    | none => rfl
    | some u => obtain ⟨e1, e2, _⟩ := only b u e; exact absurd e2 (hb e1)
  have inB : K.In (hidT s1.heap H) := fun b o e => hidT_get (inK b o e) (free fun _ z => by rw [z] at e; cases e)
  have nsB : ∀ {b : Addr} {m : Str → Option Value}, s1.heap.Ns b m → (hidT s1.heap H).Ns b m := by
    rintro b m ⟨o, es, ep, e, d, rest⟩
    refine ⟨o, es, ep, hidT_get e (free fun z _ => ?_), d, rest⟩
    rw [z, obj] at e
    obtain rfl := Option.some.inj e
    cases (show Data.seq vs.toArray 0 = Data.dict es ep from d)
  obtain ⟨mc, c1, c2⟩ := nl
  have env : Env0 P w K mg (hidT s1.heap H) callerA [] s1 H :=
    { frames := rfl, mod := { kin := inB, glob := nsB gl, blt := ⟨mb, nsB bl, bb⟩, nolimit := ⟨mc, nsB c1, c2⟩ }, bs := fun b o e => of_hidT e, bsz := Nat.le_of_eq (hidT_size _ _), funs := trivial, frf := fun b hb => (by cases hb), hok := hok, bare := .of_eq gn }
  refine codeAny_mono ((F _ inB (nsB gl)).run callerA [] s1 H _ [.ref a] [.ref a] _ _ room rfl env (bind s1 (.ref a)) (.cons rfl .nil) want) ?_
  rintro r s' h
  match r, h with
  | .error e, h =>
    obtain ⟨_, _, _, _, _, _, _, _, _, _, _, _, z⟩ := h
    exact z.elim
  | .ok (.ret u), h =>
    obtain ⟨v, H', os, bare, un, hok', rv, rfl⟩ := h
    cases rv
    refine ⟨rfl, OldK.of_keep fun b o e => ?_, os, bare⟩
    cases q : H b with
    | none => exact un.keep b o e q (fun z => by cases z) (fun z => by cases z)
    | some u =>
      obtain ⟨_, _, ob, xs, rfl⟩ := only b u q
      have before := (hok b _ q).1
      have after := (hok' b _ (un.frzs b ob _ q)).1
      rw [e] at before
      obtain rfl := Option.some.inj before
      exact after
theorem law_callG (inK : K.In s1.heap) (gl : s1.heap.Ns mainGlobals mg) (bl : s1.heap.Ns builtinsNs mb) (bb : ∀ x : Str, x ≠ "__name__" → mb x = bootBuiltins x) (nl : s1.heap.NoLimit) (gn : s1.gens = #[])
    (obj : s1.heap.get? a = some { cls := .type "list", data := .seq vs.toArray }) (hns : IntsAre vs ns) (len : ns.length ≤ sizeLine) (room : Room k callerA)
    (F : ∀ base : Heap, K.In base → base.Ns mainGlobals mg → FnG P w K mg base k fa fd [x] sp) (bind : ∀ (s : Shared) (u : Value), BindsTo s fd ⟨[u], []⟩ [(x, u)])
    (want : ∀ H : Hp, SqL K H a (ns.map V.int) → sp [.ref a] H (fun v _ => v = .bl true) fun _ _ _ => False) : codeAny (model P w) callerA (.call (.ref fa) ⟨[.ref a], []⟩) (LawEnd s1) s1 := by
  have rv : Vals (ns.map V.int) vs := vals_ints hns
  have lv := hns.length
  cases hk : K.lookup a with
  | some o =>
    have e := inK a o hk
    rw [obj] at e
    obtain rfl := Option.some.inj e
    exact law_at (H := fun _ => none) inK gl bl bb nl gn obj room F bind (want _ (.inr ⟨_, vs.toArray, _, hk, rfl, rfl, rfl, by rw [List.size_toArray, lv]; exact len, by simpa using rv⟩)) (fun b u z => nomatch z) fun b u z => nomatch z
  | none =>
    let H : Hp := fun b => if b = a then some (.frz { cls := .type "list", data := .seq vs.toArray } (.lst (ns.map V.int))) else none
    have at_ : ∀ b u, H b = some u → b = a ∧ u = .frz { cls := .type "list", data := .seq vs.toArray } (.lst (ns.map V.int)) := fun b u z => by
      by_cases h : b = a
      · exact ⟨h, (Option.some.inj ((if_pos h).symm.trans z)).symm⟩
      · exact nomatch (if_neg h).symm.trans z
    refine law_at (H := H) inK gl bl bb nl gn obj room F bind (want _ (.inl (.inr ⟨{ cls := .type "list", data := .seq vs.toArray }, if_pos rfl⟩))) (fun b u z => ?_) fun b u z => ?_
    · obtain ⟨rfl, rfl⟩ := at_ b u z
      exact ⟨rfl, hk, _, _, rfl⟩
    · obtain ⟨rfl, rfl⟩ := at_ b u z
      exact ⟨obj, by rw [List.length_map]; exact len, vs, _, rv, obj⟩
end
/-- the goal behind k_head, from what the law's def comes to -/
theorem walk_ofG {l : PySem.W.OpenLaw} {n k : Nat} {q : Program} {loose : List Str} {XP : (Str → Option Value) → Heap → Prop} {YP : World → Heap → Prop} {d : DefRec} {K : Params → PySem.W.Frag} {x : Str}
    (hn : l.most = some n) (hn2 : n ≤ sizeLine) (hdf : d.params.defaults = []) (room : Room k callerA) (hY : ∀ (w : World) (h : Heap), YP w h → (K w.params).In h)
    (G : ∀ (w : World) (mg : Str → Option Value) (fa : Addr) (h : Heap), (K w.params).In h → h.Ns mainGlobals mg → mg d.name = some (.ref fa) →
      ∃ (fd : FuncData) (F : List D → FO), (∀ (s : Shared) (u : Value), BindsTo s fd ⟨[u], []⟩ [(x, u)]) ∧ (∀ ns : List Int, ns.length ≤ n → F [.scr ns] = .val (.bl true)) ∧ ∀ base : Heap, FnG l.prog w (K w.params) mg base k fa fd [x] (spP (K w.params) 1 F)) :
    PySem.W.WalkO q loose XP YP l.row.toRowW d [] (fun f vs => PySem.call f vs) := by
  refine Att.attach_call hn hdf ?_
  intro w s0 s1 mg mb fa o pm cd doc a vs ns Gr Y ho hd hcd hmg obj hns len gn
  have inK := hY w _ Y
  obtain ⟨fd, F, hb, holds, hF⟩ := G w mg fa _ inK Gr.T.g hmg
  refine law_callG inK Gr.T.g Gr.T.b Gr.T.builtins Gr.T.nolimit gn obj hns (Nat.le_trans len hn2) room (fun base _ _ => hF base) hb fun H hS => ?_
  refine ⟨H, [.scr ns], Ex.refl _, .cons (.scr hS) .nil, rfl, ?_⟩
  rw [holds ns len]
  intro v Hs' H' st rv
  cases rv; rfl
end Mp
set_option Elab.async false
set_option linter.all false
set_option maxRecDepth 100000
namespace Mp
open PySem PySem.Spec PyProof.Rows L2 Evl
/-! ### {(a, ..): v for target in iter if ..} -/
theorem put_tupkey {X : Cx} {pins : List (Addr × Obj)} {σ : L2.St} {H : Hp} {s : Shared} {E : Value → Shared → Prop} {d b : Addr} {kvs : List (List Key × V)} {k : List Key} {v : V} {u : Value} {Q : Unit → Shared → Prop} (hu : X.A.units + 1 < cLine) (I : Inv X pins σ H s)
    (at_ : H d = some (.dT kvs)) (key : H b = some (.tup (k.map kV))) (few : kvs.length < sizeLine) (rv : L2.RelV v u) (next : ∀ s', Inv X pins σ (upd H d (.dT (putK kvs k v))) s' → Q () s') : wpAny (model X.prog X.w) X.A (dictSet d (.ref b) u) Q E s := by
  obtain ⟨sz, nsys, xs, tab, isD⟩ := dt_of I.hok at_
  have szx : xs.length ≤ sizeLine := by rw [← Paired.length tab]; exact sz
  have szn : (putK kvs k v).length ≤ sizeLine := Nat.le_trans (length_putK kvs k v) few
  refine wpAny_dictSet_heap (hsz := szx) (show X.A.units < cLine by omega) (key_of I.hok key) isD fun h' isD' same => next _ ?_
  obtain ⟨q, es, ep, hq, h2, h3, h4, _, h5⟩ := isD'
  refine d_write I (by rw [at_]; exact True.intro) same ⟨q, hq⟩ ⟨szn, nsys, _, (tab.put k key rv).keeps fun c ys ec => ?_, q, es, ep, hq, h2, h3, h4, h5⟩
  have apart : c ≠ d := ne_of ec at_ fun z => nomatch z
  rw [upd_ne apart]; exact ec
section
variable {X : Cx} {W : WX}
/-- what is to be shown: d the new dict, b the key's tuple -/
def tDcT (wi : TI) (g : TG) (tt : TT) (tk tv : TE) (vs : List Nat) : TE := fun σ H Q => wi σ H fun J H1 => ∀ d, H1 d = none → ∃ T : Nat → Nat → Hp → Prop, (∃ m, T 0 m (upd H1 d (.dT []))) ∧ ∀ i m H, T i m H →
  (J.stop i H ∧ Q (.ref d) H) ∨ (J.go i H ∧ ∃ Nx : Hp → Prop, (∀ H', Nx H' → ∃ m', m' < m ∧ T (i + 1) m' H') ∧ ∀ x H', J.yld i H x H' → g x (L2.wipe σ vs) H' fun σ2 H2 => L2.wipe σ2 vs = L2.wipe σ vs ∧ tt σ2 H2 fun b H3 =>
    if b = true then tk σ2 H3 fun y H4 => tv σ2 H4 fun z H5 => ∃ c kvs k, y = .ref c ∧ H5 c = some (.tup (k.map kV)) ∧ H5 d = some (.dT kvs) ∧ kvs.length < sizeLine ∧ Nx (upd H5 d (.dT (putK kvs k z))) else Nx H3)
theorem pe_dcT {kx vx tg iter : Expr} {ifs : List Expr} {scope : Scope} {own : List (Str × Nat)} {pos : Pos} {wi : TI} {g : TG} {tt : TT} {tk tv : TE} (hu : X.A.units + 1 < cLine) (calm : X.calm = true) (nd : X.N.Nodup) (hi : PI X tg iter wi) (ok : BlkOk X.N X.env.scope scope own)
    (hg : ∀ (s : Shared) (H : Hp) (C : Addr) (cl : List (Str × Addr)) (fp : List Addr), PG (X.blk s H scope (compEnvC scope cl C X.env) fp) tg g)
    (ht : ∀ (s : Shared) (H : Hp) (C : Addr) (cl : List (Str × Addr)) (fp : List Addr), PTs (X.blk s H scope (compEnvC scope cl C X.env) fp) ifs tt)
    (hk : ∀ (s : Shared) (H : Hp) (C : Addr) (cl : List (Str × Addr)) (fp : List Addr), PE (X.blk s H scope (compEnvC scope cl C X.env) fp) kx tk)
    (hv : ∀ (s : Shared) (H : Hp) (C : Addr) (cl : List (Str × Addr)) (fp : List Addr), PE (X.blk s H scope (compEnvC scope cl C X.env) fp) vx tv) (hs : ∀ x, foldedSetIterable iter X.env x = pure x) :
    PE X (.DictComp kx vx [⟨tg, iter, ifs, 0⟩] scope pos) (tDcT wi g tt tk tv (own.map (·.2))) := by
  constructor
  intro pins s σ H Q I h
  rw [arm_eval_DictComp]
  have caught : ∀ y ∈ scope.names, y.2 = .free → ∃ c, X.env.cells.lookup y.1 = some c := fun y hy e => I.ok.has _ (ok.free y hy e)
  refine wpAny_comprehension_free (use := none) rfl hs (closure_ok caught) ok.kind (fun y hy e => (ok.uniq y hy).trans (congrArg some e)) (thn (hi.run pins s σ H _ I h) fun xv s1 hx => thn hx fun itv s2 h2 => ?_)
  obtain ⟨it, fp, tn, J, H2, e, I2, T, st2, f2, q⟩ := h2
  subst e
  refine wpAny_newObj_type (newEnv_comp ?_)
  generalize hd : s2.heap.objs.size = d
  have new : H2 d = none := I2.hok.fresh (Nat.le_of_eq hd)
  obtain ⟨Wi, ⟨m0, w0⟩, turn⟩ := q d new
  generalize hs3 : ({ s2 with heap := s2.heap.push { cls := .type "dict", data := .dict #[] } } : Shared) = s3
  have I3 : Inv X pins σ (upd H2 d (.dT [])) s3 := by
    subst hs3
    refine I2.laid (t' := s2.toks) (fun b o e => Heap.get?_push_of_some _ e) (Nat.le_of_eq hd) ?_
    subst hd
    exact dt_empty s2.heap I2.big
  have h3 : s3.heap = s2.heap.push { cls := .type "dict", data := .dict #[] } := by subst hs3; rfl
  have below : ∀ b ∈ fp, b < s2.heap.objs.size := fun b hb => by
    obtain ⟨o, e, _⟩ := T.obj _ _ st2 b hb
    exact Heap.lt_size e
  have f3 : ∀ b ∈ fp, FpOk X pins (upd H2 d (.dT [])) b ∧ b < s3.heap.objs.size := fun b hb => by
    have lt := below b hb
    refine ⟨⟨?_, (f2 b hb).2⟩, by rw [h3, Heap.size_push]; exact Nat.lt_succ_of_lt lt⟩
    rw [upd_ne (show b ≠ d by subst hd; exact Nat.ne_of_lt lt)]
    exact (f2 b hb).1
  have st3 : tn 0 s3.heap := T.keep _ _ _ st2 fun b _ o e => by rw [h3]; exact Heap.get?_push_of_some _ e
  have I4 := block_start I3 ok nd f3
  have pg := hg s3 (upd H2 d (.dT [])) s3.heap.objs.size (cellsFrom (s3.heap.objs.size + 1) scope.names (cloFrom X.env.cells scope.names [])) fp
  have pt := ht s3 (upd H2 d (.dT [])) s3.heap.objs.size (cellsFrom (s3.heap.objs.size + 1) scope.names (cloFrom X.env.cells scope.names [])) fp
  have pk := hk s3 (upd H2 d (.dT [])) s3.heap.objs.size (cellsFrom (s3.heap.objs.size + 1) scope.names (cloFrom X.env.cells scope.names [])) fp
  have pv := hv s3 (upd H2 d (.dT [])) s3.heap.objs.size (cellsFrom (s3.heap.objs.size + 1) scope.names (cloFrom X.env.cells scope.names [])) fp
  have apart : ∀ b ∈ fp, (upd H2 d (.dT [])) b = none := fun b hb => (f3 b hb).1.1
  show codeAny _ _ (.compStart (.DictComp kx vx [⟨tg, iter, ifs, 0⟩] scope pos) 0 (.ref it) (.ref d) (compEnvC scope (cellsFrom (s3.heap.objs.size + 1) scope.names (cloFrom X.env.cells scope.names [])) s3.heap.objs.size X.env)) (compPost (model X.prog X.w) X.A X.xe none _ (.ref d) s3.heap.objs.size) { s3 with heap := pushCells (s3.heap.push { cls := .type "dict", data := .dict #[] }) scope.names }
  generalize hce : compEnvC scope (cellsFrom (s3.heap.objs.size + 1) scope.names (cloFrom X.env.cells scope.names [])) s3.heap.objs.size X.env = ce at I4 pg pt pk pv ⊢
  have loc : ce.locals = s3.heap.objs.size := by subst hce; rfl
  generalize hH3 : upd H2 d (.dT []) = H3 at I3 I4 pg pt pk pv w0 apart f3
  generalize hs4 : ({ s3 with heap := pushCells (s3.heap.push { cls := .type "dict", data := .dict #[] }) scope.names } : Shared) = s4 at I4 ⊢
  have st4 : tn 0 s4.heap := T.keep _ _ _ st3 fun b _ o e => by subst hs4; exact pushCells_keeps _ _ _ _ (Heap.get?_push_of_some _ e)
  have foot : ∀ {σ' : L2.St} {H' : Hp} {s' : Shared}, Inv (X.blk s3 H3 scope ce fp) [] σ' H' s' → (∀ b ∈ fp, H' b = none) → ∀ b ∈ fp, FpOk (X.blk s3 H3 scope ce fp) [] H' b := fun {σ' H' s'} I' hn b hb => by
    have ex := I'.ok.exf b hb
    exact ⟨hn b hb, ex.1, I'.ok.exfs b hb, .inl hb, ex.2, fun p hp => absurd (show p ∈ ([] : List (Addr × Obj)) ++ [] from hp) (by simp)⟩
  have loop : codeAny (model X.prog X.w) X.A (.compLoop (.DictComp kx vx [⟨tg, iter, ifs, 0⟩] scope pos) 0 (.ref it) (.ref d) ce) (compPost (model X.prog X.w) X.A X.xe none (EP X pins σ Q) (.ref d) s3.heap.objs.size) s4 := by
    refine compLoop_anyD (fun n s' => ∃ i H', Inv (X.blk s3 H3 scope ce fp) [] (L2.wipe σ (own.map (·.2))) H' s' ∧ tn i s'.heap ∧ (∀ b ∈ fp, H' b = none) ∧ Wi i n H') ?_ m0 ⟨0, H3, I4, st4, apart, w0⟩
    rintro n s5 ⟨i, H5, I5, st5, n5, w5⟩
    rcases turn i n H5 w5 with ⟨stop, qq⟩ | ⟨go, Nx, nxt, step⟩
    · refine thnF (T.done (X.blk s3 H3 scope ce fp) rfl rfl rfl calm i [] s5 _ H5 (fun _ _ => False) I5 (foot I5 n5) st5 stop) fun r s6 ⟨hr, I6⟩ => ?_
      subst hr
      have I7 : Inv X pins σ H5 s6 := I3.call' (ch := fp) I6.os I6.base I6.hok I6.bare fun b hb => by
        obtain ⟨⟨_, a1, a2, a3, a4⟩, _⟩ := f3 b hb
        exact ⟨a3, a1, a4⟩
      have un : H5 s3.heap.objs.size = none := by
        have z : H5 ce.locals = none := I6.free
        rwa [loc] at z
      obtain ⟨m, hn, _⟩ := I6.loc
      have hn : s6.heap.Ns ce.locals m := hn
      rw [loc] at hn
      obtain ⟨g0, g1, g2, g3, g4, g5⟩ := I3.fpOk (Nat.le_refl _) un
      exact ⟨m, hn, fun h'' sb => ⟨.ref d, H5, I7.turned (t' := s6.toks) (fun b o hb e => (sb.2 b hb).trans e) g0 g1 g3 g4 g5, rfl, qq⟩⟩
    · refine thnF (T.item (X.blk s3 H3 scope ce fp) rfl rfl rfl calm i [] s5 _ H5 (fun _ _ => False) I5 (foot I5 n5) st5 go) fun r s6 ⟨u, hr, h6⟩ => ?_
      subst hr
      refine thnF h6 fun _ s7 ⟨x, H7, I7, r7, y7, st7, n7⟩ => ?_
      have P7 := I7.pinned (foot I7 n7) (T.obj _ _ st7)
      refine thnF (pg.run _ s7 _ H7 x u _ P7 r7 (step x H7 y7)) fun _ s8 ⟨σ8, H8, I8, same8, q8⟩ => ?_
      refine thnF (pt.run _ s8 σ8 H8 _ I8 q8) fun b s9 ⟨H9, I9, q9⟩ => ?_
      have fin : ∀ {s' : Shared} {H' : Hp}, Inv (X.blk s3 H3 scope ce fp) ([] ++ pinsAt fp s7.heap) σ8 H' s' → Nx H' → ∃ m, m < n ∧ ∃ i H', Inv (X.blk s3 H3 scope ce fp) [] (L2.wipe σ (own.map (·.2))) H' s' ∧ tn i s'.heap ∧ (∀ b ∈ fp, H' b = none) ∧ Wi i m H' := fun {s' H'} I' nx => by
        obtain ⟨m', lt, w'⟩ := nxt H' nx
        have pinned : ∀ b ∈ fp, ∀ o, s7.heap.get? b = some o → s'.heap.get? b = some o ∧ H' b = none := fun b hb o e => by
          have z := I'.pin (b, o) (List.mem_append_right _ (List.mem_append_right _ (mem_pinsAt hb e)))
          exact ⟨z.1, z.2.1⟩
        have len : (L2.wipe σ (own.map (·.2))).length = σ8.length := by rw [← same8, wipe_length]
        refine ⟨m', lt, i + 1, H', (I'.unpinned (pins := [])).weak len (fun j v e => ?_), T.keep _ _ _ st7 fun b hb o e => (pinned b hb o e).1, fun b hb => ?_, w'⟩
        · rw [← same8] at e
          exact (wipe_some e).1
        · obtain ⟨o, e, _⟩ := T.obj _ _ st7 b hb
          exact (pinned b hb o e).2
      cases b with
      | false => exact fin I9 q9
      | true =>
        refine thnF (pk.run _ s9 σ8 H9 _ I9 q9) fun z s10 ⟨yk, H10, I10, r10, q10⟩ => ?_
        refine thnF (pv.run _ s10 σ8 H10 _ I10 q10) fun z2 s11 ⟨yv, H11, I11, r11, c, kvs, k, ek, kc, at11, few, nx⟩ => ?_
        subst ek
        cases r10
        exact put_tupkey (X := X.blk s3 H3 scope ce fp) hu I11 at11 kc few r11 fun s12 I12 => fin I12 nx
  exact codeAny_compStart_dict loop (T.self X.A 0 _ _ _ st4 loop)
end
end Mp
set_option Elab.async false
set_option linter.all false
set_option maxRecDepth 100000
namespace Mp
open PySem PySem.Spec PyProof.Rows L2 Evl
def dcL (g : Tg) (t : Ev Bool) (ek ev : Ev Rv) (vs : List Nat) : List D → List (List Key × D) → Rho → EO (List (List Key × D))
  | [], acc, r => .ok acc r
  | d :: ds, acc, r => match g d r with
    | none => .stuck
    | some r1 => (t r1).bind fun k r2 => if k then (ek r2).bind fun y r3 => (ev r3).bind fun x r4 => (match y.data with
        | .tup ks => (match keysD ks with
          | some key => dcL g t ek ev vs ds (putD acc key x.data) (wipeR r4 vs)
          | none => .stuck)
        | _ => .stuck) else dcL g t ek ev vs ds acc (wipeR r2 vs)
def eDc (it : Ev (List D)) (g : Tg) (t : Ev Bool) (ek ev : Ev Rv) (vs : List Nat) : Ev Rv := fun r => (it r).bind fun ds r1 => if ds.length ≤ sizeLine then (match dcL g t ek ev vs ds [] (wipeR r1 vs) with
  | .ok l r2 => .ok (.new (.dT l)) (restore r1 r2 vs)
  | _ => .stuck) else .stuck
def FinD (K : PySem.W.Frag) (W : WX) (Bs B Hs : Hp) (s : L2.St) (Q : VK) (r1 : Rho) (vs : List Nat) : EO (List (List Key × D)) → Prop
  | .ok l r2 => PostE K W Bs B Hs s (relR K B s) Q (.ok (.new (.dT l)) (restore r1 r2 vs))
  | _ => False
theorem FinD.mono {K : PySem.W.Frag} {W : WX} {Bs B Hs Hs' : Hp} {s : L2.St} {Q : VK} {r1 : Rho} {vs : List Nat} {m : EO (List (List Key × D))} (e : Ex Hs Hs') (h : FinD K W Bs B Hs s Q r1 vs m) : FinD K W Bs B Hs' s Q r1 vs m := by
  cases m with
  | ok l r2 =>
    have h : PostE K W Bs B Hs s (relR K B s) Q (.ok (.new (.dT l)) (Mp.restore r1 r2 vs)) := h
    exact h.mono e
  | stuck => exact h
  | exc x r => exact h
structure DcInv (K : PySem.W.Frag) (W : WX) (Bs B Hs1 : Hp) (s : L2.St) (Q : VK) (r1 : Rho) (vs : List Nat) (Dl : Addr) (i : Nat) (m : List (List Key × D) → Rho → EO (List (List Key × D))) (H : Hp) : Prop where
  ex : ∃ (Hs : Hp) (r : Rho) (acc : List (List Key × D)) (us : List (List Key × V)), Ex Hs1 Hs ∧ EnvOk K Bs B Hs H (L2.wipe s vs) (wipeR r vs) ∧ Hs Dl = none ∧ H Dl = some (.dT us) ∧ us.map (·.1) = acc.map (·.1) ∧ RpAll K Hs (us.map (·.2)) (acc.map (·.2)) ∧ acc.length ≤ i ∧
      (∀ (j : Nat) oj, (wipeR r vs)[j]? = some (.own oj) → (L2.wipe s vs)[j]? ≠ some (some (.ref Dl))) ∧ FinD K W Bs B Hs s Q r1 vs (m acc (wipeR r vs))
section
variable {X : Cx} {W : WX} {tg : Expr} {pos : Pos}
theorem snd_dcT {kx vx iter : Expr} {ifs : List Expr} {scope : Scope} {own : List (Str × Nat)} {it : Ev (List D)} {g : Tg} {is : List Nat} {t : Ev Bool} {ek ev : Ev Rv} (R : Rm X) (hN : X.N.Nodup) (ok : BlkOk X.N X.env.scope scope own) (hi : SndI X W tg iter it)
    (hg : ∀ (s : Shared) (H0 : Hp) (C : Addr) (cl : List (Str × Addr)) (fp : List Addr), SndG (X.blk s H0 scope (compEnvC scope cl C X.env) fp) tg g is)
    (ht : ∀ (s : Shared) (H0 : Hp) (C : Addr) (cl : List (Str × Addr)) (fp : List Addr), SndTs (X.blk s H0 scope (compEnvC scope cl C X.env) fp) WF ifs t)
    (hk : ∀ (s : Shared) (H0 : Hp) (C : Addr) (cl : List (Str × Addr)) (fp : List Addr), SndE (X.blk s H0 scope (compEnvC scope cl C X.env) fp) WF kx ek)
    (he : ∀ (s : Shared) (H0 : Hp) (C : Addr) (cl : List (Str × Addr)) (fp : List Addr), SndE (X.blk s H0 scope (compEnvC scope cl C X.env) fp) WF vx ev) (hiv : ∀ i ∈ is, i ∈ own.map (·.2)) (hs : ∀ x, foldedSetIterable iter X.env x = pure x := by intro _; rfl) :
    SndE X W (.DictComp kx vx [⟨tg, iter, ifs, 0⟩] scope pos) (eDc it g t ek ev (own.map (·.2))) := fun Bs B Hs H s r Q E q =>
  ⟨_, pe_dcT (by have := R.un; omega) R.calm hN pi_all ok pg_c pts_c pe_c pe_c hs, hi _ _ _ _ _ _ _ E (PostE.bind q fun ds r1 J Hs1 H1 _ e1 E1 wk q1 => by
    have wk : Wk X.K Hs1 J ds := wk
    generalize hvs : own.map (·.2) = vs at q1 hiv ⊢
    intro Dl hD
    split at q1
    case isFalse => exact False.elim q1
    rename_i hsz
    have hDs : Hs1 Dl = none := fresh_back E1.sub hD
    have hDB : B Dl = none := E1.bnone hD
    have hDbs : Bs Dl = none := fresh_back E1.ext1 hDs
    refine ⟨fun i m H => m = ds.length - i ∧ i ≤ ds.length ∧ DcInv X.K W Bs B Hs1 s Q r1 vs Dl i (dcL g t ek ev vs (ds.drop i)) H, ⟨ds.length, rfl, Nat.zero_le _, ⟨Hs1, r1, [], [], Ex.refl _, ?_, hDs, upd_same, rfl, .nil, Nat.le_refl _, ?_, ?_⟩⟩, ?_⟩
    · exact (E1.wipe vs).step (Step.newO E1.sub hD)
    · exact fun j oj hj => (E1.wipe vs).apart hD j oj hj
    · rw [List.drop_zero]
      cases hl : dcL g t ek ev vs ds [] (wipeR r1 vs) with
      | stuck => rw [hl] at q1; exact q1
      | exc x r2 => rw [hl] at q1; exact q1
      | ok l r2 => rw [hl] at q1; exact q1
    rintro i m H2 ⟨rfl, hi2, Hs2, r2, acc, us, e2, E2, hD2, hH2, hks, hus, hacc, hap, fin⟩
    by_cases hlt : i < ds.length
    case neg =>
      have hi' : i = ds.length := by omega
      subst hi'
      rw [List.drop_length] at fin
      have fin : PostE X.K W Bs B Hs2 s (relR X.K B s) Q (.ok (.new (.dT acc)) (restore r1 (wipeR r2 vs) vs)) := fin
      have E2' : EnvOk X.K Bs B Hs2 H2 (L2.wipe s vs) (wipeR (wipeR r2 vs) vs) := by
        have := E2.wipe vs
        rw [wipe_idem] at this; exact this
      refine .inl ⟨(wk Hs2 H2 e2 E2.sub).2, ?_⟩
      have E3 : EnvOk X.K Bs B Hs2 H2 s (restore r1 (wipeR r2 vs) vs) := EnvOk.restore E1 e2 E2'
      refine fin.ok E3 ⟨Dl, rfl, hD2, hDB, ⟨us, hH2, hks, hus⟩, fun j oj hj z => ?_⟩
      have hjv : j ∉ vs := fun hv => by
        have := restore_in r1 (wipeR r2 vs) j _ vs hv hj
        unfold keepVal at this
        split at this <;> cases this
      rw [restore_get _ _ j vs hjv] at hj
      exact hap j oj hj (by rw [wipe_get s j vs hjv]; exact z)
    case pos =>
      obtain ⟨d, hd⟩ : ∃ d, ds[i]? = some d := ⟨_, List.getElem?_eq_getElem hlt⟩
      have hdrop : ds.drop i = d :: ds.drop (i + 1) := by
        have e := List.getElem?_eq_getElem hlt
        rw [hd] at e
        rw [List.drop_eq_getElem_cons hlt, Option.some.inj e]
      obtain ⟨g1, g2⟩ := (wk Hs2 H2 e2 E2.sub).1 i d hd
      refine .inr ⟨g1, DcInv X.K W Bs B Hs1 s Q r1 vs Dl (i + 1) (dcL g t ek ev vs (ds.drop (i + 1))), fun H' h => ⟨ds.length - (i + 1), by omega, rfl, by omega, h⟩, fun x H' hy => ?_⟩
      obtain ⟨Hs3, st, rx⟩ := g2 x H' hy
      have E3 := E2.step st
      obtain ⟨hD3, hH3⟩ := st.fr Dl _ hH2 hD2
      have e3 : Ex Hs1 Hs3 := e2.trans st.sh
      have E3' := E3.more hD3 hH3 hap
      have fin := FinD.mono st.sh fin
      have hus := hus.mono st.sh
      rw [hdrop] at fin
      unfold dcL at fin
      split at fin
      · exact False.elim fin
      rename_i r4 hg0
      intro sh H0 C cl fp
      refine hg sh H0 C cl fp _ _ _ _ _ _ _ _ _ _ E3' rx hg0 fun s4 H4 al E4 => ⟨?_, ?_⟩
      · rw [al vs hiv, wipe_idem]
      have al4 : L2.wipe s4 vs = L2.wipe s vs := by rw [al vs hiv, wipe_idem]
      intro sh H0 C cl fp
      refine ht sh H0 C cl fp _ _ _ _ _ _ _ E4 ?_
      have back : ∀ (Hs5 H5 : Hp) (r5 : Rho), EnvOk X.K Bs (upd B Dl (.dT us)) Hs5 H5 s4 r5 → Hs5 Dl = none ∧ H5 Dl = some (.dT us) := fun Hs5 H5 r5 E5 => E5.ext2 Dl _ upd_same hDbs
      have apart : ∀ (Hs5 H5 : Hp) (r5 : Rho), EnvOk X.K Bs (upd B Dl (.dT us)) Hs5 H5 s4 r5 → ∀ (j : Nat) oj, (wipeR r5 vs)[j]? = some (.own oj) → (L2.wipe s vs)[j]? ≠ some (some (.ref Dl)) := fun Hs5 H5 r5 E5 j oj hj z => by
        have E6 := E5.wipe vs
        rw [al4] at E6
        obtain ⟨a, k1, _, k3, _⟩ := E6.own j oj hj
        rw [k1] at z; cases z
        rw [upd_same] at k3; cases k3
      cases hm : t r4 with
      | stuck => rw [hm] at fin; exact fin
      | exc y r5 => rw [hm] at fin; exact False.elim fin
      | ok k r5 =>
        rw [hm] at fin
        intro k' Hs5 H5 e5 E5 hkk
        have hkk : k' = k := hkk
        subst hkk
        obtain ⟨hD5, hH5⟩ := back Hs5 H5 r5 E5
        cases k' with
        | false =>
          rw [if_neg (fun z => by cases z)]
          have fin : FinD X.K W Bs B Hs3 s Q r1 vs (dcL g t ek ev vs (ds.drop (i + 1)) acc (wipeR r5 vs)) := fin
          have E6 := (E5.less hDB hDbs).wipe vs
          rw [al4] at E6
          exact ⟨Hs5, r5, acc, us, e3.trans e5, E6, hD5, hH5, hks, hus.mono e5, by omega, apart Hs5 H5 r5 E5, fin.mono e5⟩
        | true =>
          rw [if_pos rfl]
          have fin : FinD X.K W Bs B Hs3 s Q r1 vs ((ek r5).bind fun y r6 => (ev r6).bind fun x r7 => (match y.data with
            | .tup ks => (match keysD ks with
              | some key => dcL g t ek ev vs (ds.drop (i + 1)) (putD acc key x.data) (wipeR r7 vs)
              | none => .stuck)
            | _ => .stuck)) := fin
          intro sh H0 C cl fp
          refine hk sh H0 C cl fp _ _ _ _ _ _ _ E5 ?_
          cases hky : ek r5 with
          | stuck => rw [hky] at fin; exact fin
          | exc y r6 => rw [hky] at fin; exact False.elim fin
          | ok y r6 =>
            rw [hky] at fin
            have fin : FinD X.K W Bs B Hs3 s Q r1 vs ((ev r6).bind fun x r7 => (match y.data with
              | .tup ks => (match keysD ks with
                | some key => dcL g t ek ev vs (ds.drop (i + 1)) (putD acc key x.data) (wipeR r7 vs)
                | none => .stuck)
              | _ => .stuck)) := fin
            intro kw Hs6 H6 e6 E6 ry
            obtain ⟨Hs6', e6', E6', ry6⟩ := RvAt.use E6 ry
            intro sh H0 C cl fp
            refine he sh H0 C cl fp _ _ _ _ _ _ _ E6' ?_
            cases hv : ev r6 with
            | stuck => rw [hv] at fin; exact fin
            | exc y r7 => rw [hv] at fin; exact False.elim fin
            | ok z r7 =>
              rw [hv] at fin
              have fin : FinD X.K W Bs B Hs3 s Q r1 vs (match y.data with
                | .tup ks => (match keysD ks with
                  | some key => dcL g t ek ev vs (ds.drop (i + 1)) (putD acc key z.data) (wipeR r7 vs)
                  | none => .stuck)
                | _ => .stuck) := fin
              intro w Hs7 H7 e7 E7 rz
              obtain ⟨Hs8, e8, E8, rz8⟩ := RvAt.use E7 rz
              obtain ⟨hD8, hH8⟩ := back Hs8 H7 r7 E8
              have rk := ry6.mono (e7.trans e8)
              clear ry ry6
              generalize y.data = yd at fin rk
              split at fin
              case h_2 => exact False.elim fin
              rename_i ks
              split at fin
              case h_2 => exact False.elim fin
              rename_i key hkey
              cases rk with
              | tup k1 k2 =>
                rename_i c cs
                have := keysD_rp k2 hkey
                subst this
                have e38 : Ex Hs3 Hs8 := e5.trans (e6.trans (e6'.trans (e7.trans e8)))
                obtain ⟨p1, p2, p3⟩ := putD_rp (k := key) hks (hus.mono e38) rz8
                have hlen : us.length = acc.length := by have := congrArg List.length hks; simpa using this
                refine ⟨c, us, key, rfl, E8.sub _ _ k1, hH8, by omega, ?_⟩
                have E9 := (E8.less hDB hDbs).wipe vs
                rw [al4] at E9
                have ap9 := apart Hs8 H7 r7 E8
                exact ⟨Hs8, r7, putD acc key z.data, putK us key w, e3.trans e38, E9.poke (o := .dT (putK us key w)) hD8 hDB ap9, hD8, upd_same, p1, p2, by omega, ap9, fin.mono e38⟩)⟩
end
end Mp
set_option Elab.async false
set_option linter.all false
set_option maxRecDepth 100000
namespace Mp
open PySem PySem.Spec PyProof.Rows L2 Evl
/-! ### C.m(..), m a staticmethod of the own class at C -/
structure StaC (K : PySem.W.Frag) (C : Addr) (m : Str) (p g : Addr) : Prop where
  ga : PySem.W.specialIn K (.ref C) "__getattribute__" = some (some (.builtin "type.__getattribute__"))
  rd : PySem.W.readsIn K C (.type "type") = true
  at_ : PySem.W.findCls K (.ref C) (.type "type") m = some (.get (.builtin "staticmethod.__get__") (.ref p) .none (.ref C))
  rc : ∃ rest, PySem.W.recIn K p "staticmethod" = some (.ref g :: rest)
  kp : PySem.W.keepIn K (.ref g) = true
section
variable {X : Cx} {W : WX} {z : Bool} {n : Nat} {g C pr : Addr} {ks : List Str} {is : List Nat} {m : Str} {pos apos : Pos} {e o : Expr} {es : List Expr} {kws : List Keyword} {rr : List V → List V → L2.St → Hp → VK → Prop} {t tk : TA} {pl : Sem Bool} {st : Stmt} {sts : List Stmt}
theorem sta_meth {pins : List (Addr × Obj)} {σ : L2.St} {H : Hp} {s : Shared} {Q : Value × List Value → Shared → Prop} (c : StaC X.K C m pr g) (I : Inv X pins σ H s) (next : ∀ s', Inv X pins σ H s' → Q (.ref g, []) s') :
    wpAny (model X.prog X.w) X.A (getMethod (.ref C) m pl) Q X.xe s := by
  obtain ⟨rest, rc⟩ := c.rc
  refine PySem.W.method_cls I.kIn c.ga (PySem.W.cls_bind I.kIn c.rd c.at_ (wpAny_call (PySem.W.sm_get (s := { s with toks := s.toks + 1 }) I.kIn rc (PySem.W.handed_on rfl ?_))))
  exact next _ (I.tok _)
def tSta (C : Addr) (rr : List V → List V → L2.St → Hp → VK → Prop) (n k : Nat) (t tk : TA) : TE := fun σ H Q => t σ H fun vs H1 => tk σ H1 fun zs H2 => vs.length = n ∧ zs.length = k ∧ rr vs zs σ H2 Q
theorem pe_sta (c : CallAt X (.ref g) n [] rr) (ho : PE X o (tC (.ref C))) (hc : StaC X.K C m pr g) (ha : PA X (e :: es) t) (hst : starEach (e :: es) X.env = (false, eval e X.env) :: starEach es X.env) (hpl : (backTo pos (starEach es X.env)).any (·.1) = false)
    (ht : eval (.Call (.Attribute o m apos) (e :: es) [] pos) X.env = (eval o X.env >>= fun ov => standAt apos.atName >>= fun _ => holding [ov] (getMethod ov m pl) >>= fun r => callWith pos r.1 r.2 (backTo pos (starEach (e :: es) X.env)) (backToKw pos (keywordEach [] X.env)))) :
    PE X (.Call (.Attribute o m apos) (e :: es) [] pos) (tSta C rr n 0 t tNil) := by
  constructor
  intro pins s σ H Q I h
  refine PySem.W.methodCall_KW (pl := pl) (thn (ho.run pins s σ H _ I (show tC (.ref C) σ H fun x H1 => x = .ref C ∧ tSta C rr n 0 t tNil σ H1 Q from ⟨rfl, h⟩)) ?_) ht
  rintro u s1 ⟨x, H1, I1, rx, rfl, q⟩
  cases rx
  refine sta_meth hc I1 fun s2 I2 => PySem.W.callWith_K (first := []) (h₀ := X.base) I.ok.mod.kin hc.kp ?_ hst hpl
  refine thn (ha.run pos pins s2 σ H1 _ I2 q) ?_
  rintro us s3 ⟨vs, H3, I3, r, l1, l2, q3⟩
  exact ⟨I3.kIn, c pins s3 σ H3 vs [] us [] Q I3 r .nil l1 l2 q3⟩
theorem pe_staK0 (c : CallAt X (.ref g) 0 ks rr) (ho : PE X o (tC (.ref C))) (hc : StaC X.K C m pr g) (hkw : PK X kws tk) (hall : (backToKw pos (keywordEach kws X.env)).all (·.1.isSome) = true) (hks : (backToKw pos (keywordEach kws X.env)).filterMap (·.1) = ks)
    (hpl : ((backTo pos (starEach [] X.env)).any (·.1) || (backToKw pos (keywordEach kws X.env)).any (·.1.isNone)) = false)
    (ht : eval (.Call (.Attribute o m apos) [] kws pos) X.env = (eval o X.env >>= fun ov => standAt apos.atName >>= fun _ => holding [ov] (getMethod ov m pl) >>= fun r => callWith pos r.1 r.2 (backTo pos (starEach [] X.env)) (backToKw pos (keywordEach kws X.env)))) :
    PE X (.Call (.Attribute o m apos) [] kws pos) (tSta C rr 0 ks.length tNil tk) := by
  constructor
  intro pins s σ H Q I h
  refine PySem.W.methodCall_KW (pl := pl) (thn (ho.run pins s σ H _ I (show tC (.ref C) σ H fun x H1 => x = .ref C ∧ tSta C rr 0 ks.length tNil tk σ H1 Q from ⟨rfl, h⟩)) ?_) ht
  rintro u s1 ⟨x, H1, I1, rx, rfl, q⟩
  cases rx
  refine sta_meth hc I1 fun s2 I2 => PySem.W.callWith_KW0 (first := []) (h₀ := X.base) I.ok.mod.kin hc.kp hall ?_ hpl
  refine thn (hkw.run pos pins s2 σ H1 _ I2 q) ?_
  rintro ws s3 ⟨zs, H3, I3, rz, l1, l2, q3⟩
  rw [hks]
  exact ⟨I3.kIn, c pins s3 σ H3 [] zs [] ws Q I3 .nil rz l1 l2 q3⟩
theorem snd_sta {F : List D → FO} {va : Ev (List D)} (c : FunAt X W (.ref g) n [] is F) (ho : PE X o (tC (.ref C))) (hc : StaC X.K C m pr g) (ha : SndV X W (e :: es) va) (hl : ∀ r ds r', va r = .ok ds r' → ds.length = n)
    (hst : starEach (e :: es) X.env = (false, eval e X.env) :: starEach es X.env := by rfl) (hpl : (backTo pos (starEach es X.env)).any (·.1) = false := by rfl)
    (ht : eval (.Call (.Attribute o m apos) (e :: es) [] pos) X.env = (eval o X.env >>= fun ov => standAt apos.atName >>= fun _ => holding [ov] (getMethod ov m pl) >>= fun r => callWith pos r.1 r.2 (backTo pos (starEach (e :: es) X.env)) (backToKw pos (keywordEach [] X.env))) := by rfl) :
    SndE X W (.Call (.Attribute o m apos) (e :: es) [] pos) (eCall F is va vNil) := fun Bs B Hs H s r Q E q =>
  ⟨_, pe_sta c ho hc pa_all hst hpl ht, ha _ _ _ _ _ _ _ E (PostE.bind q fun ds r1 vs Hs1 H1 hv x1 E1 ra q1 => by
    have ra : RpAll X.K Hs1 vs ds := ra
    exact ⟨ra.length.trans (hl _ _ _ hv), rfl, pure_end (Hs1 := Hs1) (H1 := H1) E1 ra .nil q1⟩)⟩
theorem snd_staK0 {F : List D → FO} {vk : Ev (List D)} (c : FunAt X W (.ref g) 0 ks is F) (ho : PE X o (tC (.ref C))) (hc : StaC X.K C m pr g) (hkw : SndK X W kws vk) (hl2 : ∀ r ds r', vk r = .ok ds r' → ds.length = ks.length)
    (hall : (backToKw pos (keywordEach kws X.env)).all (·.1.isSome) = true := by rfl) (hks : (backToKw pos (keywordEach kws X.env)).filterMap (·.1) = ks := by rfl) (hpl : ((backTo pos (starEach [] X.env)).any (·.1) || (backToKw pos (keywordEach kws X.env)).any (·.1.isNone)) = false := by rfl)
    (ht : eval (.Call (.Attribute o m apos) [] kws pos) X.env = (eval o X.env >>= fun ov => standAt apos.atName >>= fun _ => holding [ov] (getMethod ov m pl) >>= fun r => callWith pos r.1 r.2 (backTo pos (starEach [] X.env)) (backToKw pos (keywordEach kws X.env))) := by rfl) :
    SndE X W (.Call (.Attribute o m apos) [] kws pos) (eCall F is vNil vk) := fun Bs B Hs H s r Q E q =>
  ⟨_, pe_staK0 c ho hc pk_all hall hks hpl ht, hkw _ _ _ _ _ _ _ E (PostE.bind (show PostE X.K W Bs B Hs s (relR X.K B s) Q ((vk r).bind fun es r2 => ofFO (F (sel is ([] ++ es))) r2) from q) fun es' r2 zs Hs2 H2 hw x2 E2 rb q2 => by
    have rb : RpAll X.K Hs2 zs es' := rb
    exact ⟨rfl, rb.length.trans (hl2 _ _ _ hw), pure_end (Hs1 := Hs2) (H1 := H2) E2 .nil rb q2⟩)⟩
/-! ### what is never reached -/
def sStk : Sv := fun _ => .stuck
theorem sns_stk : SndS X W z st sStk := fun _ _ _ _ _ _ _ _ q => False.elim q
theorem snss_stk : SndSs X W z sts sStk := fun _ _ _ _ _ _ _ _ q => False.elim q
end
end Mp
set_option Elab.async false
set_option linter.all false
set_option maxRecDepth 100000
namespace Mp
open PySem PySem.Spec PyProof.Rows L2 Evl
theorem FnG.mono {P : Program} {w : World} {K : PySem.W.Frag} {mg : Str → Option Value} {base : Heap} {j k : Nat} {f : Addr} {fd : FuncData} {ps : List Str} {sp : Sp} (G : FnG P w K mg base j f fd ps sp) (h : j ≤ k) : FnG P w K mg base k f fd ps sp :=
  ⟨G.len, fun A outer s H args us vs Q E room => G.run A outer s H args us vs Q E (room.mono h)⟩
theorem EnvOk.stepA {K : PySem.W.Frag} {Bs B Hs H Hs' H' : Hp} {s : L2.St} {r : Rho} {a : Addr} (E : EnvOk K Bs B Hs H s r) (hB : B a = none) (ap : ∀ (i : Nat) oi, r[i]? = some (.own oi) → s[i]? ≠ some (some (.ref a))) (st : StepM a Hs H Hs' H') : EnvOk K Bs B Hs' H' s r := by
  refine ⟨st.sub, E.ext1.trans st.sh, fun b o h n => ?_, E.ext3, E.len, fun i d h => ?_, fun i o h => ?_, E.dis⟩
  · obtain ⟨n1, h1⟩ := E.ext2 b o h n
    exact st.fr b o (ne_of_none h hB) h1 n1
  · obtain ⟨v, h1, h2⟩ := E.val i d h
    exact ⟨v, h1, h2.mono st.sh⟩
  · obtain ⟨x, h1, h2, h3, h4⟩ := E.own i o h
    obtain ⟨u, hu⟩ := h4.here
    have ne : x ≠ a := by rintro rfl; exact ap i o h h1
    obtain ⟨n1, k1⟩ := st.fr x u ne hu h2
    exact ⟨x, h1, n1, h3, h4.mono st.sh (by rw [k1, hu])⟩
section
variable {X : Cx} {W : WX} {z : Bool} {n : Nat} {g C : Addr} {x : Str} {p pos : Pos} {e : Expr}
/-- f(..) upon a new object that nobody holds -/
def eMut1 (F : Own → List D → FO × Own) (eo : Ev Rv) : Ev Rv := fun r => (eo r).bind fun x r1 => match x with
  | .new o => ofFO (F o []).1 r1
  | _ => .stuck
theorem snd_mut1 {F : Own → List D → FO × Own} {eo : Ev Rv} (c : MutAt X W (.ref g) 1 F) (h : SndE X W e eo) (hg : Gl X x) (hm : X.mg x = some (.ref g)) (hk : PySem.W.keepIn X.K (.ref g) = true) (hdb : (x == ("__debug__" : Str)) = false := by decide)
    (he : starEach [e] X.env = (false, eval e X.env) :: starEach [] X.env := by rfl) (hpl : (backTo pos (starEach [] X.env)).any (·.1) = false := by rfl) : SndE X W (.Call (.Name x p) [e] [] pos) (eMut1 F eo) := fun Bs B Hs H s r Q E q =>
  ⟨_, pe_ca c hg hm hk (pa_cons pe_all pa_nil he) hdb he hpl, h _ _ _ _ _ _ _ E (PostE.bind q fun y r1 v Hs1 H1 _ x1 E1 ra q1 => by
    cases y with
    | val d => exact False.elim q1
    | new o =>
      obtain ⟨a, rfl, h1, h2, h3, h4⟩ := ra
      refine ⟨rfl, rfl, Hs1, a, [], o, [], rfl, E1.sub, h1, h3, .nil, rfl, ?_⟩
      have q1 : PostE X.K W Bs B Hs1 s (relR X.K B s) Q (ofFO (F o []).1 r1) := q1
      cases hF : (F o []).1 with
      | stuck => rw [hF] at q1; exact q1
      | val d =>
        rw [hF] at q1
        exact fun v Hs' H' st ow rv => q1 v Hs' H' st.sh (E1.stepA h2 h4 st) rv
      | new o2 =>
        rw [hF] at q1
        intro b Hs' H' st ow ne hb1 hb2 hb3
        exact q1 (.ref b) Hs' H' st.sh (E1.stepA h2 h4 st) ⟨b, rfl, hb2, E1.bnone hb1, hb3, E1.apart hb1⟩
      | exc w =>
        rw [hF] at q1
        exact fun c d Hs' H' st ow hx => q1 c d Hs' H' st.sh (E1.stepA h2 h4 st) hx)⟩
end
end Mp
set_option Elab.async false
set_option linter.all false
set_option maxRecDepth 100000
namespace Mp
open PySem PySem.Spec PyProof.Rows L2 Evl
/-! ### words of the translator -/
def dOr2 (f1 f2 : D → D → Option Rv) (d e : D) : Option Rv := (f1 d e).orElse fun _ => f2 d e
def dOr (f1 f2 : List D → Option Rv) (d : List D) : Option Rv := (f1 d).orElse fun _ => f2 d
section
variable {X : Cx} {W : WX} {z : Bool} {st : Stmt} {e o : Expr} {pos : Pos}
theorem ok_or2 {g : Value → Value → Sem Value} {f1 f2 : D → D → Option Rv} (h1 : OpOk X g f1) (h2 : OpOk X g f2) : OpOk X g (dOr2 f1 f2) := ok_or h1 h2
theorem cok_or2 {g : Value} {f1 f2 : List D → Option Rv} (h1 : CallOk X g f1) (h2 : CallOk X g f2) : CallOk X g (dOr f1 f2) := cok_or h1 h2
theorem rm_of {CX : CXT} {P : Program} {w : World} {K : PySem.W.Frag} {mg : Str → Option Value} {base : Heap} {N : List Str} {qual : Str} {scope : Scope} {f : Addr} {cd : Value} {A : Around} {outer : List Env} {s : Shared} {H : Hp} {E : XK} {k : Nat} (room : Room k (A.deeper (envOfC qual scope s.heap.objs.size f cd))) : Rm (cxOf CX P w K mg base N qual scope f cd A outer s H E) :=
  ⟨by have := room.un; show (A.deeper (envOfC qual scope s.heap.objs.size f cd)).units + 200 < cLine; omega, rfl⟩
theorem Rm.blk (R : Rm X) {s : Shared} {H : Hp} {scope : Scope} {env : Env} {fp : List Addr} : Rm (X.blk s H scope env fp) := ⟨R.un, R.calm⟩
theorem takes_WF : Takes X WF := fun u s' ⟨a, B, sI, pins, σ, H, cls, d, e, I, nb, up, sky, na, os, ag, w⟩ => False.elim w
theorem near0 {k : Nat} (room : Room k X.A) (gd : X.A.guards = some []) : Near X k X.A := Near.self room gd
theorem near1 {k : Nat} (room : Room (k + 1) X.A) (gd : X.A.guards = some []) : Near X k X.A.in1 := (Near.self room gd).in1
theorem near2 {k : Nat} (room : Room (k + 2) X.A) (gd : X.A.guards = some []) : Near X k X.A.in1.in1 := (near1 room gd).in1
theorem lenV0 : ∀ r ds r', vNil r = .ok ds r' → ds.length = 0 := fun r ds r' h => by cases h; rfl
theorem lenV_cons {ea : Ev Rv} {as : Ev (List D)} {n : Nat} (h : ∀ r ds r', as r = .ok ds r' → ds.length = n) : ∀ r ds r', vCons ea as r = .ok ds r' → ds.length = n + 1 := fun r ds r' q => by
  unfold vCons at q
  cases h1 : ea r with
  | stuck => rw [h1] at q; cases q
  | exc x r1 => rw [h1] at q; cases q
  | ok x r1 =>
    rw [h1] at q
    have q : (as r1).bind (fun xs r2 => EO.ok (x.data :: xs) r2) = .ok ds r' := q
    cases h2 : as r1 with
    | stuck => rw [h2] at q; cases q
    | exc x r2 => rw [h2] at q; cases q
    | ok xs r2 =>
      rw [h2] at q
      cases q
      exact congrArg (· + 1) (h _ _ _ h2)
theorem lenV1 {a : Ev Rv} : ∀ r ds r', vCons a vNil r = .ok ds r' → ds.length = 1 := lenV_cons lenV0
theorem lenV2 {a b : Ev Rv} : ∀ r ds r', vCons a (vCons b vNil) r = .ok ds r' → ds.length = 2 := lenV_cons lenV1
theorem lenV3 {a b c : Ev Rv} : ∀ r ds r', vCons a (vCons b (vCons c vNil)) r = .ok ds r' → ds.length = 3 := lenV_cons lenV2
theorem lenV4 {a b c d : Ev Rv} : ∀ r ds r', vCons a (vCons b (vCons c (vCons d vNil))) r = .ok ds r' → ds.length = 4 := lenV_cons lenV3
/-- x.f = e, x an own instance of the class at C -/
def sFldC (C : Addr) (i : Nat) (f : Str) (ev : Ev Rv) : Sv := fun r => (ev r).toS fun y r1 => match r1[i]? with
  | some (.own (.ins C' l)) => if C' = C ∧ l.length < 1000 then .nx (r1.set i (.own (.ins C' (putFD f y.data l)))) else .stuck
  | _ => .stuck
theorem sns_fldC {i : Nat} {C : Addr} {f : Str} {ev : Ev Rv} {p2 : Pos} (c : Cls X.K C) (na : NoAttr X.K C f) (ho : PE X o (tVar i)) (h : SndE X W e ev) (hs : swapsWith e (some (.Attribute o f p2)) pos.line X.env = pure false := by rfl) : SndS X W z (.Assign [.Attribute o f p2] e pos) (sFldC C i f ev) := fun Bs B Hs H s r D E q =>
  ⟨_, ps_fld ho pe_all hs, h _ _ _ _ _ _ _ E (PostS.toS q fun y r1 v Hs1 H1 x1 E1 ra q1 => by
    obtain ⟨Hs2, e2, E2, r2⟩ := RvAt.use E1 ra
    have q2 := PostS.mono e2 q1
    clear q1
    split at q2
    case h_2 => exact False.elim q2
    rename_i C' l hl
    split at q2
    case isFalse => exact False.elim q2
    rename_i hC
    obtain ⟨rfl, few⟩ := hC
    have q1 := q2
    clear q2
    obtain ⟨a, h1, h2, h3, dx, fs, h4, h5, h6⟩ := E2.own i _ hl
    obtain ⟨p1, p2⟩ := putFD_rp (f := f) r2 h5 h6
    have hlen : fs.length = l.length := by have := congrArg List.length h5; simpa using this
    exact ⟨.ref a, h1, a, C', dx, fs, rfl, h4, c, na, by rw [hlen]; assumption, q1.nx (E2.putOwn (o' := .ins C' (putFD f y.data l)) hl h1 ⟨dx, _, upd_same, p1, p2⟩)⟩)⟩
end
end Mp
namespace Mp
open PySem PySem.Spec PyProof.Rows L2 Evl
section
variable {X : Cx} {W : WX} {z : Bool} {tg : Expr} {pos : Pos}
/-- y = [..] on one line, y a plain local -/
theorem sns_setLc {i : Nat} {y : Str} {py spos : Pos} {elt iter : Expr} {ifs : List Expr} {scope : Scope} {own : List (Str × Nat)} {it : Ev (List D)} {g : Tg} {is : List Nat} {t : Ev Bool} {ev : Ev Rv} (hz : z = true → i ≠ 0) (hy : X.N[i]? = some y) (hyl : X.env.scope.names.lookup y = some .local)
    (hsw : swapsWith (.ListComp elt [⟨tg, iter, ifs, 0⟩] scope pos) (some (.Name y py)) spos.line X.env = pure true) (hc : X.calm = true) (hN : X.N.Nodup) (ok : BlkOk X.N X.env.scope scope own) (hi : SndI X W tg iter it)
    (hg : ∀ (s : Shared) (H0 : Hp) (C : Addr) (cl : List (Str × Addr)) (fp : List Addr), SndG (X.blk s H0 scope (compEnvC scope cl C X.env) fp) tg g is)
    (ht : ∀ (s : Shared) (H0 : Hp) (C : Addr) (cl : List (Str × Addr)) (fp : List Addr), SndTs (X.blk s H0 scope (compEnvC scope cl C X.env) fp) WF ifs t)
    (he : ∀ (s : Shared) (H0 : Hp) (C : Addr) (cl : List (Str × Addr)) (fp : List Addr), SndE (X.blk s H0 scope (compEnvC scope cl C X.env) fp) WF elt ev) (hiv : ∀ i ∈ is, i ∈ own.map (·.2)) (hs : ∀ x, foldedSetIterable iter X.env x = pure x := by intro _; rfl) :
    SndS X W z (.Assign [.Name y py] (.ListComp elt [⟨tg, iter, ifs, 0⟩] scope pos) spos) (sSet i (eComp it g t ev (own.map (·.2)))) := fun Bs B Hs H s r D E q =>
  ⟨_, ps_setLc hc hN hy hyl hsw pi_all ok pg_c pts_c pe_c hs, lc_read hc hN ok hi hg ht he hiv E (PostS.toS q fun x r' v Hs' H' e1 E1 ra q1 => q1.nx' (Kz.set hz) (E1.setRv ra i))⟩
end
end Mp
namespace Mp
open PySem PySem.Spec PyProof.Rows L2 Evl
theorem kit_own {K : PySem.W.Frag} {C : Addr} {n : String} (cl : PySem.W.hasDictIn K C = true) (ty : PySem.W.typeIn K (.ref C) = some (.type "type")) (nf : PySem.W.notFirst K C (.type n) = true) : PySem.W.kitOne K (.type n) (.ref C) = some false := by
  have sub : PySem.W.subIn K (.type n) (.ref C) = some false := by
    unfold PySem.W.notFirst at nf
    rw [Bool.or_eq_true] at nf
    rcases nf with h | h
    · exact absurd (beq_iff_eq.mp h) (fun z => nomatch z)
    · exact beq_iff_eq.mp h
  have there : (PySem.W.clsIn K C).isSome = true := by
    obtain ⟨cd, h, _⟩ := PySem.W.any_some cl
    rw [h]; rfl
  unfold PySem.W.kitOne PySem.W.kitCls
  have ne : ¬ ((Value.type n == Value.ref C) = true) := fun z => by have := beq_iff_eq.mp z; cases this
  rw [if_neg ne]
  show (if ((PySem.W.clsIn K C).isSome && PySem.W.typeIn K (.ref C) == some (.type "type")) = true then PySem.W.subIn K (.type n) (.ref C) else none) = some false
  rw [there, ty, sub]
  rfl
end Mp
set_option Elab.async false
set_option linter.all false
set_option maxRecDepth 100000
namespace Mp
open PySem PySem.Spec PyProof.Rows L2 Evl
/-! ### the forms, applied -/
/-! what follows a part, by name, so that nothing is looked at before its turn -/
def kE2 (f : D → D → Option Rv) (ob : Ev Src) (x : Src) (r1 : Rho) : EO Rv := (ob r1).bind fun y r2 => two f x y r2
def kE3c (f2 : D → D → Option Rv) (oc : Ev Src) (y : Src) (z : Rv) (r3 : Rho) : EO Rv := match z with
  | .val (.bl true) => (oc r3).bind fun w r4 => two f2 y w r4
  | .val (.bl false) => .ok (.val (.bl false)) r3
  | _ => .stuck
def kE3b (f f2 : D → D → Option Rv) (oc : Ev Src) (x y : Src) (r2 : Rho) : EO Rv := (two f x y r2).bind (kE3c f2 oc y)
def kE3 (f f2 : D → D → Option Rv) (ob oc : Ev Src) (x : Src) (r1 : Rho) : EO Rv := (ob r1).bind (kE3b f f2 oc x)
def kAnd (tb : Ev Bool) (k : Bool) (r1 : Rho) : EO Bool := if k then tb r1 else .ok false r1
def kOr (tb : Ev Bool) (k : Bool) (r1 : Rho) : EO Bool := if k then .ok true r1 else tb r1
def kEAnd (eb : Ev Rv) (x : Rv) (r1 : Rho) : EO Rv := match x with | .val (.bl true) => eb r1 | .val (.bl false) => .ok (.val (.bl false)) r1 | _ => .stuck
def kEOr (eb : Ev Rv) (x : Rv) (r1 : Rho) : EO Rv := match x with | .val (.bl true) => .ok (.val (.bl true)) r1 | .val (.bl false) => eb r1 | _ => .stuck
def kEIf (ea eb : Ev Rv) (k : Bool) (r1 : Rho) : EO Rv := if k then ea r1 else eb r1
def kSIf (sa sb : Sv) (k : Bool) (r1 : Rho) : SO := if k then sa r1 else sb r1
def kA (as : Ev (List Src)) (x : Src) (r1 : Rho) : EO (List Src) := (as r1).bind fun xs r2 => .ok (x :: xs) r2
def kV (va : Ev (List D)) (x : Rv) (r1 : Rho) : EO (List D) := (va r1).bind fun xs r2 => .ok (x.data :: xs) r2
def kVS (va : Ev (List D)) (x : Rv) (r1 : Rho) : EO (List D) := match x.data with
  | .lst l => (va r1).bind fun xs r2 => .ok (l ++ xs) r2
  | .tup l => (va r1).bind fun xs r2 => .ok (l ++ xs) r2
  | _ => .stuck
def kL (la : Ev (List Rv)) (x : Rv) (r1 : Rho) : EO (List Rv) := (la r1).bind fun xs r2 => .ok (x :: xs) r2
def kSl3 (x : Src) (lo hi : Option Int) (r3 : Rho) : EO Rv := match x.rd r3 with | some d => (match dSl d lo hi with | some z => .ok z r3 | none => .stuck) | none => .stuck
def kSl2 (h : Ev (Option Int)) (x : Src) (lo : Option Int) (r2 : Rho) : EO Rv := (h r2).bind (kSl3 x lo)
def kSl (l h : Ev (Option Int)) (x : Src) (r1 : Rho) : EO Rv := (l r1).bind (kSl2 h x)
def kCall2 (F : List D → FO) (is : List Nat) (ds es : List D) (r2 : Rho) : EO Rv := ofFO (F (sel is (ds ++ es))) r2
def kCall (F : List D → FO) (is : List Nat) (vk : Ev (List D)) (ds : List D) (r1 : Rho) : EO Rv := (vk r1).bind (kCall2 F is ds)
def kMake2 (C : Addr) (FM : Own → List D → FO × Own) (is : List Nat) (ds es : List D) (r2 : Rho) : EO Rv := match FM (.ins C []) (sel is (ds ++ es)) with | (.val .non, o) => .ok (.new o) r2 | (.exc z, _) => .exc z r2 | _ => .stuck
def kMake (C : Addr) (FM : Own → List D → FO × Own) (is : List Nat) (vk : Ev (List D)) (ds : List D) (r1 : Rho) : EO Rv := (vk r1).bind (kMake2 C FM is ds)
def kMeth3 (F : List D → FO) (is : List Nat) (o : D) (ds es : List D) (r3 : Rho) : EO Rv := ofFO (F (sel is ((o :: ds) ++ es))) r3
def kMeth2 (F : List D → FO) (is : List Nat) (vk : Ev (List D)) (o : D) (ds : List D) (r2 : Rho) : EO Rv := (vk r2).bind (kMeth3 F is o ds)
def kMeth (C : Addr) (m : Str) (F : List D → FO) (is : List Nat) (va vk : Ev (List D)) (x : Rv) (r1 : Rho) : EO Rv := match x.data with
  | .ins C' l => if C' = C ∧ l.lookup m = none then (va r1).bind (kMeth2 F is vk (.ins C' l)) else .stuck
  | _ => .stuck
def kMt2 (fm : D → List D → Option Rv) (x : Src) (ys : List Src) (r2 : Rho) : EO Rv := match x.rd r2, rdAll r2 ys with
    | some d, some ds => (match fm d ds with | some z => .ok z r2 | none => .stuck)
    | _, _ => .stuck
def kMt (T : String) (fm : D → List D → Option Rv) (as : Ev (List Src)) (x : Src) (r1 : Rho) : EO Rv := match x.rd r1 with
  | some d1 => if tyD d1 = T then (as r1).bind (kMt2 fm x) else .stuck
  | none => .stuck
def kR2 (ob : Ev Src) (x : Src) (r : Rho) : EO (List D) := (ob r).bind fun y r => match x.rd r, y.rd r with | some (.int i), some (.int j) => if okR i && okR j then .ok (rangeD i (j - i).toNat) r else .stuck | _, _ => .stuck
section
variable {A B : Type} {a : A} {r : Rho} {x : Exn} {f : A → Rho → EO B} {fs : A → Rho → SO} {fn : Rho → SO}
theorem b_ok : (EO.ok a r).bind f = f a r := rfl
theorem b_stk : (EO.stuck : EO A).bind f = .stuck := rfl
theorem b_exc : (EO.exc x r : EO A).bind f = .exc x r := rfl
theorem s_ok : (EO.ok a r).toS fs = fs a r := rfl
theorem s_stk : (EO.stuck : EO A).toS fs = .stuck := rfl
theorem s_exc : (EO.exc x r : EO A).toS fs = .exc x r := rfl
theorem t_nx : (SO.nx r).then fn = fn r := rfl
theorem t_ret {v : Rv} : (SO.ret v r).then fn = .ret v r := rfl
theorem t_bk : (SO.bk r).then fn = .bk r := rfl
theorem t_ct : (SO.ct r).then fn = .ct r := rfl
theorem t_exc : (SO.exc x r).then fn = .exc x r := rfl
theorem t_stk : (SO.stuck).then fn = .stuck := rfl
end
section
variable {r : Rho} {d : D} {i j : Nat} {ev ea eb ek : Ev Rv} {oa ob oc : Ev Src} {as : Ev (List Src)} {va vk : Ev (List D)} {la : Ev (List Rv)} {ta tb t tc : Ev Bool} {sa sb body : Sv} {g : Tg} {it : Ev (List D)} {C : Addr} {F : List D → FO} {FM : Own → List D → FO × Own} {is vs : List Nat} {f f2 : D → D → Option Rv} {fl : List D → Option Rv} {f1 : D → Option Rv} {l : Ev (Option Int)} {h : Ev (Option Int)} {m : Str} {T : String} {fm : D → List D → Option Rv} {x y : Src}
theorem a_sNil : sNil r = .nx r := rfl
theorem a_sStk : sStk r = .stuck := rfl
theorem a_sCons : sCons sa sb r = (sa r).then sb := rfl
theorem a_sRet : sRet ev r = (ev r).toS fun x r => .ret x r := rfl
theorem a_sRetN : sRetN r = .ret (.val .non) r := rfl
theorem a_sDrop : sDrop ev r = (ev r).toS fun _ r => .nx r := rfl
theorem a_sSet : sSet i ev r = (ev r).toS fun x r => .nx (r.set i (cellOf x)) := rfl
theorem a_sIf : sIf t sa sb r = (t r).toS (kSIf sa sb) := rfl
theorem k_sif1 : kSIf sa sb true r = sa r := rfl
theorem k_sif0 : kSIf sa sb false r = sb r := rfl
theorem a_sFor : sFor it g body r = (it r).toS fun ds r => forL g body ds r := rfl
theorem a_sTgt : sTgt g ev r = (ev r).toS fun x r => match g x.data r with | some r' => .nx r' | none => .stuck := rfl
theorem a_sPar : sPar is la r = (la r).toS fun xs r => if xs.length = is.length then .nx ((is.zip xs).foldl (fun r p => r.set p.1 (cellOf p.2)) r) else .stuck := rfl
theorem a_eC : eC d r = .ok (.val d) r := rfl
theorem a_oC : oC d r = .ok (.dat d) r := rfl
theorem a_oE : oE ev r = (ev r).bind fun x r => .ok (.dat x.data) r := rfl
theorem a_e1 : e1 f1 oa r = (oa r).bind fun x r1 => match x.rd r1 with | some d => (match f1 d with | some z => .ok z r1 | none => .stuck) | none => .stuck := rfl
theorem a_e2 : e2 f oa ob r = (oa r).bind (kE2 f ob) := rfl
theorem k_e2 : kE2 f ob x r = (ob r).bind fun y r2 => two f x y r2 := rfl
theorem a_e3 : e3 f f2 oa ob oc r = (oa r).bind (kE3 f f2 ob oc) := rfl
theorem k_e3 : kE3 f f2 ob oc x r = (ob r).bind (kE3b f f2 oc x) := rfl
theorem k_e3b : kE3b f f2 oc x y r = (two f x y r).bind (kE3c f2 oc y) := rfl
theorem k_e3t : kE3c f2 oc y (.val (.bl true)) r = (oc r).bind fun w r4 => two f2 y w r4 := rfl
theorem k_e3f : kE3c f2 oc y (.val (.bl false)) r = .ok (.val (.bl false)) r := rfl
theorem a_tv : tv ev r = (ev r).bind fun x r => match x with | .val (.bl c) => .ok c r | _ => .stuck := rfl
theorem a_tTr : tTr oa r = (oa r).bind fun x r1 => match x.rd r1 with | some d => (match truD d with | some k => .ok k r1 | none => .stuck) | none => .stuck := rfl
theorem a_tTrO : tTrO C F oa r = (oa r).bind fun x r1 => match x.rd r1 with | some d => (match dBool C F d with | some k => .ok k r1 | none => .stuck) | none => .stuck := rfl
theorem a_tAnd : tAndE ta tb r = (ta r).bind (kAnd tb) := rfl
theorem k_and1 : kAnd tb true r = tb r := rfl
theorem k_and0 : kAnd tb false r = .ok false r := rfl
theorem a_tOr : tOrE ta tb r = (ta r).bind (kOr tb) := rfl
theorem k_or1 : kOr tb true r = .ok true r := rfl
theorem k_or0 : kOr tb false r = tb r := rfl
theorem a_tNot : tNotE ta r = (ta r).bind fun k r1 => .ok (!k) r1 := rfl
theorem a_tT : tT r = .ok true r := rfl
theorem a_eAnd : eAnd ea eb r = (ea r).bind (kEAnd eb) := rfl
theorem k_eand1 : kEAnd eb (.val (.bl true)) r = eb r := rfl
theorem k_eand0 : kEAnd eb (.val (.bl false)) r = .ok (.val (.bl false)) r := rfl
theorem a_eOr : eOr ea eb r = (ea r).bind (kEOr eb) := rfl
theorem k_eor1 : kEOr eb (.val (.bl true)) r = .ok (.val (.bl true)) r := rfl
theorem k_eor0 : kEOr eb (.val (.bl false)) r = eb r := rfl
theorem a_eNot : eNot ea r = (ea r).bind fun x r1 => match x with | .val (.bl k) => .ok (.val (.bl (!k))) r1 | _ => .stuck := rfl
theorem a_eIf : eIf tc ea eb r = (tc r).bind (kEIf ea eb) := rfl
theorem k_eif1 : kEIf ea eb true r = ea r := rfl
theorem k_eif0 : kEIf ea eb false r = eb r := rfl
theorem a_eIx : eIx oa ob r = e2 (fun d i => (dIx d i).map .val) oa ob r := rfl
theorem a_eCB : eCB fl as r = (as r).bind fun xs r1 => match rdAll r1 xs with | some ds => (match fl ds with | some z => .ok z r1 | none => .stuck) | none => .stuck := rfl
theorem a_aNil : aNil r = .ok [] r := rfl
theorem a_aCons : aCons oa as r = (oa r).bind (kA as) := rfl
theorem k_a : kA as x r = (as r).bind fun xs r2 => .ok (x :: xs) r2 := rfl
theorem a_vNil : vNil r = .ok [] r := rfl
theorem a_vCons : vCons ea va r = (ea r).bind (kV va) := rfl
theorem k_v {z : Rv} : kV va z r = (va r).bind fun xs r2 => .ok (z.data :: xs) r2 := rfl
theorem a_vStar : vStar ea va r = (ea r).bind (kVS va) := rfl
theorem k_vs1 {q : List D} : kVS va (.new (.lst q)) r = (va r).bind fun xs r2 => .ok (q ++ xs) r2 := rfl
theorem k_vs2 {q : List D} : kVS va (.val (.tup q)) r = (va r).bind fun xs r2 => .ok (q ++ xs) r2 := rfl
theorem k_vs3 {q : List D} : kVS va (.val (.lst q)) r = (va r).bind fun xs r2 => .ok (q ++ xs) r2 := rfl
theorem a_lNil : lNil r = .ok [] r := rfl
theorem a_lCons : lCons ea la r = (ea r).bind (kL la) := rfl
theorem k_l {z : Rv} : kL la z r = (la r).bind fun xs r2 => .ok (z :: xs) r2 := rfl
theorem a_eTup : eTup va r = (va r).bind fun ds r1 => if ds.length ≤ sizeLine then .ok (.val (.tup ds)) r1 else .stuck := rfl
theorem a_eLst : eLst va r = (va r).bind fun ds r1 => if ds.length ≤ sizeLine then .ok (.new (.lst ds)) r1 else .stuck := rfl
theorem a_pNone : pNone r = .ok none r := rfl
theorem a_pSome : pSome oa r = (oa r).bind fun x r1 => match x.rd r1 with | some (.int i) => .ok (some i) r1 | _ => .stuck := rfl
theorem a_eSl : eSl oa l h r = (oa r).bind (kSl l h) := rfl
theorem k_sl : kSl l h x r = (l r).bind (kSl2 h x) := rfl
theorem k_sl2 {lo : Option Int} : kSl2 h x lo r = (h r).bind (kSl3 x lo) := rfl
theorem k_sl3 {lo hi : Option Int} : kSl3 x lo hi r = match x.rd r with | some d => (match dSl d lo hi with | some z => .ok z r | none => .stuck) | none => .stuck := rfl
theorem a_eCall : eCall F is va vk r = (va r).bind (kCall F is vk) := rfl
theorem k_call {ds : List D} : kCall F is vk ds r = (vk r).bind (kCall2 F is ds) := rfl
theorem k_call2 {ds es : List D} : kCall2 F is ds es r = ofFO (F (sel is (ds ++ es))) r := rfl
theorem a_eMut1 : eMut1 FM ev r = (ev r).bind fun x r1 => match x with | .new o => ofFO (FM o []).1 r1 | _ => .stuck := rfl
theorem a_eMake : eMake C FM is va vk r = (va r).bind (kMake C FM is vk) := rfl
theorem k_make {ds : List D} : kMake C FM is vk ds r = (vk r).bind (kMake2 C FM is ds) := rfl
theorem k_make2 {ds es : List D} : kMake2 C FM is ds es r = match FM (.ins C []) (sel is (ds ++ es)) with | (.val .non, o) => .ok (.new o) r | (.exc z, _) => .exc z r | _ => .stuck := rfl
theorem a_eMeth : eMeth C m F is ev va vk r = (ev r).bind (kMeth C m F is va vk) := rfl
theorem k_meth {z : Rv} : kMeth C m F is va vk z r = match z.data with | .ins C' l => if C' = C ∧ l.lookup m = none then (va r).bind (kMeth2 F is vk (.ins C' l)) else .stuck | _ => .stuck := rfl
theorem k_meth2 {o : D} {ds : List D} : kMeth2 F is vk o ds r = (vk r).bind (kMeth3 F is o ds) := rfl
theorem k_meth3 {o : D} {ds es : List D} : kMeth3 F is o ds es r = ofFO (F (sel is ((o :: ds) ++ es))) r := rfl
theorem a_eProp : eProp C F ev r = (ev r).bind fun x r1 => match x.data with | .ins C' l => if C' = C then ofFO0 (F [.ins C' l]) r1 else .stuck | _ => .stuck := rfl
theorem a_eMt : eMt T fm oa as r = (oa r).bind (kMt T fm as) := rfl
theorem k_mt : kMt T fm as x r = match x.rd r with | some d1 => if tyD d1 = T then (as r).bind (kMt2 fm x) else .stuck | none => .stuck := rfl
theorem k_mt2 {ys : List Src} : kMt2 fm x ys r = match x.rd r, rdAll r ys with | some d, some ds => (match fm d ds with | some z => .ok z r | none => .stuck) | _, _ => .stuck := rfl
theorem a_eDT : eDT r = .ok (.new (.dT [])) r := rfl
theorem a_iSeq : iSeq ev r = (ev r).bind fun x r => match x.data with | .lst ds => .ok ds r | .tup ds => .ok ds r | .str z => .ok (signs z) r | _ => .stuck := rfl
theorem a_iEn : iEn ev r = (ev r).bind fun x r => match x.data with | .lst ds => .ok (enumD ds) r | .tup ds => .ok (enumD ds) r | _ => .stuck := rfl
theorem a_iRange1 : iRange1 oa r = (oa r).bind fun x r => match x.rd r with | some (.int j) => if okR j then .ok (rangeD 0 j.toNat) r else .stuck | _ => .stuck := rfl
theorem a_iRange2 : iRange2 oa ob r = (oa r).bind (kR2 ob) := rfl
theorem k_r2 : kR2 ob x r = (ob r).bind fun y r => match x.rd r, y.rd r with | some (.int i), some (.int j) => if okR i && okR j then .ok (rangeD i (j - i).toNat) r else .stuck | _, _ => .stuck := rfl
theorem a_eComp : eComp it g t ev vs r = (it r).bind fun ds r1 => if ds.length ≤ sizeLine then (match lcL g t ev vs ds (wipeR r1 vs) with | .ok l r2 => .ok (.new (.lst l)) (restore r1 r2 vs) | _ => .stuck) else .stuck := rfl
theorem a_eDc : eDc it g t ek ev vs r = (it r).bind fun ds r1 => if ds.length ≤ sizeLine then (match dcL g t ek ev vs ds [] (wipeR r1 vs) with | .ok l r2 => .ok (.new (.dT l)) (restore r1 r2 vs) | _ => .stuck) else .stuck := rfl
theorem a_two : two f x y r = match x.rd r, y.rd r with | some d, some e => (match f d e with | some z => .ok z r | none => .stuck) | _, _ => .stuck := rfl
theorem a_oN : oN i r = match r[i]? with | some (.val d) => .ok (.dat d) r | some (.own _) => .ok (.slot i) r | _ => .stuck := rfl
theorem a_eN : eN i r = match r[i]? with | some (.val d) => .ok (.val d) r | some (.own o) => .ok (.val o.data) (r.set i (.val o.data)) | _ => .stuck := rfl
theorem a_rdS : (Src.slot i).rd r = match r[i]? with | some (.own o) => some o.data | some (.val d) => some d | _ => none := rfl
theorem a_eMut : eMut i FM va r = match r[i]? with
  | some (.own _) => (va r).bind fun ds r1 => (match r1[i]? with
    | some (.own o) => ofFO (FM o ds).1 (r1.set i (.own (FM o ds).2))
    | _ => .stuck)
  | _ => .stuck := rfl
theorem a_eApp : eApp i ev r = match r[i]? with
  | some (.own (.lst _)) => (ev r).bind fun x r1 => (match r1[i]? with
    | some (.own (.lst l)) => if l.length < sizeLine then .ok (.val .non) (r1.set i (.own (.lst (l ++ [x.data])))) else .stuck
    | _ => .stuck)
  | _ => .stuck := rfl
theorem a_sSetIx : sSetIx i ev oa r = (ev r).toS fun x r1 => match r1[i]? with
  | some (.own _) => (oa r1).toS fun y r2 => (match r2[i]?, y.rd r2 with
    | some (.own (.lst l)), some (.int k) => (match ixN l.length k with
      | some j => .nx (r2.set i (.own (.lst (l.set j x.data))))
      | none => .stuck)
    | _, _ => .stuck)
  | _ => .stuck := rfl
theorem a_sDput : sDput i ev oa r = (ev r).toS fun x r1 => match r1[i]? with
  | some (.own _) => (oa r1).toS fun y r2 => (match r2[i]?, y.rd r2 with
    | some (.own (.dT l)), some (.tup ks) => (match keysD ks with
      | some k => if l.length < sizeLine then .nx (r2.set i (.own (.dT (putD l k x.data)))) else .stuck
      | none => .stuck)
    | some (.own (.dK l)), some kd => (match keyD kd with
      | some k => if l.length < sizeLine then .nx (r2.set i (.own (.dK (putD l k x.data)))) else .stuck
      | none => .stuck)
    | _, _ => .stuck)
  | _ => .stuck := rfl
theorem a_sFldC {n : Str} : sFldC C i n ev r = (ev r).toS fun y r1 => match r1[i]? with
  | some (.own (.ins C' l)) => if C' = C ∧ l.length < 1000 then .nx (r1.set i (.own (.ins C' (putFD n y.data l)))) else .stuck
  | _ => .stuck := rfl
theorem a_gN : gN i d r = some (r.set i (.val d)) := rfl
theorem a_rd {d : D} : (Src.dat d).rd r = some d := rfl
end
end Mp
set_option Elab.async false
set_option linter.all false
set_option maxRecDepth 100000
namespace Mp
open PySem PySem.Spec PyProof.Rows L2 Evl
abbrev tp (i : Nat) : Stmt := PySem.Challenge.pw_hueturns_k02_nets_made_and_told.main.body.getD i (.Pass ⟨0, 0, 0, 0⟩)
abbrev st_l_dip : Stmt := tp 25
abbrev N_l_dip : List Str := ["_law_jar_here", "_law_top", "_law_digit"]
abbrev ps_l_dip : List Str := ["_law_jar_here", "_law_top"]
theorem sc_l_dip : FnScope N_l_dip ps_l_dip (defScope st_l_dip) := ⟨rfl, rfl, rfl, by decide +kernel, rfl, by decide +kernel, by decide +kernel⟩
abbrev st_l_one_of : Stmt := tp 26
abbrev N_l_one_of : List Str := ["_law_jar_here", "_law_some"]
abbrev ps_l_one_of : List Str := ["_law_jar_here", "_law_some"]
theorem sc_l_one_of : FnScope N_l_one_of ps_l_one_of (defScope st_l_one_of) := ⟨rfl, rfl, rfl, by decide +kernel, rfl, by decide +kernel, by decide +kernel⟩
abbrev st_l_roads : Stmt := tp 27
abbrev N_l_roads : List Str := ["_law_jar_here", "_law_size", "_law_thick", "_law_few", "_law_found", "_law_i", "_law_j"]
abbrev ps_l_roads : List Str := ["_law_jar_here", "_law_size"]
theorem sc_l_roads : FnScope N_l_roads ps_l_roads (defScope st_l_roads) := ⟨rfl, rfl, rfl, by decide +kernel, rfl, by decide +kernel, by decide +kernel⟩
abbrev st_l_hues : Stmt := tp 29
abbrev N_l_hues : List Str := ["_law_own", "_law_found", "_law_i", "_law_j", "_law_hue"]
abbrev ps_l_hues : List Str := ["_law_own"]
theorem sc_l_hues : FnScope N_l_hues ps_l_hues (defScope st_l_hues) := ⟨rfl, rfl, rfl, by decide +kernel, rfl, by decide +kernel, by decide +kernel⟩
abbrev st_l_text : Stmt := tp 28
abbrev N_l_text : List Str := ["_law_size", "_law_own", "_law_i", "_law_j", "_law_hue"]
abbrev ps_l_text : List Str := ["_law_size", "_law_own"]
theorem sc_l_text : FnScope N_l_text ps_l_text (defScope st_l_text) := ⟨rfl, rfl, rfl, by decide +kernel, rfl, by decide +kernel, by decide +kernel⟩
abbrev st_is_integer : Stmt := tp 10
abbrev N_is_integer : List Str := ["value"]
abbrev ps_is_integer : List Str := ["value"]
theorem sc_is_integer : FnScope N_is_integer ps_is_integer (defScope st_is_integer) := ⟨rfl, rfl, rfl, by decide +kernel, rfl, by decide +kernel, by decide +kernel⟩
abbrev st_is_integer_from : Stmt := tp 11
abbrev N_is_integer_from : List Str := ["value", "least", "most"]
abbrev ps_is_integer_from : List Str := ["value", "least", "most"]
theorem sc_is_integer_from : FnScope N_is_integer_from ps_is_integer_from (defScope st_is_integer_from) := ⟨rfl, rfl, rfl, by decide +kernel, rfl, by decide +kernel, by decide +kernel⟩
abbrev st_is_size : Stmt := tp 12
abbrev N_is_size : List Str := ["value"]
abbrev ps_is_size : List Str := ["value"]
theorem sc_is_size : FnScope N_is_size ps_is_size (defScope st_is_size) := ⟨rfl, rfl, rfl, by decide +kernel, rfl, by decide +kernel, by decide +kernel⟩
abbrev st_is_place : Stmt := tp 13
abbrev N_is_place : List Str := ["value", "size"]
abbrev ps_is_place : List Str := ["value", "size"]
theorem sc_is_place : FnScope N_is_place ps_is_place (defScope st_is_place) := ⟨rfl, rfl, rfl, by decide +kernel, rfl, by decide +kernel, by decide +kernel⟩
abbrev st_is_hue : Stmt := tp 14
abbrev N_is_hue : List Str := ["value"]
abbrev ps_is_hue : List Str := ["value"]
theorem sc_is_hue : FnScope N_is_hue ps_is_hue (defScope st_is_hue) := ⟨rfl, rfl, rfl, by decide +kernel, rfl, by decide +kernel, by decide +kernel⟩
abbrev st_is_road : Stmt := tp 19
abbrev N_is_road : List Str := ["value", "size", "low", "high", "hue"]
abbrev ps_is_road : List Str := ["value", "size"]
theorem sc_is_road : FnScope N_is_road ps_is_road (defScope st_is_road) := ⟨rfl, rfl, rfl, by decide +kernel, rfl, by decide +kernel, by decide +kernel⟩
abbrev st_first_wrong_road : Stmt := tp 20
abbrev N_first_wrong_road : List Str := ["roads", "size", "index", "road"]
abbrev ps_first_wrong_road : List Str := ["roads", "size"]
theorem sc_first_wrong_road : FnScope N_first_wrong_road ps_first_wrong_road (defScope st_first_wrong_road) := ⟨rfl, rfl, rfl, by decide +kernel, rfl, by decide +kernel, by decide +kernel⟩
abbrev st_NetD_initD : Stmt := inClass (tp 18) 0
abbrev N_NetD_initD : List Str := ["self", "size", "roads", "wrong", "low", "high", "hue"]
abbrev ps_NetD_initD : List Str := ["self", "size", "roads"]
theorem sc_NetD_initD : FnScope N_NetD_initD ps_NetD_initD (defScope st_NetD_initD) := ⟨rfl, rfl, rfl, by decide +kernel, rfl, by decide +kernel, by decide +kernel⟩
abbrev st_NetD_reprD : Stmt := inClass (tp 18) 13
abbrev N_NetD_reprD : List Str := ["self"]
abbrev ps_NetD_reprD : List Str := ["self"]
theorem sc_NetD_reprD : FnScope N_NetD_reprD ps_NetD_reprD (defScope st_NetD_reprD) := ⟨rfl, rfl, rfl, by decide +kernel, rfl, by decide +kernel, by decide +kernel⟩
abbrev st_NetD_strD : Stmt := inClass (tp 18) 12
abbrev N_NetD_strD : List Str := ["self", "words", "low", "high", "hue"]
abbrev ps_NetD_strD : List Str := ["self"]
theorem sc_NetD_strD : FnScope N_NetD_strD ps_NetD_strD (defScope st_NetD_strD) := ⟨rfl, rfl, rfl, by decide +kernel, rfl, by decide +kernel, by decide +kernel⟩
abbrev st_NetD_lenD : Stmt := inClass (tp 18) 10
abbrev N_NetD_lenD : List Str := ["self"]
abbrev ps_NetD_lenD : List Str := ["self"]
theorem sc_NetD_lenD : FnScope N_NetD_lenD ps_NetD_lenD (defScope st_NetD_lenD) := ⟨rfl, rfl, rfl, by decide +kernel, rfl, by decide +kernel, by decide +kernel⟩
abbrev st_Net_roads : Stmt := inClass (tp 18) 3
abbrev N_Net_roads : List Str := ["self"]
abbrev ps_Net_roads : List Str := ["self"]
theorem sc_Net_roads : FnScope N_Net_roads ps_Net_roads (defScope st_Net_roads) := ⟨rfl, rfl, rfl, by decide +kernel, rfl, by decide +kernel, by decide +kernel⟩
abbrev st_Net_size : Stmt := inClass (tp 18) 2
abbrev N_Net_size : List Str := ["self"]
abbrev ps_Net_size : List Str := ["self"]
theorem sc_Net_size : FnScope N_Net_size ps_Net_size (defScope st_Net_size) := ⟨rfl, rfl, rfl, by decide +kernel, rfl, by decide +kernel, by decide +kernel⟩
abbrev st_size_in : Stmt := tp 21
abbrev N_size_in : List Str := ["word"]
abbrev ps_size_in : List Str := ["word"]
theorem sc_size_in : FnScope N_size_in ps_size_in (defScope st_size_in) := ⟨rfl, rfl, rfl, by decide +kernel, rfl, by decide +kernel, by decide +kernel⟩
abbrev st_road_in : Stmt := tp 22
abbrev N_road_in : List Str := ["word"]
abbrev ps_road_in : List Str := ["word"]
theorem sc_road_in : FnScope N_road_in ps_road_in (defScope st_road_in) := ⟨rfl, rfl, rfl, by decide +kernel, rfl, by decide +kernel, by decide +kernel⟩
abbrev st_Net_read : Stmt := inClass (tp 18) 1
abbrev N_Net_read : List Str := ["text", "words", "size", "roads", "word"]
abbrev ps_Net_read : List Str := ["text"]
theorem sc_Net_read : FnScope N_Net_read ps_Net_read (defScope st_Net_read) := ⟨rfl, rfl, rfl, by decide +kernel, rfl, by decide +kernel, by decide +kernel⟩
abbrev st_NetD_eqD : Stmt := inClass (tp 18) 14
abbrev N_NetD_eqD : List Str := ["self", "other"]
abbrev ps_NetD_eqD : List Str := ["self", "other"]
theorem sc_NetD_eqD : FnScope N_NetD_eqD ps_NetD_eqD (defScope st_NetD_eqD) := ⟨rfl, rfl, rfl, by decide +kernel, rfl, by decide +kernel, by decide +kernel⟩
abbrev st_NetD_boolD : Stmt := inClass (tp 18) 11
abbrev N_NetD_boolD : List Str := ["self"]
abbrev ps_NetD_boolD : List Str := ["self"]
theorem sc_NetD_boolD : FnScope N_NetD_boolD ps_NetD_boolD (defScope st_NetD_boolD) := ⟨rfl, rfl, rfl, by decide +kernel, rfl, by decide +kernel, by decide +kernel⟩
abbrev st_need_place : Stmt := tp 15
abbrev N_need_place : List Str := ["place", "size"]
abbrev ps_need_place : List Str := ["place", "size"]
theorem sc_need_place : FnScope N_need_place ps_need_place (defScope st_need_place) := ⟨rfl, rfl, rfl, by decide +kernel, rfl, by decide +kernel, by decide +kernel⟩
abbrev st_Net_roads_at : Stmt := inClass (tp 18) 5
abbrev N_Net_roads_at : List Str := ["self", "place", "before", "low", "high", "hue", "behind"]
abbrev ps_Net_roads_at : List Str := ["self", "place"]
theorem sc_Net_roads_at : FnScope N_Net_roads_at ps_Net_roads_at (defScope st_Net_roads_at) := ⟨rfl, rfl, rfl, by decide +kernel, rfl, by decide +kernel, by decide +kernel⟩
abbrev st_pair_of : Stmt := tp 23
abbrev N_pair_of : List Str := ["one", "two"]
abbrev ps_pair_of : List Str := ["one", "two"]
theorem sc_pair_of : FnScope N_pair_of ps_pair_of (defScope st_pair_of) := ⟨rfl, rfl, rfl, by decide +kernel, rfl, by decide +kernel, by decide +kernel⟩
abbrev st_Net_hue : Stmt := inClass (tp 18) 4
abbrev N_Net_hue : List Str := ["self", "one", "two"]
abbrev ps_Net_hue : List Str := ["self", "one", "two"]
theorem sc_Net_hue : FnScope N_Net_hue ps_Net_hue (defScope st_Net_hue) := ⟨rfl, rfl, rfl, by decide +kernel, rfl, by decide +kernel, by decide +kernel⟩
abbrev st_l_right : Stmt := tp 31
abbrev N_l_right : List Str := ["_law_jar_here", "_law_kept", "_law_turn", "_law_size", "_law_own", "_law_told", "_law_i", "_law_mine", "_law_page", "_law_hues_here", "_law_due", "_law_j", "_law_one", "_law_two"]
abbrev ps_l_right : List Str := ["_law_jar_here"]
theorem sc_l_right : FnScope N_l_right ps_l_right (defScope st_l_right) := ⟨rfl, rfl, rfl, by decide +kernel, rfl, by decide +kernel, by decide +kernel⟩
abbrev st_l_jar : Stmt := tp 30
abbrev N_l_jar : List Str := ["_law_cells", "_law_turn", "_law_cell", "_law_mixed", "_law_each"]
abbrev ps_l_jar : List Str := ["_law_cells", "_law_turn"]
theorem sc_l_jar : FnScope N_l_jar ps_l_jar (defScope st_l_jar) := ⟨rfl, rfl, rfl, by decide +kernel, rfl, by decide +kernel, by decide +kernel⟩
abbrev st_law : Stmt := tp 32
abbrev N_law : List Str := ["_law_cells", "_law_turn"]
abbrev ps_law : List Str := ["_law_cells"]
theorem sc_law : FnScope N_law ps_law (defScope st_law) := ⟨rfl, rfl, rfl, by decide +kernel, rfl, by decide +kernel, by decide +kernel⟩
def sv_l_dip (C : Addr) : Sv := (sCons (sSetIx 0 (e2 dAdd (oE (eIx (oN 0) (oC (.int 2)))) (oC (.int 1))) (oC (.int 2))) (sCons (sIf (tv (e2 dGt (oE (eIx (oN 0) (oC (.int 0)))) (oC (.int 0)))) (sCons (sTgt (gT [(gIx 0 fun _ => some 0), (gN 2)]) (eCB dDivmod (aCons (oE (eIx (oN 0) (oC (.int 0)))) (aCons (oN 1) aNil)))) (sRet (eN 2))) sNil) (sCons (sSetIx 0 (e2 dMod (oE (eCB dInt (aCons (oE (e2 dAdd (oE (e2 dMul (oE (eIx (oN 0) (oC (.int 1)))) (oC (.int 48271)))) (oE (e2 dMul (oC (.int 60013)) (oE (eIx (oN 0) (oC (.int 2)))))))) aNil))) (oC (.int 2147483399))) (oC (.int 1))) (sRet (e2 dMod (oE (eCB dInt (aCons (oE (e2 dDiv (oE (eIx (oN 0) (oC (.int 1)))) (oC (.int 512)))) aNil))) (oN 1))))))
def F_l_dip (C : Addr) : Own → List D → FO × Own := runM 3 (sv_l_dip C)
def sv_l_one_of (C : Addr) : Sv := (sRet (eIx (oN 1) (oE (eMut 0 (F_l_dip C) (vCons (eCB dLen (aCons (oN 1) aNil)) vNil)))))
def F_l_one_of (C : Addr) : Own → List D → FO × Own := runM 2 (sv_l_one_of C)
def lb0_l_roads (C : Addr) : Sv := (sIf (tv (e2 dLt (oE (eMut 0 (F_l_dip C) (vCons (eC (.int 6)) vNil))) (oN 2))) (sDrop (eApp 4 (eTup (vCons (eN 5) (vCons (eN 6) (vCons (eMut 0 (F_l_one_of C) (vCons (eCB (dOr dListOf dListStr) (aCons (oN 3) aNil)) vNil)) vNil)))))) sNil)
def lb1_l_roads (C : Addr) : Sv := (sFor (iRange2 (oE (e2 dAdd (oN 5) (oC (.int 1)))) (oN 1)) (gN 6) (lb0_l_roads C))
def sv_l_roads (C : Addr) : Sv := (sCons (sPar [2, 3, 4] (lCons (eMut 0 (F_l_one_of C) (vCons (eLst (vCons (eC (.int 2)) (vCons (eC (.int 3)) (vCons (eC (.int 4)) (vCons (eC (.int 5)) vNil))))) vNil)) (lCons (eMut 0 (F_l_one_of C) (vCons (eLst (vCons (eC (.str "ab")) (vCons (eC (.str "ab")) (vCons (eC (.str "abc")) (vCons (eC (.str "abcdef")) vNil))))) vNil)) (lCons (eLst vNil) lNil)))) (sCons (sFor (iRange1 (oN 1)) (gN 5) (lb1_l_roads C)) (sRet (eCB dTupOf (aCons (oN 4) aNil)))))
def F_l_roads (C : Addr) : Own → List D → FO × Own := runM 7 (sv_l_roads C)
def lb0_l_hues (C : Addr) : Sv := (sCons (sDput 1 (eN 4) (oE (eTup (vCons (eN 2) (vCons (eN 3) vNil))))) (sDput 1 (eN 4) (oE (eTup (vCons (eN 3) (vCons (eN 2) vNil))))))
def sv_l_hues (C : Addr) : Sv := (sCons (sSet 1 eDT) (sCons (sFor (iSeq (eN 0)) (gT [(gN 2), (gN 3), (gN 4)]) (lb0_l_hues C)) (sRet (eN 1))))
def F_l_hues (C : Addr) : List D → FO := runP 5 (sv_l_hues C)
def ce0_l_text (C : Addr) : Ev Rv := (e2 dAdd (oE (e2 dAdd (oE (e2 dAdd (oE (eCB dStr (aCons (oN 2) aNil))) (oC (.str "-")))) (oE (eCB dStr (aCons (oN 3) aNil))))) (oN 4))
def sv_l_text (C : Addr) : Sv := (sRet (eMt "str" dJoin (oC (.str " ")) (aCons (oE (e2 dAdd (oE (eLst (vCons (e2 dAdd (oE (eCB dStr (aCons (oN 0) aNil))) (oC (.str ":"))) vNil))) (oE (eComp (iSeq (eN 1)) (gT [(gN 2), (gN 3), (gN 4)]) tT (ce0_l_text C) [2, 3, 4])))) aNil)))
def F_l_text (C : Addr) : List D → FO := runP 5 (sv_l_text C)
def sv_is_integer (C : Addr) : Sv := (sRet (eAnd (e1 (dIsi (isT "int" false)) (oN 0)) (eNot (e1 (dIsi (isT "bool" false)) (oN 0)))))
def F_is_integer (C : Addr) : List D → FO := runP 1 (sv_is_integer C)
def sv_is_integer_from (C : Addr) : Sv := (sRet (eAnd (eCall (F_is_integer C) [0] (vCons (eN 0) vNil) vNil) (e3 (dOr2 dLe dLeT) (dOr2 dLe dLeT) (oN 1) (oN 0) (oN 2))))
def F_is_integer_from (C : Addr) : List D → FO := runP 3 (sv_is_integer_from C)
def sv_is_size (C : Addr) : Sv := (sRet (eCall (F_is_integer_from C) [0, 1, 2] (vCons (eN 0) (vCons (eC (.int 1)) (vCons (eC (.int 9)) vNil))) vNil))
def F_is_size (C : Addr) : List D → FO := runP 1 (sv_is_size C)
def sv_is_place (C : Addr) : Sv := (sRet (eCall (F_is_integer_from C) [0, 1, 2] (vCons (eN 0) (vCons (eC (.int 0)) (vCons (e2 dSub (oN 1) (oC (.int 1))) vNil))) vNil))
def F_is_place (C : Addr) : List D → FO := runP 2 (sv_is_place C)
def sv_is_hue (C : Addr) : Sv := (sRet (eAnd (e1 (dIsi (isT "str" false)) (oN 0)) (eAnd (e2 dEq (oE (eCB dLen (aCons (oN 0) aNil))) (oC (.int 1))) (e2 (dInF id) (oN 0) (oC (.str "abcdef"))))))
def F_is_hue (C : Addr) : List D → FO := runP 1 (sv_is_hue C)
def sv_is_road (C : Addr) : Sv := (sCons (sIf (tOrE (tNotE (tTr (oE (e1 (dIsi (isT "tuple" false)) (oN 0))))) (tv (e2 dNe (oE (eCB dLen (aCons (oN 0) aNil))) (oC (.int 3))))) (sRet (eC (.bl false))) sNil) (sCons (sTgt (gT [(gN 2), (gN 3), (gN 4)]) (eN 0)) (sRet (eAnd (eCall (F_is_place C) [0, 1] (vCons (eN 2) (vCons (eN 1) vNil)) vNil) (eAnd (eCall (F_is_place C) [0, 1] (vCons (eN 3) (vCons (eN 1) vNil)) vNil) (eAnd (e2 dLt (oN 2) (oN 3)) (eCall (F_is_hue C) [0] (vCons (eN 4) vNil) vNil)))))))
def F_is_road (C : Addr) : List D → FO := runP 5 (sv_is_road C)
def lb0_first_wrong_road (C : Addr) : Sv := (sCons (sIf (tNotE (tTr (oE (eCall (F_is_road C) [0, 1] (vCons (eN 3) (vCons (eN 1) vNil)) vNil)))) (sRet (eN 2)) sNil) (sIf (tAndE (tv (e2 dGt (oN 2) (oC (.int 0)))) (tv (e2 (dOr2 dLe dLeT) (oE (eSl (oN 3) pNone (pSome (oC (.int 2))))) (oE (eSl (oE (eIx (oN 0) (oE (e2 dSub (oN 2) (oC (.int 1)))))) pNone (pSome (oC (.int 2)))))))) (sRet (eN 2)) sNil))
def sv_first_wrong_road (C : Addr) : Sv := (sCons (sFor (iEn (eN 0)) (gT [(gN 2), (gN 3)]) (lb0_first_wrong_road C)) (sRet (eC .non)))
def F_first_wrong_road (C : Addr) : List D → FO := runP 4 (sv_first_wrong_road C)
def ce0_NetD_initD (C : Addr) : Ev Rv := (eN 6)
def ck1_NetD_initD (C : Addr) : Ev Rv := (eTup (vCons (eN 4) (vCons (eN 5) vNil)))
def sv_NetD_initD (C : Addr) : Sv := (sCons (sIf (tNotE (tTr (oE (eCall (F_is_size C) [0] (vCons (eN 1) vNil) vNil)))) sStk sNil) (sCons (sIf (tNotE (tTr (oE (e1 (dIsi (isT "tuple" false)) (oN 2))))) sStk sNil) (sCons (sSet 3 (eCall (F_first_wrong_road C) [0, 1] (vCons (eN 2) (vCons (eN 1) vNil)) vNil)) (sCons (sIf (tv (e2 dNotN (oN 3) (oC .non))) sStk sNil) (sCons (sFldC C 0 "_size" (eN 1)) (sCons (sFldC C 0 "_roads" (eN 2)) (sFldC C 0 "_hues" (eDc (iSeq (eN 2)) (gT [(gN 4), (gN 5), (gN 6)]) tT (ck1_NetD_initD C) (ce0_NetD_initD C) [4, 5, 6]))))))))
def F_NetD_initD (C : Addr) : Own → List D → FO × Own := runM 7 (sv_NetD_initD C)
def sv_NetD_reprD (C : Addr) : Sv := (sRet (eJs [oC (.str "Net of "), oFmt (oE (e1 (dFld C "_size") (oN 0))), oC (.str " places")]))
def F_NetD_reprD (C : Addr) : List D → FO := runP 1 (sv_NetD_reprD C)
def ce0_NetD_strD (C : Addr) : Ev Rv := (eJs [oFmt (oN 2), oC (.str "-"), oFmt (oN 3), oFmt (oN 4)])
def sv_NetD_strD (C : Addr) : Sv := (sCons (sSet 1 (eComp (iSeq (e1 (dFld C "_roads") (oN 0))) (gT [(gN 2), (gN 3), (gN 4)]) tT (ce0_NetD_strD C) [2, 3, 4])) (sRet (eMt "str" dJoin (oC (.str " ")) (aCons (oE (eLst (vCons (eJs [oFmt (oE (e1 (dFld C "_size") (oN 0))), oC (.str ":")]) (vStar (eN 1) vNil)))) aNil))))
def F_NetD_strD (C : Addr) : List D → FO := runP 5 (sv_NetD_strD C)
def sv_NetD_lenD (C : Addr) : Sv := (sRet (eCB dLen (aCons (oE (e1 (dFld C "_roads") (oN 0))) aNil)))
def F_NetD_lenD (C : Addr) : List D → FO := runP 1 (sv_NetD_lenD C)
def sv_Net_roads (C : Addr) : Sv := (sRet (e1 (dFld C "_roads") (oN 0)))
def F_Net_roads (C : Addr) : List D → FO := runP 1 (sv_Net_roads C)
def sv_Net_size (C : Addr) : Sv := (sRet (e1 (dFld C "_size") (oN 0)))
def F_Net_size (C : Addr) : List D → FO := runP 1 (sv_Net_size C)
def sv_size_in (C : Addr) : Sv := (sCons (sIf (tOrE (tv (e2 dNe (oE (eCB dLen (aCons (oN 0) aNil))) (oC (.int 2)))) (tOrE (tv (e2 (dInF (!·)) (oE (eIx (oN 0) (oC (.int 0)))) (oC (.str "0123456789")))) (tv (e2 dNe (oE (eIx (oN 0) (oC (.int 1)))) (oC (.str ":")))))) (sRet (eC .non)) sNil) (sRet (eCB dInt (aCons (oE (eIx (oN 0) (oC (.int 0)))) aNil))))
def F_size_in (C : Addr) : List D → FO := runP 1 (sv_size_in C)
def sv_road_in (C : Addr) : Sv := (sCons (sIf (tOrE (tv (e2 dNe (oE (eCB dLen (aCons (oN 0) aNil))) (oC (.int 4)))) (tOrE (tv (e2 (dInF (!·)) (oE (eIx (oN 0) (oC (.int 0)))) (oC (.str "0123456789")))) (tOrE (tv (e2 dNe (oE (eIx (oN 0) (oC (.int 1)))) (oC (.str "-")))) (tv (e2 (dInF (!·)) (oE (eIx (oN 0) (oC (.int 2)))) (oC (.str "0123456789"))))))) (sRet (eC .non)) sNil) (sRet (eTup (vCons (eCB dInt (aCons (oE (eIx (oN 0) (oC (.int 0)))) aNil)) (vCons (eCB dInt (aCons (oE (eIx (oN 0) (oC (.int 2)))) aNil)) (vCons (eIx (oN 0) (oC (.int 3))) vNil))))))
def F_road_in (C : Addr) : List D → FO := runP 1 (sv_road_in C)
def ce0_Net_read (C : Addr) : Ev Rv := (eCall (F_road_in C) [0] (vCons (eN 4) vNil) vNil)
def sv_Net_read (C : Addr) : Sv := (sCons (sIf (tNotE (tTr (oE (e1 (dIsi (isT "str" false)) (oN 0))))) sStk sNil) (sCons (sSet 1 (eMt "str" dSplit (oN 0) (aCons (oC (.str " ")) aNil))) (sCons (sSet 2 (eCall (F_size_in C) [0] (vCons (eIx (oN 1) (oC (.int 0))) vNil) vNil)) (sCons (sSet 3 (eCB dTupOf (aCons (oE (eComp (iSeq (eSl (oN 1) (pSome (oC (.int 1))) pNone)) (gN 4) tT (ce0_Net_read C) [4])) aNil))) (sCons (sIf (tOrE (tNotE (tTr (oE (eCall (F_is_size C) [0] (vCons (eN 2) vNil) vNil)))) (tv (e2 dNotN (oE (eCall (F_first_wrong_road C) [0, 1] (vCons (eN 3) (vCons (eN 2) vNil)) vNil)) (oC .non)))) sStk sNil) (sRet (eMake C (F_NetD_initD C) [0, 1] (vCons (eN 2) (vCons (eN 3) vNil)) vNil)))))))
def F_Net_read (C : Addr) : List D → FO := runP 5 (sv_Net_read C)
def sv_NetD_eqD (C : Addr) : Sv := (sRet (eAnd (e1 (dIsi (isC C)) (oN 1)) (eAnd (e2 dEq (oE (e1 (dFld C "_size") (oN 0))) (oE (e1 (dFld C "_size") (oN 1)))) (e2 dEq (oE (e1 (dFld C "_roads") (oN 0))) (oE (e1 (dFld C "_roads") (oN 1)))))))
def F_NetD_eqD (C : Addr) : List D → FO := runP 2 (sv_NetD_eqD C)
def sv_NetD_boolD (C : Addr) : Sv := (sRet (eC (.bl true)))
def F_NetD_boolD (C : Addr) : List D → FO := runP 1 (sv_NetD_boolD C)
def sv_need_place (C : Addr) : Sv := (sIf (tNotE (tTr (oE (eCall (F_is_place C) [0, 1] (vCons (eN 0) (vCons (eN 1) vNil)) vNil)))) sStk sNil)
def F_need_place (C : Addr) : List D → FO := runP 2 (sv_need_place C)
def ce0_Net_roads_at (C : Addr) : Ev Rv := (eTup (vCons (eN 3) (vCons (eN 5) vNil)))
def ct1_Net_roads_at (C : Addr) : Ev Bool := (tv (e2 dEq (oN 4) (oN 1)))
def ce2_Net_roads_at (C : Addr) : Ev Rv := (eTup (vCons (eN 4) (vCons (eN 5) vNil)))
def ct3_Net_roads_at (C : Addr) : Ev Bool := (tv (e2 dEq (oN 3) (oN 1)))
def sv_Net_roads_at (C : Addr) : Sv := (sCons (sDrop (eCall (F_need_place C) [0, 1] (vCons (eN 1) (vCons (e1 (dFld C "_size") (oN 0)) vNil)) vNil)) (sCons (sSet 2 (eComp (iSeq (e1 (dFld C "_roads") (oN 0))) (gT [(gN 3), (gN 4), (gN 5)]) (ct1_Net_roads_at C) (ce0_Net_roads_at C) [3, 4, 5])) (sCons (sSet 6 (eComp (iSeq (e1 (dFld C "_roads") (oN 0))) (gT [(gN 3), (gN 4), (gN 5)]) (ct3_Net_roads_at C) (ce2_Net_roads_at C) [3, 4, 5])) (sRet (eTup (vStar (eN 2) (vStar (eN 6) vNil)))))))
def F_Net_roads_at (C : Addr) : List D → FO := runP 7 (sv_Net_roads_at C)
def sv_pair_of (C : Addr) : Sv := (sRet (eTup (vCons (eCB dMin (aCons (oN 0) (aCons (oN 1) aNil))) (vCons (eCB dMax (aCons (oN 0) (aCons (oN 1) aNil))) vNil))))
def F_pair_of (C : Addr) : List D → FO := runP 2 (sv_pair_of C)
def sv_Net_hue (C : Addr) : Sv := (sCons (sDrop (eCall (F_need_place C) [0, 1] (vCons (eN 1) (vCons (e1 (dFld C "_size") (oN 0)) vNil)) vNil)) (sCons (sDrop (eCall (F_need_place C) [0, 1] (vCons (eN 2) (vCons (e1 (dFld C "_size") (oN 0)) vNil)) vNil)) (sRet (eGet1 (oE (e1 (dFld C "_hues") (oN 0))) (oE (eCall (F_pair_of C) [0, 1] (vCons (eN 1) (vCons (eN 2) vNil)) vNil))))))
def F_Net_hue (C : Addr) : List D → FO := runP 3 (sv_Net_hue C)
def ce0_l_right (C : Addr) : Ev Rv := (eTup (vCons (eN 11) (vCons (eIx (oN 9) (oE (eTup (vCons (eN 6) (vCons (eN 11) vNil))))) vNil)))
def ct1_l_right (C : Addr) : Ev Bool := (tv (e2 (dInF id) (oE (eTup (vCons (eN 6) (vCons (eN 11) vNil)))) (oN 9)))
def lb2_l_right (C : Addr) : Sv := (sIf (tv (e2 dNe (oE (eCB (dOr (dOwn1 C (F_NetD_reprD C) isStrD) dRepr) (aCons (oE (eLst (vCons (eMeth C "hue" (F_Net_hue C) [0, 1, 2] (eN 7) (vCons (eN 6) (vCons (eN 11) vNil)) vNil) (vCons (eMeth C "hue" (F_Net_hue C) [0, 2, 1] (eN 7) vNil (vCons (eN 11) (vCons (eN 6) vNil))) vNil)))) aNil))) (oE (eCB (dOr (dOwn1 C (F_NetD_reprD C) isStrD) dRepr) (aCons (oE (e2 dMul (oE (eLst (vCons (eGet1 (oN 9) (oE (eTup (vCons (eN 6) (vCons (eN 11) vNil))))) vNil))) (oC (.int 2)))) aNil))))) (sRet (eC (.bl false))) sNil)
def lb3_l_right (C : Addr) : Sv := (sCons (sSet 10 (eCB dTupOf (aCons (oE (eComp (iRange1 (oN 3)) (gN 11) (ct1_l_right C) (ce0_l_right C) [11])) aNil))) (sCons (sIf (tv (e2 dNe (oE (eCB (dOr (dOwn1 C (F_NetD_reprD C) isStrD) dRepr) (aCons (oE (eLst (vCons (eMeth C "roads_at" (F_Net_roads_at C) [0, 1] (eN 7) (vCons (eN 6) vNil) vNil) (vCons (eMeth C "roads_at" (F_Net_roads_at C) [0, 1] (eN 7) vNil (vCons (eN 6) vNil)) vNil)))) aNil))) (oE (eCB (dOr (dOwn1 C (F_NetD_reprD C) isStrD) dRepr) (aCons (oE (eLst (vCons (eN 10) (vCons (eN 10) vNil)))) aNil))))) (sRet (eC (.bl false))) sNil) (sFor (iRange1 (oN 3)) (gN 11) (lb2_l_right C))))
def lb4_l_right (C : Addr) : Sv := (sCons (sSet 3 (e2 dAdd (oC (.int 1)) (oE (eMut 0 (F_l_dip C) (vCons (eC (.int 9)) vNil))))) (sCons (sSet 4 (eMut 0 (F_l_roads C) (vCons (eN 3) vNil))) (sCons (sPar [7, 8, 9] (lCons (eMake C (F_NetD_initD C) [0, 1] (vCons (eN 3) (vCons (eN 4) vNil)) vNil) (lCons (eCall (F_l_text C) [0, 1] (vCons (eN 3) (vCons (eN 4) vNil)) vNil) (lCons (eCall (F_l_hues C) [0] (vCons (eN 4) vNil) vNil) lNil)))) (sCons (sSet 5 (eLst (vCons (eProp C (F_Net_size C) (eN 7)) (vCons (eProp C (F_Net_roads C) (eN 7)) (vCons (eCB (dOr (dOwn1 C (F_NetD_lenD C) isNat63) dLen) (aCons (oN 7) aNil)) (vCons (eCB (dOr (dOwn1 C (F_NetD_strD C) isStrD) dStr) (aCons (oN 7) aNil)) (vCons (eCB (dOr (dOwn1 C (F_NetD_reprD C) isStrD) dRepr) (aCons (oN 7) aNil)) vNil))))))) (sCons (sIf (tv (e2 dNe (oE (eCB (dOr (dOwn1 C (F_NetD_reprD C) isStrD) dRepr) (aCons (oN 5) aNil))) (oE (eCB (dOr (dOwn1 C (F_NetD_reprD C) isStrD) dRepr) (aCons (oE (eLst (vCons (eN 3) (vCons (eN 4) (vCons (eCB (dOr (dOwn1 C (F_NetD_lenD C) isNat63) dLen) (aCons (oN 4) aNil)) (vCons (eN 8) (vCons (e2 dAdd (oE (e2 dAdd (oC (.str "Net of ")) (oE (eCB (dOr (dOwn1 C (F_NetD_strD C) isStrD) dStr) (aCons (oN 3) aNil))))) (oC (.str " places"))) vNil))))))) aNil))))) (sRet (eC (.bl false))) sNil) (sCons (sIf (tOrE (tv (e2 (dOr2 (dOwn2 C (F_NetD_eqD C) true) dNe) (oE (eCall (F_Net_read C) [0] (vCons (eN 8) vNil) vNil)) (oN 7))) (tOrE (tv (e2 (dOr2 (dOwn2 C (F_NetD_eqD C) true) dNe) (oE (eCall (F_Net_read C) [0] vNil (vCons (eN 8) vNil))) (oE (eMake C (F_NetD_initD C) [1, 0] vNil (vCons (eN 4) (vCons (eN 3) vNil)))))) (tOrE (tNotE (tTrO C (F_NetD_boolD C) (oN 7))) (tv (e2 (dOr2 (dOwn2 C (F_NetD_eqD C) false) dEq) (oN 7) (oN 8)))))) (sRet (eC (.bl false))) sNil) (sCons (sFor (iRange1 (oN 3)) (gN 6) (lb3_l_right C)) (sDrop (eApp 1 (eN 7))))))))))
def ce5_l_right (C : Addr) : Ev Rv := (e2 dEq (oE (e2 (dOr2 (dOwn2 C (F_NetD_eqD C) false) dEq) (oN 12) (oN 13))) (oE (e2 dEq (oE (eCB (dOr (dOwn1 C (F_NetD_strD C) isStrD) dStr) (aCons (oN 12) aNil))) (oE (eCB (dOr (dOwn1 C (F_NetD_strD C) isStrD) dStr) (aCons (oN 13) aNil))))))
def lb6_l_right (C : Addr) : Sv := (sIf (tv (e2 dNe (oE (eComp (iSeq (eN 1)) (gN 13) tT (ce5_l_right C) [13])) (oE (e2 dMul (oE (eLst (vCons (eC (.bl true)) vNil))) (oC (.int 5)))))) (sRet (eC (.bl false))) sNil)
def sv_l_right (C : Addr) : Sv := (sCons (sSet 1 (eLst vNil)) (sCons (sFor (iRange1 (oC (.int 5))) (gN 2) (lb4_l_right C)) (sCons (sFor (iSeq (eN 1)) (gN 12) (lb6_l_right C)) (sRet (eC (.bl true))))))
def F_l_right (C : Addr) : Own → List D → FO × Own := runM 14 (sv_l_right C)
def lb0_l_jar (C : Addr) : Sv := (sSet 3 (e2 dMod (oE (eCB dInt (aCons (oE (e2 dAdd (oE (e2 dMul (oN 3) (oC (.int 20011)))) (oN 4))) aNil))) (oC (.int 2147482763))))
def sv_l_jar (C : Addr) : Sv := (sCons (sSet 2 (eIf (tv (e2 dLt (oN 1) (oE (eCB dLen (aCons (oN 0) aNil))))) (eIx (oN 0) (oN 1)) (e2 dAdd (oE (e2 dMul (oC (.int 37)) (oN 1))) (oC (.int 3))))) (sCons (sSet 3 (e2 dAdd (oC (.int 70003)) (oE (e2 dMul (oC (.int 9001)) (oN 1))))) (sCons (sFor (iSeq (e2 dAdd (oE (eSl (oN 0) pNone (pSome (oC (.int 5))))) (oE (eLst (vCons (eN 2) vNil))))) (gN 4) (lb0_l_jar C)) (sRet (eLst (vCons (eIf (tOrE (tv (e2 dLt (oN 2) (oC (.int 0)))) (tv (e2 dGe (oN 2) (oE (e2 dPow (oC (.int 10)) (oC (.int 18))))))) (eCB dAbs (aCons (oN 2) aNil)) (eC (.int 0))) (vCons (eN 3) (vCons (eC (.int 0)) vNil))))))))
def F_l_jar (C : Addr) : List D → FO := runP 5 (sv_l_jar C)
def ce0_law (C : Addr) : Ev Rv := (eMut1 (F_l_right C) (eCall (F_l_jar C) [0, 1] (vCons (eN 0) (vCons (eN 1) vNil)) vNil))
def sv_law (C : Addr) : Sv := (sRet (eCB dAll (aCons (oE (eComp (iRange1 (oE (eCB dMax (aCons (oC (.int 2)) (aCons (oE (eCB dMin (aCons (oE (eCB dLen (aCons (oN 0) aNil))) (aCons (oC (.int 6)) aNil)))) aNil))))) (gN 1) tT (ce0_law C) [1])) aNil)))
def F_law (C : Addr) : List D → FO := runP 2 (sv_law C)
structure Tp (K : PySem.W.Frag) (mg : Str → Option Value) where
  aNet : Addr
  a_l_dip : Addr
  fd_l_dip : FuncData
  F_l_dip : Fun K "_law_dip" "_law_dip" st_l_dip a_l_dip fd_l_dip
  g_l_dip : mg "_law_dip" = some (.ref a_l_dip)
  a_l_one_of : Addr
  fd_l_one_of : FuncData
  F_l_one_of : Fun K "_law_one_of" "_law_one_of" st_l_one_of a_l_one_of fd_l_one_of
  g_l_one_of : mg "_law_one_of" = some (.ref a_l_one_of)
  a_l_roads : Addr
  fd_l_roads : FuncData
  F_l_roads : Fun K "_law_roads" "_law_roads" st_l_roads a_l_roads fd_l_roads
  g_l_roads : mg "_law_roads" = some (.ref a_l_roads)
  a_l_hues : Addr
  fd_l_hues : FuncData
  F_l_hues : Fun K "_law_hues" "_law_hues" st_l_hues a_l_hues fd_l_hues
  g_l_hues : mg "_law_hues" = some (.ref a_l_hues)
  a_l_text : Addr
  fd_l_text : FuncData
  F_l_text : Fun K "_law_text" "_law_text" st_l_text a_l_text fd_l_text
  g_l_text : mg "_law_text" = some (.ref a_l_text)
  a_is_integer : Addr
  fd_is_integer : FuncData
  F_is_integer : Fun K "is_integer" "is_integer" st_is_integer a_is_integer fd_is_integer
  g_is_integer : mg "is_integer" = some (.ref a_is_integer)
  a_is_integer_from : Addr
  fd_is_integer_from : FuncData
  F_is_integer_from : Fun K "is_integer_from" "is_integer_from" st_is_integer_from a_is_integer_from fd_is_integer_from
  g_is_integer_from : mg "is_integer_from" = some (.ref a_is_integer_from)
  a_is_size : Addr
  fd_is_size : FuncData
  F_is_size : Fun K "is_size" "is_size" st_is_size a_is_size fd_is_size
  g_is_size : mg "is_size" = some (.ref a_is_size)
  a_is_place : Addr
  fd_is_place : FuncData
  F_is_place : Fun K "is_place" "is_place" st_is_place a_is_place fd_is_place
  g_is_place : mg "is_place" = some (.ref a_is_place)
  a_is_hue : Addr
  fd_is_hue : FuncData
  F_is_hue : Fun K "is_hue" "is_hue" st_is_hue a_is_hue fd_is_hue
  g_is_hue : mg "is_hue" = some (.ref a_is_hue)
  a_is_road : Addr
  fd_is_road : FuncData
  F_is_road : Fun K "is_road" "is_road" st_is_road a_is_road fd_is_road
  g_is_road : mg "is_road" = some (.ref a_is_road)
  a_first_wrong_road : Addr
  fd_first_wrong_road : FuncData
  F_first_wrong_road : Fun K "first_wrong_road" "first_wrong_road" st_first_wrong_road a_first_wrong_road fd_first_wrong_road
  g_first_wrong_road : mg "first_wrong_road" = some (.ref a_first_wrong_road)
  a_NetD_initD : Addr
  fd_NetD_initD : FuncData
  F_NetD_initD : Fun K "__init__" "Net.__init__" st_NetD_initD a_NetD_initD fd_NetD_initD
  at_NetD_initD : PySem.W.findIn K (.ref aNet) "__init__" = some (some (.ref a_NetD_initD))
  fn_NetD_initD : PySem.W.isFn K (.ref a_NetD_initD) = true
  a_NetD_reprD : Addr
  fd_NetD_reprD : FuncData
  F_NetD_reprD : Fun K "__repr__" "Net.__repr__" st_NetD_reprD a_NetD_reprD fd_NetD_reprD
  at_NetD_reprD : PySem.W.findIn K (.ref aNet) "__repr__" = some (some (.ref a_NetD_reprD))
  fn_NetD_reprD : PySem.W.isFn K (.ref a_NetD_reprD) = true
  a_NetD_strD : Addr
  fd_NetD_strD : FuncData
  F_NetD_strD : Fun K "__str__" "Net.__str__" st_NetD_strD a_NetD_strD fd_NetD_strD
  at_NetD_strD : PySem.W.findIn K (.ref aNet) "__str__" = some (some (.ref a_NetD_strD))
  fn_NetD_strD : PySem.W.isFn K (.ref a_NetD_strD) = true
  a_NetD_lenD : Addr
  fd_NetD_lenD : FuncData
  F_NetD_lenD : Fun K "__len__" "Net.__len__" st_NetD_lenD a_NetD_lenD fd_NetD_lenD
  at_NetD_lenD : PySem.W.findIn K (.ref aNet) "__len__" = some (some (.ref a_NetD_lenD))
  fn_NetD_lenD : PySem.W.isFn K (.ref a_NetD_lenD) = true
  a_Net_roads : Addr
  fd_Net_roads : FuncData
  F_Net_roads : Fun K "roads" "Net.roads" st_Net_roads a_Net_roads fd_Net_roads
  p_Net_roads : Addr
  prop_Net_roads : PropOf K aNet "roads" p_Net_roads a_Net_roads
  a_Net_size : Addr
  fd_Net_size : FuncData
  F_Net_size : Fun K "size" "Net.size" st_Net_size a_Net_size fd_Net_size
  p_Net_size : Addr
  prop_Net_size : PropOf K aNet "size" p_Net_size a_Net_size
  a_size_in : Addr
  fd_size_in : FuncData
  F_size_in : Fun K "size_in" "size_in" st_size_in a_size_in fd_size_in
  g_size_in : mg "size_in" = some (.ref a_size_in)
  a_road_in : Addr
  fd_road_in : FuncData
  F_road_in : Fun K "road_in" "road_in" st_road_in a_road_in fd_road_in
  g_road_in : mg "road_in" = some (.ref a_road_in)
  a_Net_read : Addr
  fd_Net_read : FuncData
  F_Net_read : Fun K "read" "Net.read" st_Net_read a_Net_read fd_Net_read
  p_Net_read : Addr
  sta_Net_read : StaC K aNet "read" p_Net_read a_Net_read
  a_NetD_eqD : Addr
  fd_NetD_eqD : FuncData
  F_NetD_eqD : Fun K "__eq__" "Net.__eq__" st_NetD_eqD a_NetD_eqD fd_NetD_eqD
  at_NetD_eqD : PySem.W.findIn K (.ref aNet) "__eq__" = some (some (.ref a_NetD_eqD))
  fn_NetD_eqD : PySem.W.isFn K (.ref a_NetD_eqD) = true
  a_NetD_boolD : Addr
  fd_NetD_boolD : FuncData
  F_NetD_boolD : Fun K "__bool__" "Net.__bool__" st_NetD_boolD a_NetD_boolD fd_NetD_boolD
  at_NetD_boolD : PySem.W.findIn K (.ref aNet) "__bool__" = some (some (.ref a_NetD_boolD))
  fn_NetD_boolD : PySem.W.isFn K (.ref a_NetD_boolD) = true
  a_need_place : Addr
  fd_need_place : FuncData
  F_need_place : Fun K "need_place" "need_place" st_need_place a_need_place fd_need_place
  g_need_place : mg "need_place" = some (.ref a_need_place)
  a_Net_roads_at : Addr
  fd_Net_roads_at : FuncData
  F_Net_roads_at : Fun K "roads_at" "Net.roads_at" st_Net_roads_at a_Net_roads_at fd_Net_roads_at
  at_Net_roads_at : PySem.W.findIn K (.ref aNet) "roads_at" = some (some (.ref a_Net_roads_at))
  fn_Net_roads_at : PySem.W.isFn K (.ref a_Net_roads_at) = true
  a_pair_of : Addr
  fd_pair_of : FuncData
  F_pair_of : Fun K "pair_of" "pair_of" st_pair_of a_pair_of fd_pair_of
  g_pair_of : mg "pair_of" = some (.ref a_pair_of)
  a_Net_hue : Addr
  fd_Net_hue : FuncData
  F_Net_hue : Fun K "hue" "Net.hue" st_Net_hue a_Net_hue fd_Net_hue
  at_Net_hue : PySem.W.findIn K (.ref aNet) "hue" = some (some (.ref a_Net_hue))
  fn_Net_hue : PySem.W.isFn K (.ref a_Net_hue) = true
  a_l_right : Addr
  fd_l_right : FuncData
  F_l_right : Fun K "_law_right" "_law_right" st_l_right a_l_right fd_l_right
  g_l_right : mg "_law_right" = some (.ref a_l_right)
  a_l_jar : Addr
  fd_l_jar : FuncData
  F_l_jar : Fun K "_law_jar" "_law_jar" st_l_jar a_l_jar fd_l_jar
  g_l_jar : mg "_law_jar" = some (.ref a_l_jar)
  a_law : Addr
  fd_law : FuncData
  F_law : Fun K "law" "law" st_law a_law fd_law
  g_law : mg "law" = some (.ref a_law)
  g_Net : mg "Net" = some (.ref aNet)
  ins : InsK K aNet
  makes : PySem.W.makesIn K aNet = true
  kpNet : PySem.W.keepIn K (.ref aNet) = true
  nf : ∀ T ∈ ["NoneType", "bool", "int", "str", "tuple", "list", "dict"], PySem.W.notFirst K aNet (.type T) = true
  kit_C : ∀ n ∈ ["NoneType", "bool", "int", "str", "tuple", "list", "dict"], PySem.W.kitOne K (.type n) (.ref aNet) = some false
  ne_Net : PySem.W.findIn K (.ref aNet) "__ne__" = some (some (.builtin "object.__ne__"))
  c_DIGITS : ∃ t, mg "DIGITS" = some (.str "0123456789" t)
  c_HUES : ∃ t, mg "HUES" = some (.str "abcdef" t)
  c_MOST_PLACES : ∃ t, mg "MOST_PLACES" = some (.int 9 t)
  na__hues : NoAttr K aNet "_hues"
  na__roads : NoAttr K aNet "_roads"
  na__size : NoAttr K aNet "_size"
  n_abs : mg "abs" = none
  n_all : mg "all" = none
  n_bool : mg "bool" = none
  n_divmod : mg "divmod" = none
  n_enumerate : mg "enumerate" = none
  n_int : mg "int" = none
  n_isinstance : mg "isinstance" = none
  n_len : mg "len" = none
  n_list : mg "list" = none
  n_max : mg "max" = none
  n_min : mg "min" = none
  n_range : mg "range" = none
  n_repr : mg "repr" = none
  n_str : mg "str" = none
  n_tuple : mg "tuple" = none
section
variable {P : Program} {w : World} {K : PySem.W.Frag} {mg : Str → Option Value} {base : Heap}
theorem Tp.kp_l_dip (T : Tp K mg) : PySem.W.keepIn K (.ref T.a_l_dip) = true := T.F_l_dip.kp
theorem Tp.kp_l_one_of (T : Tp K mg) : PySem.W.keepIn K (.ref T.a_l_one_of) = true := T.F_l_one_of.kp
theorem Tp.kp_l_roads (T : Tp K mg) : PySem.W.keepIn K (.ref T.a_l_roads) = true := T.F_l_roads.kp
theorem Tp.kp_l_hues (T : Tp K mg) : PySem.W.keepIn K (.ref T.a_l_hues) = true := T.F_l_hues.kp
theorem Tp.kp_l_text (T : Tp K mg) : PySem.W.keepIn K (.ref T.a_l_text) = true := T.F_l_text.kp
theorem Tp.kp_is_integer (T : Tp K mg) : PySem.W.keepIn K (.ref T.a_is_integer) = true := T.F_is_integer.kp
theorem Tp.kp_is_integer_from (T : Tp K mg) : PySem.W.keepIn K (.ref T.a_is_integer_from) = true := T.F_is_integer_from.kp
theorem Tp.kp_is_size (T : Tp K mg) : PySem.W.keepIn K (.ref T.a_is_size) = true := T.F_is_size.kp
theorem Tp.kp_is_place (T : Tp K mg) : PySem.W.keepIn K (.ref T.a_is_place) = true := T.F_is_place.kp
theorem Tp.kp_is_hue (T : Tp K mg) : PySem.W.keepIn K (.ref T.a_is_hue) = true := T.F_is_hue.kp
theorem Tp.kp_is_road (T : Tp K mg) : PySem.W.keepIn K (.ref T.a_is_road) = true := T.F_is_road.kp
theorem Tp.kp_first_wrong_road (T : Tp K mg) : PySem.W.keepIn K (.ref T.a_first_wrong_road) = true := T.F_first_wrong_road.kp
theorem Tp.me_NetD_initD (T : Tp K mg) : Meth K T.aNet "__init__" T.a_NetD_initD := ⟨T.at_NetD_initD, T.fn_NetD_initD, T.F_NetD_initD.kp⟩
theorem Tp.kp_NetD_initD (T : Tp K mg) : PySem.W.keepIn K (.ref T.a_NetD_initD) = true := T.F_NetD_initD.kp
theorem Tp.mkN (T : Tp K mg) : Mk K T.aNet T.a_NetD_initD := ⟨T.makes, T.at_NetD_initD, T.fn_NetD_initD, T.kpNet⟩
theorem Tp.me_NetD_reprD (T : Tp K mg) : Meth K T.aNet "__repr__" T.a_NetD_reprD := ⟨T.at_NetD_reprD, T.fn_NetD_reprD, T.F_NetD_reprD.kp⟩
theorem Tp.kp_NetD_reprD (T : Tp K mg) : PySem.W.keepIn K (.ref T.a_NetD_reprD) = true := T.F_NetD_reprD.kp
theorem Tp.me_NetD_strD (T : Tp K mg) : Meth K T.aNet "__str__" T.a_NetD_strD := ⟨T.at_NetD_strD, T.fn_NetD_strD, T.F_NetD_strD.kp⟩
theorem Tp.kp_NetD_strD (T : Tp K mg) : PySem.W.keepIn K (.ref T.a_NetD_strD) = true := T.F_NetD_strD.kp
theorem Tp.me_NetD_lenD (T : Tp K mg) : Meth K T.aNet "__len__" T.a_NetD_lenD := ⟨T.at_NetD_lenD, T.fn_NetD_lenD, T.F_NetD_lenD.kp⟩
theorem Tp.kp_NetD_lenD (T : Tp K mg) : PySem.W.keepIn K (.ref T.a_NetD_lenD) = true := T.F_NetD_lenD.kp
theorem Tp.kp_Net_roads (T : Tp K mg) : PySem.W.keepIn K (.ref T.a_Net_roads) = true := T.F_Net_roads.kp
theorem Tp.kp_Net_size (T : Tp K mg) : PySem.W.keepIn K (.ref T.a_Net_size) = true := T.F_Net_size.kp
theorem Tp.kp_size_in (T : Tp K mg) : PySem.W.keepIn K (.ref T.a_size_in) = true := T.F_size_in.kp
theorem Tp.kp_road_in (T : Tp K mg) : PySem.W.keepIn K (.ref T.a_road_in) = true := T.F_road_in.kp
theorem Tp.kp_Net_read (T : Tp K mg) : PySem.W.keepIn K (.ref T.a_Net_read) = true := T.F_Net_read.kp
theorem Tp.me_NetD_eqD (T : Tp K mg) : Meth K T.aNet "__eq__" T.a_NetD_eqD := ⟨T.at_NetD_eqD, T.fn_NetD_eqD, T.F_NetD_eqD.kp⟩
theorem Tp.kp_NetD_eqD (T : Tp K mg) : PySem.W.keepIn K (.ref T.a_NetD_eqD) = true := T.F_NetD_eqD.kp
theorem Tp.me_NetD_boolD (T : Tp K mg) : Meth K T.aNet "__bool__" T.a_NetD_boolD := ⟨T.at_NetD_boolD, T.fn_NetD_boolD, T.F_NetD_boolD.kp⟩
theorem Tp.kp_NetD_boolD (T : Tp K mg) : PySem.W.keepIn K (.ref T.a_NetD_boolD) = true := T.F_NetD_boolD.kp
theorem Tp.kp_need_place (T : Tp K mg) : PySem.W.keepIn K (.ref T.a_need_place) = true := T.F_need_place.kp
theorem Tp.me_Net_roads_at (T : Tp K mg) : Meth K T.aNet "roads_at" T.a_Net_roads_at := ⟨T.at_Net_roads_at, T.fn_Net_roads_at, T.F_Net_roads_at.kp⟩
theorem Tp.kp_Net_roads_at (T : Tp K mg) : PySem.W.keepIn K (.ref T.a_Net_roads_at) = true := T.F_Net_roads_at.kp
theorem Tp.kp_pair_of (T : Tp K mg) : PySem.W.keepIn K (.ref T.a_pair_of) = true := T.F_pair_of.kp
theorem Tp.me_Net_hue (T : Tp K mg) : Meth K T.aNet "hue" T.a_Net_hue := ⟨T.at_Net_hue, T.fn_Net_hue, T.F_Net_hue.kp⟩
theorem Tp.kp_Net_hue (T : Tp K mg) : PySem.W.keepIn K (.ref T.a_Net_hue) = true := T.F_Net_hue.kp
theorem Tp.kp_l_right (T : Tp K mg) : PySem.W.keepIn K (.ref T.a_l_right) = true := T.F_l_right.kp
theorem Tp.kp_l_jar (T : Tp K mg) : PySem.W.keepIn K (.ref T.a_l_jar) = true := T.F_l_jar.kp
theorem Tp.kp_law (T : Tp K mg) : PySem.W.keepIn K (.ref T.a_law) = true := T.F_law.kp
theorem kb_NetD_boolD (T : Tp K mg) : KB K T.fd_NetD_boolD ps_NetD_boolD 1 [] [0] := kb_of T.F_NetD_boolD fun _ _ _ _ _ _ us ws h1 h2 => match us, ws, h1, h2 with | [_], [], _, _ => rfl
theorem kb_NetD_eqD (T : Tp K mg) : KB K T.fd_NetD_eqD ps_NetD_eqD 2 [] [0, 1] := kb_of T.F_NetD_eqD fun _ _ _ _ _ _ us ws h1 h2 => match us, ws, h1, h2 with | [_, _], [], _, _ => rfl
theorem kb_NetD_initD (T : Tp K mg) : KB K T.fd_NetD_initD ps_NetD_initD 3 [] [0, 1, 2] := kb_of T.F_NetD_initD fun _ _ _ _ _ _ us ws h1 h2 => match us, ws, h1, h2 with | [_, _, _], [], _, _ => rfl
theorem kb_NetD_initD_1_roads_size (T : Tp K mg) : KB K T.fd_NetD_initD ps_NetD_initD 1 ["roads", "size"] [0, 2, 1] := kb_of T.F_NetD_initD fun _ _ _ _ _ _ us ws h1 h2 => match us, ws, h1, h2 with | [_], [_, _], _, _ => rfl
theorem kb_NetD_lenD (T : Tp K mg) : KB K T.fd_NetD_lenD ps_NetD_lenD 1 [] [0] := kb_of T.F_NetD_lenD fun _ _ _ _ _ _ us ws h1 h2 => match us, ws, h1, h2 with | [_], [], _, _ => rfl
theorem kb_NetD_reprD (T : Tp K mg) : KB K T.fd_NetD_reprD ps_NetD_reprD 1 [] [0] := kb_of T.F_NetD_reprD fun _ _ _ _ _ _ us ws h1 h2 => match us, ws, h1, h2 with | [_], [], _, _ => rfl
theorem kb_NetD_strD (T : Tp K mg) : KB K T.fd_NetD_strD ps_NetD_strD 1 [] [0] := kb_of T.F_NetD_strD fun _ _ _ _ _ _ us ws h1 h2 => match us, ws, h1, h2 with | [_], [], _, _ => rfl
theorem kb_Net_hue (T : Tp K mg) : KB K T.fd_Net_hue ps_Net_hue 3 [] [0, 1, 2] := kb_of T.F_Net_hue fun _ _ _ _ _ _ us ws h1 h2 => match us, ws, h1, h2 with | [_, _, _], [], _, _ => rfl
theorem kb_Net_hue_1_two_one (T : Tp K mg) : KB K T.fd_Net_hue ps_Net_hue 1 ["two", "one"] [0, 2, 1] := kb_of T.F_Net_hue fun _ _ _ _ _ _ us ws h1 h2 => match us, ws, h1, h2 with | [_], [_, _], _, _ => rfl
theorem kb_Net_read (T : Tp K mg) : KB K T.fd_Net_read ps_Net_read 1 [] [0] := kb_of T.F_Net_read fun _ _ _ _ _ _ us ws h1 h2 => match us, ws, h1, h2 with | [_], [], _, _ => rfl
theorem kb_Net_read_0_text (T : Tp K mg) : KB K T.fd_Net_read ps_Net_read 0 ["text"] [0] := kb_of T.F_Net_read fun _ _ _ _ _ _ us ws h1 h2 => match us, ws, h1, h2 with | [], [_], _, _ => rfl
theorem kb_Net_roads (T : Tp K mg) : KB K T.fd_Net_roads ps_Net_roads 1 [] [0] := kb_of T.F_Net_roads fun _ _ _ _ _ _ us ws h1 h2 => match us, ws, h1, h2 with | [_], [], _, _ => rfl
theorem kb_Net_roads_at (T : Tp K mg) : KB K T.fd_Net_roads_at ps_Net_roads_at 2 [] [0, 1] := kb_of T.F_Net_roads_at fun _ _ _ _ _ _ us ws h1 h2 => match us, ws, h1, h2 with | [_, _], [], _, _ => rfl
theorem kb_Net_roads_at_1_place (T : Tp K mg) : KB K T.fd_Net_roads_at ps_Net_roads_at 1 ["place"] [0, 1] := kb_of T.F_Net_roads_at fun _ _ _ _ _ _ us ws h1 h2 => match us, ws, h1, h2 with | [_], [_], _, _ => rfl
theorem kb_Net_size (T : Tp K mg) : KB K T.fd_Net_size ps_Net_size 1 [] [0] := kb_of T.F_Net_size fun _ _ _ _ _ _ us ws h1 h2 => match us, ws, h1, h2 with | [_], [], _, _ => rfl
theorem kb_first_wrong_road (T : Tp K mg) : KB K T.fd_first_wrong_road ps_first_wrong_road 2 [] [0, 1] := kb_of T.F_first_wrong_road fun _ _ _ _ _ _ us ws h1 h2 => match us, ws, h1, h2 with | [_, _], [], _, _ => rfl
theorem kb_is_hue (T : Tp K mg) : KB K T.fd_is_hue ps_is_hue 1 [] [0] := kb_of T.F_is_hue fun _ _ _ _ _ _ us ws h1 h2 => match us, ws, h1, h2 with | [_], [], _, _ => rfl
theorem kb_is_integer (T : Tp K mg) : KB K T.fd_is_integer ps_is_integer 1 [] [0] := kb_of T.F_is_integer fun _ _ _ _ _ _ us ws h1 h2 => match us, ws, h1, h2 with | [_], [], _, _ => rfl
theorem kb_is_integer_from (T : Tp K mg) : KB K T.fd_is_integer_from ps_is_integer_from 3 [] [0, 1, 2] := kb_of T.F_is_integer_from fun _ _ _ _ _ _ us ws h1 h2 => match us, ws, h1, h2 with | [_, _, _], [], _, _ => rfl
theorem kb_is_place (T : Tp K mg) : KB K T.fd_is_place ps_is_place 2 [] [0, 1] := kb_of T.F_is_place fun _ _ _ _ _ _ us ws h1 h2 => match us, ws, h1, h2 with | [_, _], [], _, _ => rfl
theorem kb_is_road (T : Tp K mg) : KB K T.fd_is_road ps_is_road 2 [] [0, 1] := kb_of T.F_is_road fun _ _ _ _ _ _ us ws h1 h2 => match us, ws, h1, h2 with | [_, _], [], _, _ => rfl
theorem kb_is_size (T : Tp K mg) : KB K T.fd_is_size ps_is_size 1 [] [0] := kb_of T.F_is_size fun _ _ _ _ _ _ us ws h1 h2 => match us, ws, h1, h2 with | [_], [], _, _ => rfl
theorem kb_l_dip (T : Tp K mg) : KB K T.fd_l_dip ps_l_dip 2 [] [0, 1] := kb_of T.F_l_dip fun _ _ _ _ _ _ us ws h1 h2 => match us, ws, h1, h2 with | [_, _], [], _, _ => rfl
theorem kb_l_hues (T : Tp K mg) : KB K T.fd_l_hues ps_l_hues 1 [] [0] := kb_of T.F_l_hues fun _ _ _ _ _ _ us ws h1 h2 => match us, ws, h1, h2 with | [_], [], _, _ => rfl
theorem kb_l_jar (T : Tp K mg) : KB K T.fd_l_jar ps_l_jar 2 [] [0, 1] := kb_of T.F_l_jar fun _ _ _ _ _ _ us ws h1 h2 => match us, ws, h1, h2 with | [_, _], [], _, _ => rfl
theorem kb_l_one_of (T : Tp K mg) : KB K T.fd_l_one_of ps_l_one_of 2 [] [0, 1] := kb_of T.F_l_one_of fun _ _ _ _ _ _ us ws h1 h2 => match us, ws, h1, h2 with | [_, _], [], _, _ => rfl
theorem kb_l_right (T : Tp K mg) : KB K T.fd_l_right ps_l_right 1 [] [0] := kb_of T.F_l_right fun _ _ _ _ _ _ us ws h1 h2 => match us, ws, h1, h2 with | [_], [], _, _ => rfl
theorem kb_l_roads (T : Tp K mg) : KB K T.fd_l_roads ps_l_roads 2 [] [0, 1] := kb_of T.F_l_roads fun _ _ _ _ _ _ us ws h1 h2 => match us, ws, h1, h2 with | [_, _], [], _, _ => rfl
theorem kb_l_text (T : Tp K mg) : KB K T.fd_l_text ps_l_text 2 [] [0, 1] := kb_of T.F_l_text fun _ _ _ _ _ _ us ws h1 h2 => match us, ws, h1, h2 with | [_, _], [], _, _ => rfl
theorem kb_law (T : Tp K mg) : KB K T.fd_law ps_law 1 [] [0] := kb_of T.F_law fun _ _ _ _ _ _ us ws h1 h2 => match us, ws, h1, h2 with | [_], [], _, _ => rfl
theorem kb_need_place (T : Tp K mg) : KB K T.fd_need_place ps_need_place 2 [] [0, 1] := kb_of T.F_need_place fun _ _ _ _ _ _ us ws h1 h2 => match us, ws, h1, h2 with | [_, _], [], _, _ => rfl
theorem kb_pair_of (T : Tp K mg) : KB K T.fd_pair_of ps_pair_of 2 [] [0, 1] := kb_of T.F_pair_of fun _ _ _ _ _ _ us ws h1 h2 => match us, ws, h1, h2 with | [_, _], [], _, _ => rfl
theorem kb_road_in (T : Tp K mg) : KB K T.fd_road_in ps_road_in 1 [] [0] := kb_of T.F_road_in fun _ _ _ _ _ _ us ws h1 h2 => match us, ws, h1, h2 with | [_], [], _, _ => rfl
theorem kb_size_in (T : Tp K mg) : KB K T.fd_size_in ps_size_in 1 [] [0] := kb_of T.F_size_in fun _ _ _ _ _ _ us ws h1 h2 => match us, ws, h1, h2 with | [_], [], _, _ => rfl
theorem G_l_dip (T : Tp K mg) : FnG P w K mg base 1 T.a_l_dip T.fd_l_dip ps_l_dip (spM K 2 (F_l_dip T.aNet)) :=
  fn_mut T.F_l_dip sc_l_dip (by decide) fun cdv A outer s H E room gd => by
    unfold sv_l_dip
    exact (sns_cons (sns_setix (pv 0) (snd_bin ok_add (sno_e (snd_ix (rm_of room) (sno_n (pv 0)) sno_int (fun _ _ => rfl))) sno_int) sno_int (fun _ => rfl)) (sns_cons (sns_if (snt_cmp ok_gt (sno_e (snd_ix (rm_of room) (sno_n (pv 0)) sno_int (fun _ _ => rfl))) sno_int (by rfl)) (sns_cons (sns_tgt (snd_cb ok_divmod (sna_cons (sno_e (snd_ix (rm_of room) (sno_n (pv 0)) sno_int (fun _ _ => rfl))) (sna_cons (sno_n (pv 1)) sna_nil)) rfl T.n_divmod rfl) (sng_t rfl (sngs_cons (sng_ix (k := 0) (pv 0) pe_int (fun _ => rfl)) (sngs_cons (sng_n (pg_name (i := 2) sc_l_dip.nd rfl (by first | exact Or.inl rfl | exact Or.inr rfl))) sngs_nil))) (fun _ => by decide)) (sns_one (sns_ret (snd_n (pv 2))))) sns_nil) (sns_cons (sns_setix (pv 0) (snd_bin ok_mod (sno_e (snd_ct ok_int (sna_cons (sno_e (snd_bin ok_add (sno_e (snd_bin ok_mul (sno_e (snd_ix (rm_of room) (sno_n (pv 0)) sno_int (fun _ _ => rfl))) sno_int)) (sno_e (snd_bin ok_mul sno_int (sno_e (snd_ix (rm_of room) (sno_n (pv 0)) sno_int (fun _ _ => rfl))))))) sna_nil) rfl T.n_int rfl)) sno_int) sno_int (fun _ => rfl)) (sns_one (sns_ret (snd_bin ok_mod (sno_e (snd_ct ok_int (sna_cons (sno_e (snd_bin ok_div (sno_e (snd_ix (rm_of room) (sno_n (pv 0)) sno_int (fun _ _ => rfl))) sno_int)) sna_nil) rfl T.n_int rfl)) (sno_n (pv 1))))))))
theorem G_l_one_of (T : Tp K mg) : FnG P w K mg base 4 T.a_l_one_of T.fd_l_one_of ps_l_one_of (spM K 2 (F_l_one_of T.aNet)) :=
  fn_mut T.F_l_one_of sc_l_one_of (by decide) fun cdv A outer s H E room gd => by
    unfold sv_l_one_of
    exact (sns_one (sns_ret (snd_ix (rm_of room) (sno_n (pv 1)) (sno_e (snd_mut (mut_at (G_l_dip T) (room.mono (by decide)) gd (kb_l_dip T) (takes_of rfl rfl rfl rfl) (fun l h => by match l, h with | [_, _], _ => rfl)) (pv 0) (snv_cons (snd_cb ok_len (sna_cons (sno_n (pv 1)) sna_nil) rfl T.n_len rfl) snv_nil) lenV1 rfl T.g_l_dip T.kp_l_dip)) (fun _ _ => rfl))))
theorem G_l_roads (T : Tp K mg) : FnG P w K mg base 7 T.a_l_roads T.fd_l_roads ps_l_roads (spM K 2 (F_l_roads T.aNet)) :=
  fn_mut T.F_l_roads sc_l_roads (by decide) fun cdv A outer s H E room gd => by
    unfold sv_l_roads
    exact (sns_cons (by first | exact sns_par3 (i := 2) (j := 3) (l := 4) (snl_cons (snd_mut (mut_at (G_l_one_of T) (room.mono (by decide)) gd (kb_l_one_of T) (takes_of rfl rfl rfl rfl) (fun l h => by match l, h with | [_, _], _ => rfl)) (pv 0) (snv_cons (snd_lst (snv_cons snd_int (snv_cons snd_int (snv_cons snd_int (snv_cons snd_int snv_nil))))) snv_nil) lenV1 rfl T.g_l_one_of T.kp_l_one_of) (snl_cons (snd_mut (mut_at (G_l_one_of T) (room.mono (by decide)) gd (kb_l_one_of T) (takes_of rfl rfl rfl rfl) (fun l h => by match l, h with | [_, _], _ => rfl)) (pv 0) (snv_cons (snd_lst (snv_cons snd_str (snv_cons snd_str (snv_cons snd_str (snv_cons snd_str snv_nil))))) snv_nil) lenV1 rfl T.g_l_one_of T.kp_l_one_of) (snl_cons (snd_lst snv_nil) snl_nil))) (fun _ => by decide) rfl sc_l_roads.nd rfl rfl rfl (by decide) (by decide) (by decide) rfl rfl rfl rfl | exact sns_parT (snl_cons (snd_mut (mut_at (G_l_one_of T) (room.mono (by decide)) gd (kb_l_one_of T) (takes_of rfl rfl rfl rfl) (fun l h => by match l, h with | [_, _], _ => rfl)) (pv 0) (snv_cons (snd_lst (snv_cons snd_int (snv_cons snd_int (snv_cons snd_int (snv_cons snd_int snv_nil))))) snv_nil) lenV1 rfl T.g_l_one_of T.kp_l_one_of) (snl_cons (snd_mut (mut_at (G_l_one_of T) (room.mono (by decide)) gd (kb_l_one_of T) (takes_of rfl rfl rfl rfl) (fun l h => by match l, h with | [_, _], _ => rfl)) (pv 0) (snv_cons (snd_lst (snv_cons snd_str (snv_cons snd_str (snv_cons snd_str (snv_cons snd_str snv_nil))))) snv_nil) lenV1 rfl T.g_l_one_of T.kp_l_one_of) (snl_cons (snd_lst snv_nil) snl_nil))) (fun _ => by decide) rfl (NmOk.cons (i := 2) (pg_name sc_l_roads.nd rfl (by first | exact Or.inl rfl | exact Or.inr rfl)) rfl (NmOk.cons (i := 3) (pg_name sc_l_roads.nd rfl (by first | exact Or.inl rfl | exact Or.inr rfl)) rfl (NmOk.cons (i := 4) (pg_name sc_l_roads.nd rfl (by first | exact Or.inl rfl | exact Or.inr rfl)) rfl NmOk.nil)))) (sns_cons (sns_for (passes_of rfl) rfl (sni_range1 (sno_n (pv 1)) rfl T.n_range) (sng_n (pg_name (i := 5) sc_l_roads.nd rfl (by first | exact Or.inl rfl | exact Or.inr rfl))) (fun _ => by decide) (sns_one (sns_for (passes_of rfl) rfl (sni_range2 (sno_e (snd_bin ok_add (sno_n (pv 5)) sno_int)) (sno_n (pv 1)) rfl T.n_range) (sng_n (pg_name (i := 6) sc_l_roads.nd rfl (by first | exact Or.inl rfl | exact Or.inr rfl))) (fun _ => by decide) (sns_one (sns_if (snt_cmp (ok_lt (rm_of room)) (sno_e (snd_mut (mut_at (G_l_dip T) (room.mono (by decide)) gd (kb_l_dip T) (takes_of rfl rfl rfl rfl) (fun l h => by match l, h with | [_, _], _ => rfl)) (pv 0) (snv_cons snd_int snv_nil) lenV1 rfl T.g_l_dip T.kp_l_dip)) (sno_n (pv 2)) (by rfl)) (sns_one (sns_expr (snd_app (pv 4) (snd_tup (snv_cons (snd_n (pv 5)) (snv_cons (snd_n (pv 6)) (snv_cons (snd_mut (mut_at (G_l_one_of T) (room.mono (by decide)) gd (kb_l_one_of T) (takes_of rfl rfl rfl rfl) (fun l h => by match l, h with | [_, _], _ => rfl)) (pv 0) (snv_cons (snd_ct (cok_or2 ok_list (ok_listS (rm_of room))) (sna_cons (sno_n (pv 3)) sna_nil) rfl T.n_list rfl) snv_nil) lenV1 rfl T.g_l_one_of T.kp_l_one_of) snv_nil))))))) sns_nil))))) (sns_one (sns_ret (snd_ct ok_tuple (sna_cons (sno_n (pv 4)) sna_nil) rfl T.n_tuple rfl)))))
theorem G_l_hues (T : Tp K mg) : FnG P w K mg base 1 T.a_l_hues T.fd_l_hues ps_l_hues (spP K 1 (F_l_hues T.aNet)) :=
  fn_pure T.F_l_hues sc_l_hues (by decide) fun cdv A outer s H E room gd => by
    unfold sv_l_hues
    exact (sns_cons (sns_set (i := 1) snd_dt (fun _ => by decide) sc_l_hues.nd rfl (by first | exact Or.inl rfl | exact Or.inr rfl)) (sns_cons (sns_for (passes_of rfl) rfl (sni_seq (snd_n (pv 0))) (sng_t rfl (sngs_cons (sng_n (pg_name (i := 2) sc_l_hues.nd rfl (by first | exact Or.inl rfl | exact Or.inr rfl))) (sngs_cons (sng_n (pg_name (i := 3) sc_l_hues.nd rfl (by first | exact Or.inl rfl | exact Or.inr rfl))) (sngs_cons (sng_n (pg_name (i := 4) sc_l_hues.nd rfl (by first | exact Or.inl rfl | exact Or.inr rfl))) sngs_nil)))) (fun _ => by decide) (sns_cons (sns_dput (rm_of room) (pv 1) (snd_n (pv 4)) (sno_e (snd_tup (snv_cons (snd_n (pv 2)) (snv_cons (snd_n (pv 3)) snv_nil))))) (sns_one (sns_dput (rm_of room) (pv 1) (snd_n (pv 4)) (sno_e (snd_tup (snv_cons (snd_n (pv 3)) (snv_cons (snd_n (pv 2)) snv_nil)))))))) (sns_one (sns_ret (snd_n (pv 1))))))
theorem G_l_text (T : Tp K mg) : FnG P w K mg base 1 T.a_l_text T.fd_l_text ps_l_text (spP K 2 (F_l_text T.aNet)) :=
  fn_pure T.F_l_text sc_l_text (by decide) fun cdv A outer s H E room gd => by
    unfold sv_l_text
    exact (sns_one (sns_ret (snd_mt ok_join sno_str (sna_cons (sno_e (snd_bin ok_add (sno_e (snd_lst (snv_cons (snd_bin ok_add (sno_e (snd_ct ok_str (sna_cons (sno_n (pv 0)) sna_nil) rfl T.n_str rfl)) sno_str) snv_nil))) (sno_e (snd_lc (own := [("_law_i", 2), ("_law_j", 3), ("_law_hue", 4)]) rfl sc_l_text.nd (blkOk_by (N := N_l_text) (sc := defScope st_l_text) (by decide +kernel)) (sni_seq (snd_n (pv 1))) (fun _ _ _ _ _ => (sng_t rfl (sngs_cons (sng_n (pg_name (i := 2) sc_l_text.nd rfl (by first | exact Or.inl rfl | exact Or.inr rfl))) (sngs_cons (sng_n (pg_name (i := 3) sc_l_text.nd rfl (by first | exact Or.inl rfl | exact Or.inr rfl))) (sngs_cons (sng_n (pg_name (i := 4) sc_l_text.nd rfl (by first | exact Or.inl rfl | exact Or.inr rfl))) sngs_nil))))) (fun _ _ _ _ _ => snts_nil) (fun _ _ _ _ _ => (snd_bin ok_add (sno_e (snd_bin ok_add (sno_e (snd_bin ok_add (sno_e (snd_ct ok_str (sna_cons (sno_n (pv 2)) sna_nil) rfl T.n_str rfl)) sno_str)) (sno_e (snd_ct ok_str (sna_cons (sno_n (pv 3)) sna_nil) rfl T.n_str rfl)))) (sno_n (pv 4)))) (by decide))))) sna_nil) (by decide) PySem.F.plainAttrs_str PySem.F.slot_str_join PySem.F.type_str_join)))
theorem G_is_integer (T : Tp K mg) : FnG P w K mg base 1 T.a_is_integer T.fd_is_integer ps_is_integer (spP K 1 (F_is_integer T.aNet)) :=
  fn_pure T.F_is_integer sc_is_integer (by decide) fun cdv A outer s H E room gd => by
    unfold sv_is_integer
    exact (sns_one (sns_ret (snd_and (snd_isi (isT_ok) (pe_bltn (v := .ty "int") (u := .type "int") rfl T.n_int rfl rfl) (.ty "int") (sno_n (pv 0)) rfl T.n_isinstance rfl) (snd_one (snd_not (snd_isi (isT_ok) (pe_bltn (v := .ty "bool") (u := .type "bool") rfl T.n_bool rfl rfl) (.ty "bool") (sno_n (pv 0)) rfl T.n_isinstance rfl))))))
theorem G_is_integer_from (T : Tp K mg) : FnG P w K mg base 4 T.a_is_integer_from T.fd_is_integer_from ps_is_integer_from (spP K 3 (F_is_integer_from T.aNet)) :=
  fn_pure T.F_is_integer_from sc_is_integer_from (by decide) fun cdv A outer s H E room gd => by
    unfold sv_is_integer_from
    exact (sns_one (sns_ret (snd_and (snd_call (fun_at (G_is_integer T) (room.mono (by decide)) gd (kb_is_integer T) (takes_of rfl rfl rfl rfl) (fun l h => by match l, h with | [_], _ => rfl)) (snv_cons (snd_n (pv 0)) snv_nil) lenV1 rfl T.g_is_integer T.kp_is_integer) (snd_one (snd_chain (ok_or2 ok_le (ok_leT (rm_of room))) (ok_or2 ok_le (ok_leT (rm_of room))) (sno_n (pv 1)) (sno_n (pv 0)) (sno_n (pv 2)))))))
theorem G_is_size (T : Tp K mg) : FnG P w K mg base 7 T.a_is_size T.fd_is_size ps_is_size (spP K 1 (F_is_size T.aNet)) :=
  fn_pure T.F_is_size sc_is_size (by decide) fun cdv A outer s H E room gd => by
    unfold sv_is_size
    exact (sns_one (sns_ret (snd_call (fun_at (G_is_integer_from T) (room.mono (by decide)) gd (kb_is_integer_from T) (takes_of rfl rfl rfl rfl) (fun l h => by match l, h with | [_, _, _], _ => rfl)) (snv_cons (snd_n (pv 0)) (snv_cons snd_int (snv_cons (snd_gi rfl (T.c_MOST_PLACES).choose_spec) snv_nil))) lenV3 rfl T.g_is_integer_from T.kp_is_integer_from)))
theorem G_is_place (T : Tp K mg) : FnG P w K mg base 7 T.a_is_place T.fd_is_place ps_is_place (spP K 2 (F_is_place T.aNet)) :=
  fn_pure T.F_is_place sc_is_place (by decide) fun cdv A outer s H E room gd => by
    unfold sv_is_place
    exact (sns_one (sns_ret (snd_call (fun_at (G_is_integer_from T) (room.mono (by decide)) gd (kb_is_integer_from T) (takes_of rfl rfl rfl rfl) (fun l h => by match l, h with | [_, _, _], _ => rfl)) (snv_cons (snd_n (pv 0)) (snv_cons snd_int (snv_cons (snd_bin ok_sub (sno_n (pv 1)) sno_int) snv_nil))) lenV3 rfl T.g_is_integer_from T.kp_is_integer_from)))
theorem G_is_hue (T : Tp K mg) : FnG P w K mg base 1 T.a_is_hue T.fd_is_hue ps_is_hue (spP K 1 (F_is_hue T.aNet)) :=
  fn_pure T.F_is_hue sc_is_hue (by decide) fun cdv A outer s H E room gd => by
    unfold sv_is_hue
    exact (sns_one (sns_ret (snd_and (snd_isi (isT_ok) (pe_bltn (v := .ty "str") (u := .type "str") rfl T.n_str rfl rfl) (.ty "str") (sno_n (pv 0)) rfl T.n_isinstance rfl) (snd_and (snd_cmp (ok_eq (rm_of room)) (sno_e (snd_cb ok_len (sna_cons (sno_n (pv 0)) sna_nil) rfl T.n_len rfl)) sno_int (by rfl)) (snd_one (snd_in (rm_of room) (sno_n (pv 0)) (sno_gs rfl (T.c_HUES).choose_spec)))))))
theorem G_is_road (T : Tp K mg) : FnG P w K mg base 10 T.a_is_road T.fd_is_road ps_is_road (spP K 2 (F_is_road T.aNet)) :=
  fn_pure T.F_is_road sc_is_road (by decide) fun cdv A outer s H E room gd => by
    unfold sv_is_road
    exact (sns_cons (sns_if (SndW.t (snw_or (snt_not (snt_tru (sno_e (snd_isi (isT_ok) (pe_bltn (v := .ty "tuple") (u := .type "tuple") rfl T.n_tuple rfl rfl) (.ty "tuple") (sno_n (pv 0)) rfl T.n_isinstance rfl)) (fun _ => rfl))) (snw_or1 (snt_cmp (ok_ne (rm_of room)) (sno_e (snd_cb ok_len (sna_cons (sno_n (pv 0)) sna_nil) rfl T.n_len rfl)) sno_int (by rfl))))) (sns_one (sns_ret snd_bl)) sns_nil) (sns_cons (sns_tgt (snd_n (pv 0)) (sng_t rfl (sngs_cons (sng_n (pg_name (i := 2) sc_is_road.nd rfl (by first | exact Or.inl rfl | exact Or.inr rfl))) (sngs_cons (sng_n (pg_name (i := 3) sc_is_road.nd rfl (by first | exact Or.inl rfl | exact Or.inr rfl))) (sngs_cons (sng_n (pg_name (i := 4) sc_is_road.nd rfl (by first | exact Or.inl rfl | exact Or.inr rfl))) sngs_nil)))) (fun _ => by decide)) (sns_one (sns_ret (snd_and (snd_call (fun_at (G_is_place T) (room.mono (by decide)) gd (kb_is_place T) (takes_of rfl rfl rfl rfl) (fun l h => by match l, h with | [_, _], _ => rfl)) (snv_cons (snd_n (pv 2)) (snv_cons (snd_n (pv 1)) snv_nil)) lenV2 rfl T.g_is_place T.kp_is_place) (snd_and (snd_call (fun_at (G_is_place T) (room.mono (by decide)) gd (kb_is_place T) (takes_of rfl rfl rfl rfl) (fun l h => by match l, h with | [_, _], _ => rfl)) (snv_cons (snd_n (pv 3)) (snv_cons (snd_n (pv 1)) snv_nil)) lenV2 rfl T.g_is_place T.kp_is_place) (snd_and (snd_cmp (ok_lt (rm_of room)) (sno_n (pv 2)) (sno_n (pv 3)) (by rfl)) (snd_one (snd_call (fun_at (G_is_hue T) (room.mono (by decide)) gd (kb_is_hue T) (takes_of rfl rfl rfl rfl) (fun l h => by match l, h with | [_], _ => rfl)) (snv_cons (snd_n (pv 4)) snv_nil) lenV1 rfl T.g_is_hue T.kp_is_hue)))))))))
theorem G_first_wrong_road (T : Tp K mg) : FnG P w K mg base 13 T.a_first_wrong_road T.fd_first_wrong_road ps_first_wrong_road (spP K 2 (F_first_wrong_road T.aNet)) :=
  fn_pure T.F_first_wrong_road sc_first_wrong_road (by decide) fun cdv A outer s H E room gd => by
    unfold sv_first_wrong_road
    exact (sns_cons (sns_for (passes_of rfl) rfl (sni_en (snd_n (pv 0)) rfl T.n_enumerate) (sng_t rfl (sngs_cons (sng_n (pg_name (i := 2) sc_first_wrong_road.nd rfl (by first | exact Or.inl rfl | exact Or.inr rfl))) (sngs_cons (sng_n (pg_name (i := 3) sc_first_wrong_road.nd rfl (by first | exact Or.inl rfl | exact Or.inr rfl))) sngs_nil))) (fun _ => by decide) (sns_cons (sns_if (snt_not (snt_tru (sno_e (snd_call (fun_at (G_is_road T) (room.mono (by decide)) gd (kb_is_road T) (takes_of rfl rfl rfl rfl) (fun l h => by match l, h with | [_, _], _ => rfl)) (snv_cons (snd_n (pv 3)) (snv_cons (snd_n (pv 1)) snv_nil)) lenV2 rfl T.g_is_road T.kp_is_road)) (fun _ => rfl))) (sns_one (sns_ret (snd_n (pv 2)))) sns_nil) (sns_one (sns_if (SndW.t (snw_and (snt_cmp ok_gt (sno_n (pv 2)) sno_int (by rfl)) (snw_and1 (snt_cmp (ok_or2 ok_le (ok_leT (rm_of room))) (sno_e (snd_sl (sno_n (pv 3)) op_none (op_some sno_int))) (sno_e (snd_sl (sno_e (snd_ix (rm_of room) (sno_n (pv 0)) (sno_e (snd_bin ok_sub (sno_n (pv 2)) sno_int)) (fun _ _ => rfl))) op_none (op_some sno_int))) (by rfl))))) (sns_one (sns_ret (snd_n (pv 2)))) sns_nil)))) (sns_one (sns_ret snd_non)))
theorem G_NetD_initD (T : Tp K mg) : FnG P w K mg base 16 T.a_NetD_initD T.fd_NetD_initD ps_NetD_initD (spM K 3 (F_NetD_initD T.aNet)) :=
  fn_mut T.F_NetD_initD sc_NetD_initD (by decide) fun cdv A outer s H E room gd => by
    unfold sv_NetD_initD
    exact (sns_cons (sns_if (snt_not (snt_tru (sno_e (snd_call (fun_at (G_is_size T) (room.mono (by decide)) gd (kb_is_size T) (takes_of rfl rfl rfl rfl) (fun l h => by match l, h with | [_], _ => rfl)) (snv_cons (snd_n (pv 1)) snv_nil) lenV1 rfl T.g_is_size T.kp_is_size)) (fun _ => rfl))) snss_stk sns_nil) (sns_cons (sns_if (snt_not (snt_tru (sno_e (snd_isi (isT_ok) (pe_bltn (v := .ty "tuple") (u := .type "tuple") rfl T.n_tuple rfl rfl) (.ty "tuple") (sno_n (pv 2)) rfl T.n_isinstance rfl)) (fun _ => rfl))) snss_stk sns_nil) (sns_cons (sns_set (i := 3) (snd_call (fun_at (G_first_wrong_road T) (room.mono (by decide)) gd (kb_first_wrong_road T) (takes_of rfl rfl rfl rfl) (fun l h => by match l, h with | [_, _], _ => rfl)) (snv_cons (snd_n (pv 2)) (snv_cons (snd_n (pv 1)) snv_nil)) lenV2 rfl T.g_first_wrong_road T.kp_first_wrong_road) (fun _ => by decide) sc_NetD_initD.nd rfl (by first | exact Or.inl rfl | exact Or.inr rfl)) (sns_cons (sns_if (snt_cmp ok_notN (sno_n (pv 3)) sno_non (by rfl)) snss_stk sns_nil) (sns_cons (sns_fldC T.ins.cl T.na__size (pv 0) (snd_n (pv 1))) (sns_cons (sns_fldC T.ins.cl T.na__roads (pv 0) (snd_n (pv 2))) (sns_one (sns_fldC T.ins.cl T.na__hues (pv 0) (snd_dcT (own := [("low", 4), ("high", 5), ("hue", 6)]) (rm_of room) sc_NetD_initD.nd (blkOk_by (N := N_NetD_initD) (sc := defScope st_NetD_initD) (by decide +kernel)) (sni_seq (snd_n (pv 2))) (fun _ _ _ _ _ => (sng_t rfl (sngs_cons (sng_n (pg_name (i := 4) sc_NetD_initD.nd rfl (by first | exact Or.inl rfl | exact Or.inr rfl))) (sngs_cons (sng_n (pg_name (i := 5) sc_NetD_initD.nd rfl (by first | exact Or.inl rfl | exact Or.inr rfl))) (sngs_cons (sng_n (pg_name (i := 6) sc_NetD_initD.nd rfl (by first | exact Or.inl rfl | exact Or.inr rfl))) sngs_nil))))) (fun _ _ _ _ _ => snts_nil) (fun _ _ _ _ _ => (snd_tup (snv_cons (snd_n (pv 4)) (snv_cons (snd_n (pv 5)) snv_nil)))) (fun _ _ _ _ _ => (snd_n (pv 6))) (by decide))))))))))
theorem G_NetD_reprD (T : Tp K mg) : FnG P w K mg base 1 T.a_NetD_reprD T.fd_NetD_reprD ps_NetD_reprD (spP K 1 (F_NetD_reprD T.aNet)) :=
  fn_pure T.F_NetD_reprD sc_NetD_reprD (by decide) fun cdv A outer s H E room gd => by
    unfold sv_NetD_reprD
    exact (sns_one (sns_ret (snd_js ⟨sno_str, sno_fmt (sno_e (snd_fld T.ins.cl T.na__size (sno_n (pv 0)))), sno_str, trivial⟩)))
theorem G_NetD_strD (T : Tp K mg) : FnG P w K mg base 1 T.a_NetD_strD T.fd_NetD_strD ps_NetD_strD (spP K 1 (F_NetD_strD T.aNet)) :=
  fn_pure T.F_NetD_strD sc_NetD_strD (by decide) fun cdv A outer s H E room gd => by
    unfold sv_NetD_strD
    exact (sns_cons (by first | exact sns_setLc (i := 1) (own := [("low", 2), ("high", 3), ("hue", 4)]) (fun _ => by decide) rfl rfl rfl rfl sc_NetD_strD.nd  (blkOk_by (N := N_NetD_strD) (sc := defScope st_NetD_strD) (by decide +kernel)) (sni_seq (snd_fld T.ins.cl T.na__roads (sno_n (pv 0)))) (fun _ _ _ _ _ => (sng_t rfl (sngs_cons (sng_n (pg_name (i := 2) sc_NetD_strD.nd rfl (by first | exact Or.inl rfl | exact Or.inr rfl))) (sngs_cons (sng_n (pg_name (i := 3) sc_NetD_strD.nd rfl (by first | exact Or.inl rfl | exact Or.inr rfl))) (sngs_cons (sng_n (pg_name (i := 4) sc_NetD_strD.nd rfl (by first | exact Or.inl rfl | exact Or.inr rfl))) sngs_nil))))) (fun _ _ _ _ _ => snts_nil) (fun _ _ _ _ _ => (snd_js ⟨sno_fmt (sno_n (pv 2)), sno_str, sno_fmt (sno_n (pv 3)), sno_fmt (sno_n (pv 4)), trivial⟩)) (by decide) | exact sns_set (i := 1) (snd_lc (own := [("low", 2), ("high", 3), ("hue", 4)]) rfl sc_NetD_strD.nd (blkOk_by (N := N_NetD_strD) (sc := defScope st_NetD_strD) (by decide +kernel)) (sni_seq (snd_fld T.ins.cl T.na__roads (sno_n (pv 0)))) (fun _ _ _ _ _ => (sng_t rfl (sngs_cons (sng_n (pg_name (i := 2) sc_NetD_strD.nd rfl (by first | exact Or.inl rfl | exact Or.inr rfl))) (sngs_cons (sng_n (pg_name (i := 3) sc_NetD_strD.nd rfl (by first | exact Or.inl rfl | exact Or.inr rfl))) (sngs_cons (sng_n (pg_name (i := 4) sc_NetD_strD.nd rfl (by first | exact Or.inl rfl | exact Or.inr rfl))) sngs_nil))))) (fun _ _ _ _ _ => snts_nil) (fun _ _ _ _ _ => (snd_js ⟨sno_fmt (sno_n (pv 2)), sno_str, sno_fmt (sno_n (pv 3)), sno_fmt (sno_n (pv 4)), trivial⟩)) (by decide)) (fun _ => by decide) sc_NetD_strD.nd rfl (by first | exact Or.inl rfl | exact Or.inr rfl)) (sns_one (sns_ret (snd_mt ok_join sno_str (sna_cons (sno_e (snd_lst (snv_cons (snd_js ⟨sno_fmt (sno_e (snd_fld T.ins.cl T.na__size (sno_n (pv 0)))), sno_str, trivial⟩) (snv_star (snd_n (pv 1)) snv_nil)))) sna_nil) (by decide) PySem.F.plainAttrs_str PySem.F.slot_str_join PySem.F.type_str_join))))
theorem G_NetD_lenD (T : Tp K mg) : FnG P w K mg base 1 T.a_NetD_lenD T.fd_NetD_lenD ps_NetD_lenD (spP K 1 (F_NetD_lenD T.aNet)) :=
  fn_pure T.F_NetD_lenD sc_NetD_lenD (by decide) fun cdv A outer s H E room gd => by
    unfold sv_NetD_lenD
    exact (sns_one (sns_ret (snd_cb ok_len (sna_cons (sno_e (snd_fld T.ins.cl T.na__roads (sno_n (pv 0)))) sna_nil) rfl T.n_len rfl)))
theorem G_Net_roads (T : Tp K mg) : FnG P w K mg base 1 T.a_Net_roads T.fd_Net_roads ps_Net_roads (spP K 1 (F_Net_roads T.aNet)) :=
  fn_pure T.F_Net_roads sc_Net_roads (by decide) fun cdv A outer s H E room gd => by
    unfold sv_Net_roads
    exact (sns_one (sns_ret (snd_fld T.ins.cl T.na__roads (sno_n (pv 0)))))
theorem G_Net_size (T : Tp K mg) : FnG P w K mg base 1 T.a_Net_size T.fd_Net_size ps_Net_size (spP K 1 (F_Net_size T.aNet)) :=
  fn_pure T.F_Net_size sc_Net_size (by decide) fun cdv A outer s H E room gd => by
    unfold sv_Net_size
    exact (sns_one (sns_ret (snd_fld T.ins.cl T.na__size (sno_n (pv 0)))))
theorem G_size_in (T : Tp K mg) : FnG P w K mg base 1 T.a_size_in T.fd_size_in ps_size_in (spP K 1 (F_size_in T.aNet)) :=
  fn_pure T.F_size_in sc_size_in (by decide) fun cdv A outer s H E room gd => by
    unfold sv_size_in
    exact (sns_cons (sns_if (SndW.t (snw_or (snt_cmp (ok_ne (rm_of room)) (sno_e (snd_cb ok_len (sna_cons (sno_n (pv 0)) sna_nil) rfl T.n_len rfl)) sno_int (by rfl)) (snw_or (snt_notin (rm_of room) (sno_e (snd_ix (rm_of room) (sno_n (pv 0)) sno_int (fun _ _ => rfl))) (sno_gs rfl (T.c_DIGITS).choose_spec)) (snw_or1 (snt_cmp (ok_ne (rm_of room)) (sno_e (snd_ix (rm_of room) (sno_n (pv 0)) sno_int (fun _ _ => rfl))) sno_str (by rfl)))))) (sns_one (sns_ret snd_non)) sns_nil) (sns_one (sns_ret (snd_ct ok_int (sna_cons (sno_e (snd_ix (rm_of room) (sno_n (pv 0)) sno_int (fun _ _ => rfl))) sna_nil) rfl T.n_int rfl))))
theorem G_road_in (T : Tp K mg) : FnG P w K mg base 1 T.a_road_in T.fd_road_in ps_road_in (spP K 1 (F_road_in T.aNet)) :=
  fn_pure T.F_road_in sc_road_in (by decide) fun cdv A outer s H E room gd => by
    unfold sv_road_in
    exact (sns_cons (sns_if (SndW.t (snw_or (snt_cmp (ok_ne (rm_of room)) (sno_e (snd_cb ok_len (sna_cons (sno_n (pv 0)) sna_nil) rfl T.n_len rfl)) sno_int (by rfl)) (snw_or (snt_notin (rm_of room) (sno_e (snd_ix (rm_of room) (sno_n (pv 0)) sno_int (fun _ _ => rfl))) (sno_gs rfl (T.c_DIGITS).choose_spec)) (snw_or (snt_cmp (ok_ne (rm_of room)) (sno_e (snd_ix (rm_of room) (sno_n (pv 0)) sno_int (fun _ _ => rfl))) sno_str (by rfl)) (snw_or1 (snt_notin (rm_of room) (sno_e (snd_ix (rm_of room) (sno_n (pv 0)) sno_int (fun _ _ => rfl))) (sno_gs rfl (T.c_DIGITS).choose_spec))))))) (sns_one (sns_ret snd_non)) sns_nil) (sns_one (sns_ret (snd_tup (snv_cons (snd_ct ok_int (sna_cons (sno_e (snd_ix (rm_of room) (sno_n (pv 0)) sno_int (fun _ _ => rfl))) sna_nil) rfl T.n_int rfl) (snv_cons (snd_ct ok_int (sna_cons (sno_e (snd_ix (rm_of room) (sno_n (pv 0)) sno_int (fun _ _ => rfl))) sna_nil) rfl T.n_int rfl) (snv_cons (snd_ix (rm_of room) (sno_n (pv 0)) sno_int (fun _ _ => rfl)) snv_nil)))))))
theorem G_Net_read (T : Tp K mg) : FnG P w K mg base 19 T.a_Net_read T.fd_Net_read ps_Net_read (spP K 1 (F_Net_read T.aNet)) :=
  fn_pure T.F_Net_read sc_Net_read (by decide) fun cdv A outer s H E room gd => by
    unfold sv_Net_read
    exact (sns_cons (sns_if (snt_not (snt_tru (sno_e (snd_isi (isT_ok) (pe_bltn (v := .ty "str") (u := .type "str") rfl T.n_str rfl rfl) (.ty "str") (sno_n (pv 0)) rfl T.n_isinstance rfl)) (fun _ => rfl))) snss_stk sns_nil) (sns_cons (sns_set (i := 1) (snd_mt ok_split (sno_n (pv 0)) (sna_cons sno_str sna_nil) (by decide) PySem.F.plainAttrs_str PySem.F.slot_str_split PySem.F.type_str_split) (fun _ => by decide) sc_Net_read.nd rfl (by first | exact Or.inl rfl | exact Or.inr rfl)) (sns_cons (sns_set (i := 2) (snd_call (fun_at (G_size_in T) (room.mono (by decide)) gd (kb_size_in T) (takes_of rfl rfl rfl rfl) (fun l h => by match l, h with | [_], _ => rfl)) (snv_cons (snd_ix (rm_of room) (sno_n (pv 1)) sno_int (fun _ _ => rfl)) snv_nil) lenV1 rfl T.g_size_in T.kp_size_in) (fun _ => by decide) sc_Net_read.nd rfl (by first | exact Or.inl rfl | exact Or.inr rfl)) (sns_cons (sns_set (i := 3) (snd_ct ok_tuple (sna_cons (sno_e (snd_lc (own := [("word", 4)]) rfl sc_Net_read.nd (blkOk_by (N := N_Net_read) (sc := defScope st_Net_read) (by decide +kernel)) (sni_seq (snd_sl (sno_n (pv 1)) (op_some sno_int) op_none)) (fun _ _ _ _ _ => (sng_n (pg_name (i := 4) sc_Net_read.nd rfl (by first | exact Or.inl rfl | exact Or.inr rfl)))) (fun _ _ _ _ _ => snts_nil) (fun _ _ _ _ _ => (snd_call (fun_at (G_road_in T) (room.mono (by decide)) gd (kb_road_in T) takes_WF (fun l h => by match l, h with | [_], _ => rfl)) (snv_cons (snd_n (pv 4)) snv_nil) lenV1 rfl T.g_road_in T.kp_road_in)) (by decide))) sna_nil) rfl T.n_tuple rfl) (fun _ => by decide) sc_Net_read.nd rfl (by first | exact Or.inl rfl | exact Or.inr rfl)) (sns_cons (sns_if (SndW.t (snw_or (snt_not (snt_tru (sno_e (snd_call (fun_at (G_is_size T) (room.mono (by decide)) gd (kb_is_size T) (takes_of rfl rfl rfl rfl) (fun l h => by match l, h with | [_], _ => rfl)) (snv_cons (snd_n (pv 2)) snv_nil) lenV1 rfl T.g_is_size T.kp_is_size)) (fun _ => rfl))) (snw_or1 (snt_cmp ok_notN (sno_e (snd_call (fun_at (G_first_wrong_road T) (room.mono (by decide)) gd (kb_first_wrong_road T) (takes_of rfl rfl rfl rfl) (fun l h => by match l, h with | [_, _], _ => rfl)) (snv_cons (snd_n (pv 3)) (snv_cons (snd_n (pv 2)) snv_nil)) lenV2 rfl T.g_first_wrong_road T.kp_first_wrong_road)) sno_non (by rfl))))) snss_stk sns_nil) (sns_one (sns_ret (snd_make (make_at T.mkN (G_NetD_initD T) (room.mono (by decide)) gd (kb_NetD_initD T) (takes_of rfl rfl rfl rfl) (fun y l h => by match l, h with | [_, _], _ => exact ⟨rfl, rfl⟩)) (snv_cons (snd_n (pv 2)) (snv_cons (snd_n (pv 3)) snv_nil)) (lenV2 ) rfl T.g_Net T.mkN.kp))))))))
theorem G_NetD_eqD (T : Tp K mg) : FnG P w K mg base 1 T.a_NetD_eqD T.fd_NetD_eqD ps_NetD_eqD (spP K 2 (F_NetD_eqD T.aNet)) :=
  fn_pure T.F_NetD_eqD sc_NetD_eqD (by decide) fun cdv A outer s H E room gd => by
    unfold sv_NetD_eqD
    exact (sns_one (sns_ret (snd_and (snd_isi (isC_ok T.ins T.kit_C) (pe_glob (v := .ref T.aNet) rfl T.g_Net rfl) (.own T.aNet) (sno_n (pv 1)) rfl T.n_isinstance rfl) (snd_and (snd_cmp (ok_eq (rm_of room)) (sno_e (snd_fld T.ins.cl T.na__size (sno_n (pv 0)))) (sno_e (snd_fld T.ins.cl T.na__size (sno_n (pv 1)))) (by rfl)) (snd_one (snd_cmp (ok_eq (rm_of room)) (sno_e (snd_fld T.ins.cl T.na__roads (sno_n (pv 0)))) (sno_e (snd_fld T.ins.cl T.na__roads (sno_n (pv 1)))) (by rfl)))))))
theorem G_NetD_boolD (T : Tp K mg) : FnG P w K mg base 1 T.a_NetD_boolD T.fd_NetD_boolD ps_NetD_boolD (spP K 1 (F_NetD_boolD T.aNet)) :=
  fn_pure T.F_NetD_boolD sc_NetD_boolD (by decide) fun cdv A outer s H E room gd => by
    unfold sv_NetD_boolD
    exact (sns_one (sns_ret snd_bl))
theorem G_need_place (T : Tp K mg) : FnG P w K mg base 10 T.a_need_place T.fd_need_place ps_need_place (spP K 2 (F_need_place T.aNet)) :=
  fn_pure T.F_need_place sc_need_place (by decide) fun cdv A outer s H E room gd => by
    unfold sv_need_place
    exact (sns_one (sns_if (snt_not (snt_tru (sno_e (snd_call (fun_at (G_is_place T) (room.mono (by decide)) gd (kb_is_place T) (takes_of rfl rfl rfl rfl) (fun l h => by match l, h with | [_, _], _ => rfl)) (snv_cons (snd_n (pv 0)) (snv_cons (snd_n (pv 1)) snv_nil)) lenV2 rfl T.g_is_place T.kp_is_place)) (fun _ => rfl))) snss_stk sns_nil))
theorem G_Net_roads_at (T : Tp K mg) : FnG P w K mg base 13 T.a_Net_roads_at T.fd_Net_roads_at ps_Net_roads_at (spP K 2 (F_Net_roads_at T.aNet)) :=
  fn_pure T.F_Net_roads_at sc_Net_roads_at (by decide) fun cdv A outer s H E room gd => by
    unfold sv_Net_roads_at
    exact (sns_cons (sns_expr (snd_call (fun_at (G_need_place T) (room.mono (by decide)) gd (kb_need_place T) (takes_of rfl rfl rfl rfl) (fun l h => by match l, h with | [_, _], _ => rfl)) (snv_cons (snd_n (pv 1)) (snv_cons (snd_fld T.ins.cl T.na__size (sno_n (pv 0))) snv_nil)) lenV2 rfl T.g_need_place T.kp_need_place)) (sns_cons (by first | exact sns_setLc (i := 2) (own := [("low", 3), ("high", 4), ("hue", 5)]) (fun _ => by decide) rfl rfl rfl rfl sc_Net_roads_at.nd  (blkOk_by (N := N_Net_roads_at) (sc := defScope st_Net_roads_at) (by decide +kernel)) (sni_seq (snd_fld T.ins.cl T.na__roads (sno_n (pv 0)))) (fun _ _ _ _ _ => (sng_t rfl (sngs_cons (sng_n (pg_name (i := 3) sc_Net_roads_at.nd rfl (by first | exact Or.inl rfl | exact Or.inr rfl))) (sngs_cons (sng_n (pg_name (i := 4) sc_Net_roads_at.nd rfl (by first | exact Or.inl rfl | exact Or.inr rfl))) (sngs_cons (sng_n (pg_name (i := 5) sc_Net_roads_at.nd rfl (by first | exact Or.inl rfl | exact Or.inr rfl))) sngs_nil))))) (fun _ _ _ _ _ => (snts_one (snt_cmp (ok_eq (Rm.blk (rm_of room))) (sno_n (pv 4)) (sno_n (pv 1)) (by rfl)))) (fun _ _ _ _ _ => (snd_tup (snv_cons (snd_n (pv 3)) (snv_cons (snd_n (pv 5)) snv_nil)))) (by decide) | exact sns_set (i := 2) (snd_lc (own := [("low", 3), ("high", 4), ("hue", 5)]) rfl sc_Net_roads_at.nd (blkOk_by (N := N_Net_roads_at) (sc := defScope st_Net_roads_at) (by decide +kernel)) (sni_seq (snd_fld T.ins.cl T.na__roads (sno_n (pv 0)))) (fun _ _ _ _ _ => (sng_t rfl (sngs_cons (sng_n (pg_name (i := 3) sc_Net_roads_at.nd rfl (by first | exact Or.inl rfl | exact Or.inr rfl))) (sngs_cons (sng_n (pg_name (i := 4) sc_Net_roads_at.nd rfl (by first | exact Or.inl rfl | exact Or.inr rfl))) (sngs_cons (sng_n (pg_name (i := 5) sc_Net_roads_at.nd rfl (by first | exact Or.inl rfl | exact Or.inr rfl))) sngs_nil))))) (fun _ _ _ _ _ => (snts_one (snt_cmp (ok_eq (Rm.blk (rm_of room))) (sno_n (pv 4)) (sno_n (pv 1)) (by rfl)))) (fun _ _ _ _ _ => (snd_tup (snv_cons (snd_n (pv 3)) (snv_cons (snd_n (pv 5)) snv_nil)))) (by decide)) (fun _ => by decide) sc_Net_roads_at.nd rfl (by first | exact Or.inl rfl | exact Or.inr rfl)) (sns_cons (by first | exact sns_setLc (i := 6) (own := [("low", 3), ("high", 4), ("hue", 5)]) (fun _ => by decide) rfl rfl rfl rfl sc_Net_roads_at.nd  (blkOk_by (N := N_Net_roads_at) (sc := defScope st_Net_roads_at) (by decide +kernel)) (sni_seq (snd_fld T.ins.cl T.na__roads (sno_n (pv 0)))) (fun _ _ _ _ _ => (sng_t rfl (sngs_cons (sng_n (pg_name (i := 3) sc_Net_roads_at.nd rfl (by first | exact Or.inl rfl | exact Or.inr rfl))) (sngs_cons (sng_n (pg_name (i := 4) sc_Net_roads_at.nd rfl (by first | exact Or.inl rfl | exact Or.inr rfl))) (sngs_cons (sng_n (pg_name (i := 5) sc_Net_roads_at.nd rfl (by first | exact Or.inl rfl | exact Or.inr rfl))) sngs_nil))))) (fun _ _ _ _ _ => (snts_one (snt_cmp (ok_eq (Rm.blk (rm_of room))) (sno_n (pv 3)) (sno_n (pv 1)) (by rfl)))) (fun _ _ _ _ _ => (snd_tup (snv_cons (snd_n (pv 4)) (snv_cons (snd_n (pv 5)) snv_nil)))) (by decide) | exact sns_set (i := 6) (snd_lc (own := [("low", 3), ("high", 4), ("hue", 5)]) rfl sc_Net_roads_at.nd (blkOk_by (N := N_Net_roads_at) (sc := defScope st_Net_roads_at) (by decide +kernel)) (sni_seq (snd_fld T.ins.cl T.na__roads (sno_n (pv 0)))) (fun _ _ _ _ _ => (sng_t rfl (sngs_cons (sng_n (pg_name (i := 3) sc_Net_roads_at.nd rfl (by first | exact Or.inl rfl | exact Or.inr rfl))) (sngs_cons (sng_n (pg_name (i := 4) sc_Net_roads_at.nd rfl (by first | exact Or.inl rfl | exact Or.inr rfl))) (sngs_cons (sng_n (pg_name (i := 5) sc_Net_roads_at.nd rfl (by first | exact Or.inl rfl | exact Or.inr rfl))) sngs_nil))))) (fun _ _ _ _ _ => (snts_one (snt_cmp (ok_eq (Rm.blk (rm_of room))) (sno_n (pv 3)) (sno_n (pv 1)) (by rfl)))) (fun _ _ _ _ _ => (snd_tup (snv_cons (snd_n (pv 4)) (snv_cons (snd_n (pv 5)) snv_nil)))) (by decide)) (fun _ => by decide) sc_Net_roads_at.nd rfl (by first | exact Or.inl rfl | exact Or.inr rfl)) (sns_one (sns_ret (snd_tup (snv_star (snd_n (pv 2)) (snv_star (snd_n (pv 6)) snv_nil))))))))
theorem G_pair_of (T : Tp K mg) : FnG P w K mg base 1 T.a_pair_of T.fd_pair_of ps_pair_of (spP K 2 (F_pair_of T.aNet)) :=
  fn_pure T.F_pair_of sc_pair_of (by decide) fun cdv A outer s H E room gd => by
    unfold sv_pair_of
    exact (sns_one (sns_ret (snd_tup (snv_cons (snd_cb (ok_min (rm_of room)) (sna_cons (sno_n (pv 0)) (sna_cons (sno_n (pv 1)) sna_nil)) rfl T.n_min rfl) (snv_cons (snd_cb (ok_max (rm_of room)) (sna_cons (sno_n (pv 0)) (sna_cons (sno_n (pv 1)) sna_nil)) rfl T.n_max rfl) snv_nil)))))
theorem G_Net_hue (T : Tp K mg) : FnG P w K mg base 13 T.a_Net_hue T.fd_Net_hue ps_Net_hue (spP K 3 (F_Net_hue T.aNet)) :=
  fn_pure T.F_Net_hue sc_Net_hue (by decide) fun cdv A outer s H E room gd => by
    unfold sv_Net_hue
    exact (sns_cons (sns_expr (snd_call (fun_at (G_need_place T) (room.mono (by decide)) gd (kb_need_place T) (takes_of rfl rfl rfl rfl) (fun l h => by match l, h with | [_, _], _ => rfl)) (snv_cons (snd_n (pv 1)) (snv_cons (snd_fld T.ins.cl T.na__size (sno_n (pv 0))) snv_nil)) lenV2 rfl T.g_need_place T.kp_need_place)) (sns_cons (sns_expr (snd_call (fun_at (G_need_place T) (room.mono (by decide)) gd (kb_need_place T) (takes_of rfl rfl rfl rfl) (fun l h => by match l, h with | [_, _], _ => rfl)) (snv_cons (snd_n (pv 2)) (snv_cons (snd_fld T.ins.cl T.na__size (sno_n (pv 0))) snv_nil)) lenV2 rfl T.g_need_place T.kp_need_place)) (sns_one (sns_ret (snd_get1 (rm_of room) (sno_e (snd_fld T.ins.cl T.na__hues (sno_n (pv 0)))) (sno_e (snd_call (fun_at (G_pair_of T) (room.mono (by decide)) gd (kb_pair_of T) (takes_of rfl rfl rfl rfl) (fun l h => by match l, h with | [_, _], _ => rfl)) (snv_cons (snd_n (pv 1)) (snv_cons (snd_n (pv 2)) snv_nil)) lenV2 rfl T.g_pair_of T.kp_pair_of)) ⟨rfl, rfl, rfl, rfl⟩)))))
theorem G_l_right (T : Tp K mg) : FnG P w K mg base 22 T.a_l_right T.fd_l_right ps_l_right (spM K 1 (F_l_right T.aNet)) :=
  fn_mut T.F_l_right sc_l_right (by decide) fun cdv A outer s H E room gd => by
    unfold sv_l_right
    exact (sns_cons (sns_set (i := 1) (snd_lst snv_nil) (fun _ => by decide) sc_l_right.nd rfl (by first | exact Or.inl rfl | exact Or.inr rfl)) (sns_cons (sns_for (passes_of rfl) rfl (sni_range1 sno_int rfl T.n_range) (sng_n (pg_name (i := 2) sc_l_right.nd rfl (by first | exact Or.inl rfl | exact Or.inr rfl))) (fun _ => by decide) (sns_cons (sns_set (i := 3) (snd_bin ok_add sno_int (sno_e (snd_mut (mut_at (G_l_dip T) (room.mono (by decide)) gd (kb_l_dip T) (takes_of rfl rfl rfl rfl) (fun l h => by match l, h with | [_, _], _ => rfl)) (pv 0) (snv_cons snd_int snv_nil) lenV1 rfl T.g_l_dip T.kp_l_dip))) (fun _ => by decide) sc_l_right.nd rfl (by first | exact Or.inl rfl | exact Or.inr rfl)) (sns_cons (sns_set (i := 4) (snd_mut (mut_at (G_l_roads T) (room.mono (by decide)) gd (kb_l_roads T) (takes_of rfl rfl rfl rfl) (fun l h => by match l, h with | [_, _], _ => rfl)) (pv 0) (snv_cons (snd_n (pv 3)) snv_nil) lenV1 rfl T.g_l_roads T.kp_l_roads) (fun _ => by decide) sc_l_right.nd rfl (by first | exact Or.inl rfl | exact Or.inr rfl)) (sns_cons (by first | exact sns_par3 (i := 7) (j := 8) (l := 9) (snl_cons (snd_make (make_at T.mkN (G_NetD_initD T) (room.mono (by decide)) gd (kb_NetD_initD T) (takes_of rfl rfl rfl rfl) (fun y l h => by match l, h with | [_, _], _ => exact ⟨rfl, rfl⟩)) (snv_cons (snd_n (pv 3)) (snv_cons (snd_n (pv 4)) snv_nil)) (lenV2 ) rfl T.g_Net T.mkN.kp) (snl_cons (snd_call (fun_at (G_l_text T) (room.mono (by decide)) gd (kb_l_text T) (takes_of rfl rfl rfl rfl) (fun l h => by match l, h with | [_, _], _ => rfl)) (snv_cons (snd_n (pv 3)) (snv_cons (snd_n (pv 4)) snv_nil)) lenV2 rfl T.g_l_text T.kp_l_text) (snl_cons (snd_call (fun_at (G_l_hues T) (room.mono (by decide)) gd (kb_l_hues T) (takes_of rfl rfl rfl rfl) (fun l h => by match l, h with | [_], _ => rfl)) (snv_cons (snd_n (pv 4)) snv_nil) lenV1 rfl T.g_l_hues T.kp_l_hues) snl_nil))) (fun _ => by decide) rfl sc_l_right.nd rfl rfl rfl (by decide) (by decide) (by decide) rfl rfl rfl rfl | exact sns_parT (snl_cons (snd_make (make_at T.mkN (G_NetD_initD T) (room.mono (by decide)) gd (kb_NetD_initD T) (takes_of rfl rfl rfl rfl) (fun y l h => by match l, h with | [_, _], _ => exact ⟨rfl, rfl⟩)) (snv_cons (snd_n (pv 3)) (snv_cons (snd_n (pv 4)) snv_nil)) (lenV2 ) rfl T.g_Net T.mkN.kp) (snl_cons (snd_call (fun_at (G_l_text T) (room.mono (by decide)) gd (kb_l_text T) (takes_of rfl rfl rfl rfl) (fun l h => by match l, h with | [_, _], _ => rfl)) (snv_cons (snd_n (pv 3)) (snv_cons (snd_n (pv 4)) snv_nil)) lenV2 rfl T.g_l_text T.kp_l_text) (snl_cons (snd_call (fun_at (G_l_hues T) (room.mono (by decide)) gd (kb_l_hues T) (takes_of rfl rfl rfl rfl) (fun l h => by match l, h with | [_], _ => rfl)) (snv_cons (snd_n (pv 4)) snv_nil) lenV1 rfl T.g_l_hues T.kp_l_hues) snl_nil))) (fun _ => by decide) rfl (NmOk.cons (i := 7) (pg_name sc_l_right.nd rfl (by first | exact Or.inl rfl | exact Or.inr rfl)) rfl (NmOk.cons (i := 8) (pg_name sc_l_right.nd rfl (by first | exact Or.inl rfl | exact Or.inr rfl)) rfl (NmOk.cons (i := 9) (pg_name sc_l_right.nd rfl (by first | exact Or.inl rfl | exact Or.inr rfl)) rfl NmOk.nil)))) (sns_cons (sns_set (i := 5) (snd_lst (snv_cons (snd_prop (near1 (room.mono (by decide)) gd) (G_Net_size T) (kb_Net_size T) (fun l h => by match l, h with | [_], _ => rfl) T.ins.cl T.prop_Net_size (snd_n (pv 7))) (snv_cons (snd_prop (near1 (room.mono (by decide)) gd) (G_Net_roads T) (kb_Net_roads T) (fun l h => by match l, h with | [_], _ => rfl) T.ins.cl T.prop_Net_roads (snd_n (pv 7))) (snv_cons (snd_cb (cok_or2 (ok_lenO (near1 (room.mono (by decide)) gd) (G_NetD_lenD T) (kb_NetD_lenD T) (fun l h => by match l, h with | [_], _ => rfl) T.at_NetD_lenD T.fn_NetD_lenD) ok_len) (sna_cons (sno_n (pv 7)) sna_nil) rfl T.n_len rfl) (snv_cons (snd_ct (cok_or2 (ok_strO (rm_of room) (near2 (room.mono (by decide)) gd) (G_NetD_strD T) (kb_NetD_strD T) (fun l h => by match l, h with | [_], _ => rfl) T.at_NetD_strD T.fn_NetD_strD) ok_str) (sna_cons (sno_n (pv 7)) sna_nil) rfl T.n_str rfl) (snv_cons (snd_cb (cok_or2 (ok_reprO (rm_of room) (near1 (room.mono (by decide)) gd) (G_NetD_reprD T) (kb_NetD_reprD T) (fun l h => by match l, h with | [_], _ => rfl) T.at_NetD_reprD T.fn_NetD_reprD) (ok_repr (rm_of room) gd)) (sna_cons (sno_n (pv 7)) sna_nil) rfl T.n_repr rfl) snv_nil)))))) (fun _ => by decide) sc_l_right.nd rfl (by first | exact Or.inl rfl | exact Or.inr rfl)) (sns_cons (sns_if (snt_cmp (ok_ne (rm_of room)) (sno_e (snd_cb (cok_or2 (ok_reprO (rm_of room) (near1 (room.mono (by decide)) gd) (G_NetD_reprD T) (kb_NetD_reprD T) (fun l h => by match l, h with | [_], _ => rfl) T.at_NetD_reprD T.fn_NetD_reprD) (ok_repr (rm_of room) gd)) (sna_cons (sno_n (pv 5)) sna_nil) rfl T.n_repr rfl)) (sno_e (snd_cb (cok_or2 (ok_reprO (rm_of room) (near1 (room.mono (by decide)) gd) (G_NetD_reprD T) (kb_NetD_reprD T) (fun l h => by match l, h with | [_], _ => rfl) T.at_NetD_reprD T.fn_NetD_reprD) (ok_repr (rm_of room) gd)) (sna_cons (sno_e (snd_lst (snv_cons (snd_n (pv 3)) (snv_cons (snd_n (pv 4)) (snv_cons (snd_cb (cok_or2 (ok_lenO (near1 (room.mono (by decide)) gd) (G_NetD_lenD T) (kb_NetD_lenD T) (fun l h => by match l, h with | [_], _ => rfl) T.at_NetD_lenD T.fn_NetD_lenD) ok_len) (sna_cons (sno_n (pv 4)) sna_nil) rfl T.n_len rfl) (snv_cons (snd_n (pv 8)) (snv_cons (snd_bin ok_add (sno_e (snd_bin ok_add sno_str (sno_e (snd_ct (cok_or2 (ok_strO (rm_of room) (near2 (room.mono (by decide)) gd) (G_NetD_strD T) (kb_NetD_strD T) (fun l h => by match l, h with | [_], _ => rfl) T.at_NetD_strD T.fn_NetD_strD) ok_str) (sna_cons (sno_n (pv 3)) sna_nil) rfl T.n_str rfl)))) sno_str) snv_nil))))))) sna_nil) rfl T.n_repr rfl)) (by rfl)) (sns_one (sns_ret snd_bl)) sns_nil) (sns_cons (sns_if (SndW.t (snw_or (snt_cmp (ok_or2 (ok_neO (rm_of room) T.ins T.nf (near1 (room.mono (by decide)) gd) (G_NetD_eqD T) (kb_NetD_eqD T) (fun l h => by match l, h with | [_, _], _ => rfl) T.ne_Net T.at_NetD_eqD T.fn_NetD_eqD) (ok_ne (rm_of room))) (sno_e (snd_sta (fun_at (G_Net_read T) (room.mono (by decide)) gd (kb_Net_read T) (takes_of rfl rfl rfl rfl) (fun l h => by match l, h with | [_], _ => rfl)) (pe_glob (v := .ref T.aNet) rfl T.g_Net rfl) T.sta_Net_read (snv_cons (snd_n (pv 8)) snv_nil) lenV1)) (sno_n (pv 7)) (by rfl)) (snw_or (snt_cmp (ok_or2 (ok_neO (rm_of room) T.ins T.nf (near1 (room.mono (by decide)) gd) (G_NetD_eqD T) (kb_NetD_eqD T) (fun l h => by match l, h with | [_, _], _ => rfl) T.ne_Net T.at_NetD_eqD T.fn_NetD_eqD) (ok_ne (rm_of room))) (sno_e (snd_staK0 (fun_at (G_Net_read T) (room.mono (by decide)) gd (kb_Net_read_0_text T) (takes_of rfl rfl rfl rfl) (fun l h => by match l, h with | [_], _ => rfl)) (pe_glob (v := .ref T.aNet) rfl T.g_Net rfl) T.sta_Net_read (snk_cons (snd_n (pv 8)) snk_nil) lenV1)) (sno_e (snd_makeK0 (make_at T.mkN (G_NetD_initD T) (room.mono (by decide)) gd (kb_NetD_initD_1_roads_size T) (takes_of rfl rfl rfl rfl) (fun y l h => by match l, h with | [_, _], _ => exact ⟨rfl, rfl⟩)) (snk_cons (snd_n (pv 4)) (snk_cons (snd_n (pv 3)) snk_nil)) lenV2 rfl T.g_Net T.mkN.kp)) (by rfl)) (snw_or (snt_not (snt_truO (near0 (room.mono (by decide)) gd) (G_NetD_boolD T) (kb_NetD_boolD T) (fun l h => by match l, h with | [_], _ => rfl) T.at_NetD_boolD T.fn_NetD_boolD (sno_n (pv 7)) (fun _ => rfl))) (snw_or1 (snt_cmp (ok_or2 (ok_eqO (rm_of room) T.ins T.nf (near0 (room.mono (by decide)) gd) (G_NetD_eqD T) (kb_NetD_eqD T) (fun l h => by match l, h with | [_, _], _ => rfl) T.at_NetD_eqD T.fn_NetD_eqD) (ok_eq (rm_of room))) (sno_n (pv 7)) (sno_n (pv 8)) (by rfl))))))) (sns_one (sns_ret snd_bl)) sns_nil) (sns_cons (sns_for (passes_of rfl) rfl (sni_range1 (sno_n (pv 3)) rfl T.n_range) (sng_n (pg_name (i := 6) sc_l_right.nd rfl (by first | exact Or.inl rfl | exact Or.inr rfl))) (fun _ => by decide) (sns_cons (sns_set (i := 10) (snd_ct ok_tuple (sna_cons (sno_e (snd_lc (own := [("_law_j", 11)]) rfl sc_l_right.nd (blkOk_by (N := N_l_right) (sc := defScope st_l_right) (by decide +kernel)) (sni_range1 (sno_n (pv 3)) rfl T.n_range) (fun _ _ _ _ _ => (sng_n (pg_name (i := 11) sc_l_right.nd rfl (by first | exact Or.inl rfl | exact Or.inr rfl)))) (fun _ _ _ _ _ => (snts_one (snt_in (Rm.blk (rm_of room)) (sno_e (snd_tup (snv_cons (snd_n (pv 6)) (snv_cons (snd_n (pv 11)) snv_nil)))) (sno_n (pv 9))))) (fun _ _ _ _ _ => (snd_tup (snv_cons (snd_n (pv 11)) (snv_cons (snd_ix (Rm.blk (rm_of room)) (sno_n (pv 9)) (sno_e (snd_tup (snv_cons (snd_n (pv 6)) (snv_cons (snd_n (pv 11)) snv_nil)))) (fun _ _ => rfl)) snv_nil)))) (by decide))) sna_nil) rfl T.n_tuple rfl) (fun _ => by decide) sc_l_right.nd rfl (by first | exact Or.inl rfl | exact Or.inr rfl)) (sns_cons (sns_if (snt_cmp (ok_ne (rm_of room)) (sno_e (snd_cb (cok_or2 (ok_reprO (rm_of room) (near1 (room.mono (by decide)) gd) (G_NetD_reprD T) (kb_NetD_reprD T) (fun l h => by match l, h with | [_], _ => rfl) T.at_NetD_reprD T.fn_NetD_reprD) (ok_repr (rm_of room) gd)) (sna_cons (sno_e (snd_lst (snv_cons (snd_meth (fun_at (G_Net_roads_at T) (room.mono (by decide)) gd (kb_Net_roads_at T) (takes_of rfl rfl rfl rfl) (fun l h => by match l, h with | [_, _], _ => rfl)) (snd_n (pv 7)) T.ins.cl T.me_Net_roads_at (snv_cons (snd_n (pv 6)) snv_nil) lenV1) (snv_cons (snd_methK0 (fun_at (G_Net_roads_at T) (room.mono (by decide)) gd (kb_Net_roads_at_1_place T) (takes_of rfl rfl rfl rfl) (fun l h => by match l, h with | [_, _], _ => rfl)) (snd_n (pv 7)) T.ins.cl T.me_Net_roads_at (snk_cons (snd_n (pv 6)) snk_nil) lenV1) snv_nil)))) sna_nil) rfl T.n_repr rfl)) (sno_e (snd_cb (cok_or2 (ok_reprO (rm_of room) (near1 (room.mono (by decide)) gd) (G_NetD_reprD T) (kb_NetD_reprD T) (fun l h => by match l, h with | [_], _ => rfl) T.at_NetD_reprD T.fn_NetD_reprD) (ok_repr (rm_of room) gd)) (sna_cons (sno_e (snd_lst (snv_cons (snd_n (pv 10)) (snv_cons (snd_n (pv 10)) snv_nil)))) sna_nil) rfl T.n_repr rfl)) (by rfl)) (sns_one (sns_ret snd_bl)) sns_nil) (sns_one (sns_for (passes_of rfl) rfl (sni_range1 (sno_n (pv 3)) rfl T.n_range) (sng_n (pg_name (i := 11) sc_l_right.nd rfl (by first | exact Or.inl rfl | exact Or.inr rfl))) (fun _ => by decide) (sns_one (sns_if (snt_cmp (ok_ne (rm_of room)) (sno_e (snd_cb (cok_or2 (ok_reprO (rm_of room) (near1 (room.mono (by decide)) gd) (G_NetD_reprD T) (kb_NetD_reprD T) (fun l h => by match l, h with | [_], _ => rfl) T.at_NetD_reprD T.fn_NetD_reprD) (ok_repr (rm_of room) gd)) (sna_cons (sno_e (snd_lst (snv_cons (snd_meth (fun_at (G_Net_hue T) (room.mono (by decide)) gd (kb_Net_hue T) (takes_of rfl rfl rfl rfl) (fun l h => by match l, h with | [_, _, _], _ => rfl)) (snd_n (pv 7)) T.ins.cl T.me_Net_hue (snv_cons (snd_n (pv 6)) (snv_cons (snd_n (pv 11)) snv_nil)) lenV2) (snv_cons (snd_methK0 (fun_at (G_Net_hue T) (room.mono (by decide)) gd (kb_Net_hue_1_two_one T) (takes_of rfl rfl rfl rfl) (fun l h => by match l, h with | [_, _, _], _ => rfl)) (snd_n (pv 7)) T.ins.cl T.me_Net_hue (snk_cons (snd_n (pv 11)) (snk_cons (snd_n (pv 6)) snk_nil)) lenV2) snv_nil)))) sna_nil) rfl T.n_repr rfl)) (sno_e (snd_cb (cok_or2 (ok_reprO (rm_of room) (near1 (room.mono (by decide)) gd) (G_NetD_reprD T) (kb_NetD_reprD T) (fun l h => by match l, h with | [_], _ => rfl) T.at_NetD_reprD T.fn_NetD_reprD) (ok_repr (rm_of room) gd)) (sna_cons (sno_e (snd_bin ok_mul (sno_e (snd_lst (snv_cons (snd_get1 (rm_of room) (sno_n (pv 9)) (sno_e (snd_tup (snv_cons (snd_n (pv 6)) (snv_cons (snd_n (pv 11)) snv_nil)))) ⟨rfl, rfl, rfl, rfl⟩) snv_nil))) sno_int)) sna_nil) rfl T.n_repr rfl)) (by rfl)) (sns_one (sns_ret snd_bl)) sns_nil))))))) (sns_one (sns_expr (snd_app (pv 1) (snd_n (pv 7))))))))))))) (sns_cons (sns_for (passes_of rfl) rfl (sni_seq (snd_n (pv 1))) (sng_n (pg_name (i := 12) sc_l_right.nd rfl (by first | exact Or.inl rfl | exact Or.inr rfl))) (fun _ => by decide) (sns_one (sns_if (snt_cmp (ok_ne (rm_of room)) (sno_e (snd_lc (own := [("_law_two", 13)]) rfl sc_l_right.nd (blkOk_by (N := N_l_right) (sc := defScope st_l_right) (by decide +kernel)) (sni_seq (snd_n (pv 1))) (fun _ _ _ _ _ => (sng_n (pg_name (i := 13) sc_l_right.nd rfl (by first | exact Or.inl rfl | exact Or.inr rfl)))) (fun _ _ _ _ _ => snts_nil) (fun _ _ _ _ _ => (snd_cmp (ok_eq (Rm.blk (rm_of room))) (sno_e (snd_cmp (ok_or2 (ok_eqO (Rm.blk (rm_of room)) T.ins T.nf (near0 (room.mono (by decide)) gd) (G_NetD_eqD T) (kb_NetD_eqD T) (fun l h => by match l, h with | [_, _], _ => rfl) T.at_NetD_eqD T.fn_NetD_eqD) (ok_eq (Rm.blk (rm_of room)))) (sno_n (pv 12)) (sno_n (pv 13)) (by rfl))) (sno_e (snd_cmp (ok_eq (Rm.blk (rm_of room))) (sno_e (snd_ct (cok_or2 (ok_strO (Rm.blk (rm_of room)) (near2 (room.mono (by decide)) gd) (G_NetD_strD T) (kb_NetD_strD T) (fun l h => by match l, h with | [_], _ => rfl) T.at_NetD_strD T.fn_NetD_strD) ok_str) (sna_cons (sno_n (pv 12)) sna_nil) rfl T.n_str rfl)) (sno_e (snd_ct (cok_or2 (ok_strO (Rm.blk (rm_of room)) (near2 (room.mono (by decide)) gd) (G_NetD_strD T) (kb_NetD_strD T) (fun l h => by match l, h with | [_], _ => rfl) T.at_NetD_strD T.fn_NetD_strD) ok_str) (sna_cons (sno_n (pv 13)) sna_nil) rfl T.n_str rfl)) (by rfl))) (by rfl))) (by decide))) (sno_e (snd_bin ok_mul (sno_e (snd_lst (snv_cons snd_bl snv_nil))) sno_int)) (by rfl)) (sns_one (sns_ret snd_bl)) sns_nil))) (sns_one (sns_ret snd_bl)))))
theorem G_l_jar (T : Tp K mg) : FnG P w K mg base 1 T.a_l_jar T.fd_l_jar ps_l_jar (spP K 2 (F_l_jar T.aNet)) :=
  fn_pure T.F_l_jar sc_l_jar (by decide) fun cdv A outer s H E room gd => by
    unfold sv_l_jar
    exact (sns_cons (sns_set (i := 2) (snd_if (snt_cmp (ok_lt (rm_of room)) (sno_n (pv 1)) (sno_e (snd_cb ok_len (sna_cons (sno_n (pv 0)) sna_nil) rfl T.n_len rfl)) (by rfl)) (snd_ix (rm_of room) (sno_n (pv 0)) (sno_n (pv 1)) (fun _ _ => rfl)) (snd_bin ok_add (sno_e (snd_bin ok_mul sno_int (sno_n (pv 1)))) sno_int)) (fun _ => by decide) sc_l_jar.nd rfl (by first | exact Or.inl rfl | exact Or.inr rfl)) (sns_cons (sns_set (i := 3) (snd_bin ok_add sno_int (sno_e (snd_bin ok_mul sno_int (sno_n (pv 1))))) (fun _ => by decide) sc_l_jar.nd rfl (by first | exact Or.inl rfl | exact Or.inr rfl)) (sns_cons (sns_for (passes_of rfl) rfl (sni_seq (snd_bin ok_add (sno_e (snd_sl (sno_n (pv 0)) op_none (op_some sno_int))) (sno_e (snd_lst (snv_cons (snd_n (pv 2)) snv_nil))))) (sng_n (pg_name (i := 4) sc_l_jar.nd rfl (by first | exact Or.inl rfl | exact Or.inr rfl))) (fun _ => by decide) (sns_one (sns_set (i := 3) (snd_bin ok_mod (sno_e (snd_ct ok_int (sna_cons (sno_e (snd_bin ok_add (sno_e (snd_bin ok_mul (sno_n (pv 3)) sno_int)) (sno_n (pv 4)))) sna_nil) rfl T.n_int rfl)) sno_int) (fun _ => by decide) sc_l_jar.nd rfl (by first | exact Or.inl rfl | exact Or.inr rfl)))) (sns_one (sns_ret (snd_lst (snv_cons (snd_if (SndW.t (snw_or (snt_cmp (ok_lt (rm_of room)) (sno_n (pv 2)) sno_int (by rfl)) (snw_or1 (snt_cmp ok_ge (sno_n (pv 2)) (sno_e (snd_bin ok_pow sno_int sno_int)) (by rfl))))) (snd_cb ok_abs (sna_cons (sno_n (pv 2)) sna_nil) rfl T.n_abs rfl) snd_int) (snv_cons (snd_n (pv 3)) (snv_cons snd_int snv_nil)))))))))
theorem G_law (T : Tp K mg) : FnG P w K mg base 25 T.a_law T.fd_law ps_law (spP K 1 (F_law T.aNet)) :=
  fn_pure T.F_law sc_law (by decide) fun cdv A outer s H E room gd => by
    unfold sv_law
    exact (sns_one (sns_ret (snd_cb (ok_all (rm_of room)) (sna_cons (sno_e (snd_lc (own := [("_law_turn", 1)]) rfl sc_law.nd (blkOk_by (N := N_law) (sc := defScope st_law) (by decide +kernel)) (sni_range1 (sno_e (snd_cb (ok_max (rm_of room)) (sna_cons sno_int (sna_cons (sno_e (snd_cb (ok_min (rm_of room)) (sna_cons (sno_e (snd_cb ok_len (sna_cons (sno_n (pv 0)) sna_nil) rfl T.n_len rfl)) (sna_cons sno_int sna_nil)) rfl T.n_min rfl)) sna_nil)) rfl T.n_max rfl)) rfl T.n_range) (fun _ _ _ _ _ => (sng_n (pg_name (i := 1) sc_law.nd rfl (by first | exact Or.inl rfl | exact Or.inr rfl)))) (fun _ _ _ _ _ => snts_nil) (fun _ _ _ _ _ => (snd_mut1 (mut_at (G_l_right T) (room.mono (by decide)) gd (kb_l_right T) takes_WF (fun l h => by match l, h with | [_], _ => rfl)) (snd_call (fun_at (G_l_jar T) (room.mono (by decide)) gd (kb_l_jar T) takes_WF (fun l h => by match l, h with | [_, _], _ => rfl)) (snv_cons (snd_n (pv 0)) (snv_cons (snd_n (pv 1)) snv_nil)) lenV2 rfl T.g_l_jar T.kp_l_jar) rfl T.g_l_right T.kp_l_right)) (by decide))) sna_nil) rfl T.n_all rfl)))
end
end Mp
set_option Elab.async false
set_option linter.all false
set_option maxRecDepth 100000
namespace Mp
open PySem PySem.Spec PyProof.Rows L2 Evl
abbrev jarO (a b c : Int) : Own := .lst [.int a, .int b, .int c]
theorem sizeL : (1000 : Nat) ≤ sizeLine := by rw [sizeLine_eq]; decide
theorem dip_ok (C : Addr) (a b c top : Int) (h1 : 0 < top) (h2 : top < 1073741824) : ∃ v a' b' c', F_l_dip C (jarO a b c) [.int top] = (.val (.int v), jarO a' b' c') ∧ 0 ≤ v ∧ v < top := by
  have hm : ∀ x : Int, 0 ≤ x % top ∧ x % top < top := fun x => ⟨Int.emod_nonneg _ (by omega), Int.emod_lt_of_pos _ h1⟩
  by_cases ha : 0 < a
  · refine ⟨a % top, a / top, b, c + 1, ?_, hm _⟩
    simp [F_l_dip, sv_l_dip, jarO, b_ok, b_stk, b_exc, s_ok, s_stk, s_exc, t_nx, t_ret, t_bk, t_ct, t_exc, t_stk, a_sNil, a_sStk, a_sCons, a_sRet, a_sRetN, a_sDrop, a_sSet, a_sIf, k_sif1, k_sif0, a_sFor, a_sTgt, a_sPar, a_eC, a_oC, a_oE, a_e1, a_e2, k_e2, a_e3, k_e3, k_e3b, k_e3t, k_e3f, a_tv, a_tTr, a_tTrO, a_tAnd, k_and1, k_and0, a_tOr, k_or1, k_or0, a_tNot, a_tT, a_eAnd, k_eand1, k_eand0, a_eOr, k_eor1, k_eor0, a_eNot, a_eIf, k_eif1, k_eif0, a_eIx, a_eCB, a_aNil, a_aCons, k_a, a_vNil, a_vCons, k_v, a_vStar, k_vs1, k_vs2, k_vs3, a_lNil, a_lCons, k_l, a_eTup, a_eLst, a_pNone, a_pSome, a_eSl, k_sl, k_sl2, k_sl3, a_eCall, k_call, k_call2, a_eMut1, a_eMake, k_make, k_make2, a_eMeth, k_meth, k_meth2, k_meth3, a_eProp, a_eMt, k_mt, k_mt2, a_eDT, a_iSeq, a_iEn, a_iRange1, a_iRange2, k_r2, a_two, a_oN, a_eN, a_rdS, a_eMut, a_eApp, a_sSetIx, a_sDput, a_sFldC, a_gN, a_rd, runP, runM, startR, startM, foOf, ownOf, rdAll, ofFO, ofFO0, dIx, atI, ixN, dSl, okR, dAdd, dSub, dMul, okMul, dDiv, dMod, dPow, dLt, dGt, dGe, dLe, dMin, dMax, dAbs, dInt, dStr, dLen, dDivmod, dAll, dOr, dOr2, dListOf, dListStr, dTupOf, dIsN, dNotN, isNon, vB, vI, vS, Rv.data, Own.data, cellOf, sel, truD, isDct, gT, gIx, gSeq, wipeR, ha, h1, h2]
  · refine ⟨(b * 48271 + 60013 * (c + 1)) % 2147483399 / 512 % top, a, (b * 48271 + 60013 * (c + 1)) % 2147483399, c + 1, ?_, hm _⟩
    simp [F_l_dip, sv_l_dip, jarO, b_ok, b_stk, b_exc, s_ok, s_stk, s_exc, t_nx, t_ret, t_bk, t_ct, t_exc, t_stk, a_sNil, a_sStk, a_sCons, a_sRet, a_sRetN, a_sDrop, a_sSet, a_sIf, k_sif1, k_sif0, a_sFor, a_sTgt, a_sPar, a_eC, a_oC, a_oE, a_e1, a_e2, k_e2, a_e3, k_e3, k_e3b, k_e3t, k_e3f, a_tv, a_tTr, a_tTrO, a_tAnd, k_and1, k_and0, a_tOr, k_or1, k_or0, a_tNot, a_tT, a_eAnd, k_eand1, k_eand0, a_eOr, k_eor1, k_eor0, a_eNot, a_eIf, k_eif1, k_eif0, a_eIx, a_eCB, a_aNil, a_aCons, k_a, a_vNil, a_vCons, k_v, a_vStar, k_vs1, k_vs2, k_vs3, a_lNil, a_lCons, k_l, a_eTup, a_eLst, a_pNone, a_pSome, a_eSl, k_sl, k_sl2, k_sl3, a_eCall, k_call, k_call2, a_eMut1, a_eMake, k_make, k_make2, a_eMeth, k_meth, k_meth2, k_meth3, a_eProp, a_eMt, k_mt, k_mt2, a_eDT, a_iSeq, a_iEn, a_iRange1, a_iRange2, k_r2, a_two, a_oN, a_eN, a_rdS, a_eMut, a_eApp, a_sSetIx, a_sDput, a_sFldC, a_gN, a_rd, runP, runM, startR, startM, foOf, ownOf, rdAll, ofFO, ofFO0, dIx, atI, ixN, dSl, okR, dAdd, dSub, dMul, okMul, dDiv, dMod, dPow, dLt, dGt, dGe, dLe, dMin, dMax, dAbs, dInt, dStr, dLen, dDivmod, dAll, dOr, dOr2, dListOf, dListStr, dTupOf, dIsN, dNotN, isNon, vB, vI, vS, Rv.data, Own.data, cellOf, sel, truD, isDct, gT, gIx, gSeq, wipeR, ha, h1, h2]
theorem one_of_ok (C : Addr) (a b c : Int) (xs : List D) (h1 : xs ≠ []) (h2 : xs.length < 1073741824) : ∃ x a' b' c', F_l_one_of C (jarO a b c) [.lst xs] = (.val x, jarO a' b' c') ∧ x ∈ xs := by
  have hp : 0 < xs.length := List.length_pos_iff.mpr h1
  obtain ⟨v, a', b', c', hv, v0, v1⟩ := dip_ok C a b c xs.length (by omega) (by omega)
  have hlt : v.toNat < xs.length := by omega
  refine ⟨xs[v.toNat], a', b', c', ?_, List.getElem_mem _⟩
  simp [F_l_one_of, sv_l_one_of, b_ok, b_stk, b_exc, s_ok, s_stk, s_exc, t_nx, t_ret, t_bk, t_ct, t_exc, t_stk, a_sNil, a_sStk, a_sCons, a_sRet, a_sRetN, a_sDrop, a_sSet, a_sIf, k_sif1, k_sif0, a_sFor, a_sTgt, a_sPar, a_eC, a_oC, a_oE, a_e1, a_e2, k_e2, a_e3, k_e3, k_e3b, k_e3t, k_e3f, a_tv, a_tTr, a_tTrO, a_tAnd, k_and1, k_and0, a_tOr, k_or1, k_or0, a_tNot, a_tT, a_eAnd, k_eand1, k_eand0, a_eOr, k_eor1, k_eor0, a_eNot, a_eIf, k_eif1, k_eif0, a_eIx, a_eCB, a_aNil, a_aCons, k_a, a_vNil, a_vCons, k_v, a_vStar, k_vs1, k_vs2, k_vs3, a_lNil, a_lCons, k_l, a_eTup, a_eLst, a_pNone, a_pSome, a_eSl, k_sl, k_sl2, k_sl3, a_eCall, k_call, k_call2, a_eMut1, a_eMake, k_make, k_make2, a_eMeth, k_meth, k_meth2, k_meth3, a_eProp, a_eMt, k_mt, k_mt2, a_eDT, a_iSeq, a_iEn, a_iRange1, a_iRange2, k_r2, a_two, a_oN, a_eN, a_rdS, a_eMut, a_eApp, a_sSetIx, a_sDput, a_sFldC, a_gN, a_rd, runP, runM, startR, startM, foOf, ownOf, rdAll, ofFO, ofFO0, dIx, atI, ixN, dSl, okR, dAdd, dSub, dMul, okMul, dDiv, dMod, dPow, dLt, dGt, dGe, dLe, dMin, dMax, dAbs, dInt, dStr, dLen, dDivmod, dAll, dOr, dOr2, dListOf, dListStr, dTupOf, dIsN, dNotN, isNon, vB, vI, vS, Rv.data, Own.data, cellOf, sel, truD, isDct, gT, gIx, gSeq, wipeR, hv, v0, v1, hlt]
end Mp
set_option Elab.async false
set_option linter.all false
set_option maxRecDepth 100000
namespace Mp
open PySem PySem.Spec PyProof.Rows L2 Evl
theorem jar_loop (C : Addr) (A B Cc : Cell) : ∀ (l : List Int) (m : Int) (e : Cell), ∃ m' e', forL (gN 4) (lb0_l_jar C) (l.map .int) [A, B, Cc, .val (.int m), e] = .nx [A, B, Cc, .val (.int m'), e']
  | [], m, e => ⟨m, e, rfl⟩
  | i :: l, m, e => by
    obtain ⟨m', e', h⟩ := jar_loop C A B Cc l ((m * 20011 + i) % 2147482763) (.val (.int i))
    refine ⟨m', e', ?_⟩
    rw [← h, List.map_cons]
    conv => lhs; unfold forL
    simp [b_ok, b_stk, b_exc, s_ok, s_stk, s_exc, t_nx, t_ret, t_bk, t_ct, t_exc, t_stk, a_sNil, a_sStk, a_sCons, a_sRet, a_sRetN, a_sDrop, a_sSet, a_sIf, k_sif1, k_sif0, a_sFor, a_sTgt, a_sPar, a_eC, a_oC, a_oE, a_e1, a_e2, k_e2, a_e3, k_e3, k_e3b, k_e3t, k_e3f, a_tv, a_tTr, a_tTrO, a_tAnd, k_and1, k_and0, a_tOr, k_or1, k_or0, a_tNot, a_tT, a_eAnd, k_eand1, k_eand0, a_eOr, k_eor1, k_eor0, a_eNot, a_eIf, k_eif1, k_eif0, a_eIx, a_eCB, a_aNil, a_aCons, k_a, a_vNil, a_vCons, k_v, a_vStar, k_vs1, k_vs2, k_vs3, a_lNil, a_lCons, k_l, a_eTup, a_eLst, a_pNone, a_pSome, a_eSl, k_sl, k_sl2, k_sl3, a_eCall, k_call, k_call2, a_eMut1, a_eMake, k_make, k_make2, a_eMeth, k_meth, k_meth2, k_meth3, a_eProp, a_eMt, k_mt, k_mt2, a_eDT, a_iSeq, a_iEn, a_iRange1, a_iRange2, k_r2, a_two, a_oN, a_eN, a_rdS, a_eMut, a_eApp, a_sSetIx, a_sDput, a_sFldC, a_gN, a_rd, runP, runM, startR, startM, foOf, ownOf, rdAll, ofFO, ofFO0, dIx, atI, ixN, dSl, okR, dAdd, dSub, dMul, okMul, dDiv, dMod, dPow, dLt, dGt, dGe, dLe, dMin, dMax, dAbs, dInt, dStr, dLen, dDivmod, dAll, dOr, dOr2, dListOf, dListStr, dTupOf, dIsN, dNotN, isNon, vB, vI, vS, Rv.data, Own.data, cellOf, sel, truD, isDct, gT, gIx, gSeq, wipeR, lb0_l_jar]
/-- _law_jar behind its first row -/
def svj2 (C : Addr) : Sv := (sCons (sSet 3 (e2 dAdd (oC (.int 70003)) (oE (e2 dMul (oC (.int 9001)) (oN 1))))) (sCons (sFor (iSeq (e2 dAdd (oE (eSl (oN 0) pNone (pSome (oC (.int 5))))) (oE (eLst (vCons (eN 2) vNil))))) (gN 4) (lb0_l_jar C)) (sRet (eLst (vCons (eIf (tOrE (tv (e2 dLt (oN 2) (oC (.int 0)))) (tv (e2 dGe (oN 2) (oE (e2 dPow (oC (.int 10)) (oC (.int 18))))))) (eCB dAbs (aCons (oN 2) aNil)) (eC (.int 0))) (vCons (eN 3) (vCons (eC (.int 0)) vNil)))))))
theorem svj2_ok (C : Addr) (ns : List Int) (turn : Nat) (cell : Int) (h : ns.length ≤ 63) : ∃ a b c, foOf (svj2 C [.val (.scr ns), .val (.int turn), .val (.int cell), .un, .un]) = .new (jarO a b c) := by
  have hsz := sizeL
  have hcut : (cutD ns none (some 5)).length ≤ 63 := by
    unfold cutD
    rw [List.length_take, List.length_drop]; omega
  have s1 : (1 : Nat) ≤ sizeLine := by omega
  have s3 : (3 : Nat) ≤ sizeLine := by omega
  have s2 : (cutD ns none (some 5)).length + 1 ≤ sizeLine := by omega
  obtain ⟨m', e', hl⟩ := jar_loop C (.val (.scr ns)) (.val (.int turn)) (.val (.int cell)) (cutD ns none (some 5) ++ [cell]) (70003 + 9001 * turn) .un
  simp only [List.map_append, List.map_cons, List.map_nil] at hl
  by_cases h2 : cell < 0
  · refine ⟨-cell, m', 0, ?_⟩
    simp [svj2, b_ok, b_stk, b_exc, s_ok, s_stk, s_exc, t_nx, t_ret, t_bk, t_ct, t_exc, t_stk, a_sNil, a_sStk, a_sCons, a_sRet, a_sRetN, a_sDrop, a_sSet, a_sIf, k_sif1, k_sif0, a_sFor, a_sTgt, a_sPar, a_eC, a_oC, a_oE, a_e1, a_e2, k_e2, a_e3, k_e3, k_e3b, k_e3t, k_e3f, a_tv, a_tTr, a_tTrO, a_tAnd, k_and1, k_and0, a_tOr, k_or1, k_or0, a_tNot, a_tT, a_eAnd, k_eand1, k_eand0, a_eOr, k_eor1, k_eor0, a_eNot, a_eIf, k_eif1, k_eif0, a_eIx, a_eCB, a_aNil, a_aCons, k_a, a_vNil, a_vCons, k_v, a_vStar, k_vs1, k_vs2, k_vs3, a_lNil, a_lCons, k_l, a_eTup, a_eLst, a_pNone, a_pSome, a_eSl, k_sl, k_sl2, k_sl3, a_eCall, k_call, k_call2, a_eMut1, a_eMake, k_make, k_make2, a_eMeth, k_meth, k_meth2, k_meth3, a_eProp, a_eMt, k_mt, k_mt2, a_eDT, a_iSeq, a_iEn, a_iRange1, a_iRange2, k_r2, a_two, a_oN, a_eN, a_rdS, a_eMut, a_eApp, a_sSetIx, a_sDput, a_sFldC, a_gN, a_rd, runP, runM, startR, startM, foOf, ownOf, rdAll, ofFO, ofFO0, dIx, atI, ixN, dSl, okR, dAdd, dSub, dMul, okMul, dDiv, dMod, dPow, dLt, dGt, dGe, dLe, dMin, dMax, dAbs, dInt, dStr, dLen, dDivmod, dAll, dOr, dOr2, dListOf, dListStr, dTupOf, dIsN, dNotN, isNon, vB, vI, vS, Rv.data, Own.data, cellOf, sel, truD, isDct, gT, gIx, gSeq, wipeR, s1, s2, s3, hl, h2]
  · by_cases h3 : 1000000000000000000 ≤ cell
    · refine ⟨cell, m', 0, ?_⟩
      simp [svj2, b_ok, b_stk, b_exc, s_ok, s_stk, s_exc, t_nx, t_ret, t_bk, t_ct, t_exc, t_stk, a_sNil, a_sStk, a_sCons, a_sRet, a_sRetN, a_sDrop, a_sSet, a_sIf, k_sif1, k_sif0, a_sFor, a_sTgt, a_sPar, a_eC, a_oC, a_oE, a_e1, a_e2, k_e2, a_e3, k_e3, k_e3b, k_e3t, k_e3f, a_tv, a_tTr, a_tTrO, a_tAnd, k_and1, k_and0, a_tOr, k_or1, k_or0, a_tNot, a_tT, a_eAnd, k_eand1, k_eand0, a_eOr, k_eor1, k_eor0, a_eNot, a_eIf, k_eif1, k_eif0, a_eIx, a_eCB, a_aNil, a_aCons, k_a, a_vNil, a_vCons, k_v, a_vStar, k_vs1, k_vs2, k_vs3, a_lNil, a_lCons, k_l, a_eTup, a_eLst, a_pNone, a_pSome, a_eSl, k_sl, k_sl2, k_sl3, a_eCall, k_call, k_call2, a_eMut1, a_eMake, k_make, k_make2, a_eMeth, k_meth, k_meth2, k_meth3, a_eProp, a_eMt, k_mt, k_mt2, a_eDT, a_iSeq, a_iEn, a_iRange1, a_iRange2, k_r2, a_two, a_oN, a_eN, a_rdS, a_eMut, a_eApp, a_sSetIx, a_sDput, a_sFldC, a_gN, a_rd, runP, runM, startR, startM, foOf, ownOf, rdAll, ofFO, ofFO0, dIx, atI, ixN, dSl, okR, dAdd, dSub, dMul, okMul, dDiv, dMod, dPow, dLt, dGt, dGe, dLe, dMin, dMax, dAbs, dInt, dStr, dLen, dDivmod, dAll, dOr, dOr2, dListOf, dListStr, dTupOf, dIsN, dNotN, isNon, vB, vI, vS, Rv.data, Own.data, cellOf, sel, truD, isDct, gT, gIx, gSeq, wipeR, s1, s2, s3, hl, h2, h3]
    · refine ⟨0, m', 0, ?_⟩
      simp [svj2, b_ok, b_stk, b_exc, s_ok, s_stk, s_exc, t_nx, t_ret, t_bk, t_ct, t_exc, t_stk, a_sNil, a_sStk, a_sCons, a_sRet, a_sRetN, a_sDrop, a_sSet, a_sIf, k_sif1, k_sif0, a_sFor, a_sTgt, a_sPar, a_eC, a_oC, a_oE, a_e1, a_e2, k_e2, a_e3, k_e3, k_e3b, k_e3t, k_e3f, a_tv, a_tTr, a_tTrO, a_tAnd, k_and1, k_and0, a_tOr, k_or1, k_or0, a_tNot, a_tT, a_eAnd, k_eand1, k_eand0, a_eOr, k_eor1, k_eor0, a_eNot, a_eIf, k_eif1, k_eif0, a_eIx, a_eCB, a_aNil, a_aCons, k_a, a_vNil, a_vCons, k_v, a_vStar, k_vs1, k_vs2, k_vs3, a_lNil, a_lCons, k_l, a_eTup, a_eLst, a_pNone, a_pSome, a_eSl, k_sl, k_sl2, k_sl3, a_eCall, k_call, k_call2, a_eMut1, a_eMake, k_make, k_make2, a_eMeth, k_meth, k_meth2, k_meth3, a_eProp, a_eMt, k_mt, k_mt2, a_eDT, a_iSeq, a_iEn, a_iRange1, a_iRange2, k_r2, a_two, a_oN, a_eN, a_rdS, a_eMut, a_eApp, a_sSetIx, a_sDput, a_sFldC, a_gN, a_rd, runP, runM, startR, startM, foOf, ownOf, rdAll, ofFO, ofFO0, dIx, atI, ixN, dSl, okR, dAdd, dSub, dMul, okMul, dDiv, dMod, dPow, dLt, dGt, dGe, dLe, dMin, dMax, dAbs, dInt, dStr, dLen, dDivmod, dAll, dOr, dOr2, dListOf, dListStr, dTupOf, dIsN, dNotN, isNon, vB, vI, vS, Rv.data, Own.data, cellOf, sel, truD, isDct, gT, gIx, gSeq, wipeR, s1, s2, s3, hl, h2, h3]
theorem jar_ok (C : Addr) (ns : List Int) (turn : Nat) (h : ns.length ≤ 63) : ∃ a b c, F_l_jar C [.scr ns, .int turn] = .new (jarO a b c) := by
  have e : sv_l_jar C = sCons (sSet 2 (eIf (tv (e2 dLt (oN 1) (oE (eCB dLen (aCons (oN 0) aNil))))) (eIx (oN 0) (oN 1)) (e2 dAdd (oE (e2 dMul (oC (.int 37)) (oN 1))) (oC (.int 3))))) (svj2 C) := rfl
  unfold F_l_jar
  rw [e]
  by_cases ht : turn < ns.length
  · obtain ⟨a, b, c, hk⟩ := svj2_ok C ns turn ns[turn] h
    refine ⟨a, b, c, ?_⟩
    rw [← hk]
    simp [b_ok, b_stk, b_exc, s_ok, s_stk, s_exc, t_nx, t_ret, t_bk, t_ct, t_exc, t_stk, a_sNil, a_sStk, a_sCons, a_sRet, a_sRetN, a_sDrop, a_sSet, a_sIf, k_sif1, k_sif0, a_sFor, a_sTgt, a_sPar, a_eC, a_oC, a_oE, a_e1, a_e2, k_e2, a_e3, k_e3, k_e3b, k_e3t, k_e3f, a_tv, a_tTr, a_tTrO, a_tAnd, k_and1, k_and0, a_tOr, k_or1, k_or0, a_tNot, a_tT, a_eAnd, k_eand1, k_eand0, a_eOr, k_eor1, k_eor0, a_eNot, a_eIf, k_eif1, k_eif0, a_eIx, a_eCB, a_aNil, a_aCons, k_a, a_vNil, a_vCons, k_v, a_vStar, k_vs1, k_vs2, k_vs3, a_lNil, a_lCons, k_l, a_eTup, a_eLst, a_pNone, a_pSome, a_eSl, k_sl, k_sl2, k_sl3, a_eCall, k_call, k_call2, a_eMut1, a_eMake, k_make, k_make2, a_eMeth, k_meth, k_meth2, k_meth3, a_eProp, a_eMt, k_mt, k_mt2, a_eDT, a_iSeq, a_iEn, a_iRange1, a_iRange2, k_r2, a_two, a_oN, a_eN, a_rdS, a_eMut, a_eApp, a_sSetIx, a_sDput, a_sFldC, a_gN, a_rd, runP, runM, startR, startM, foOf, ownOf, rdAll, ofFO, ofFO0, dIx, atI, ixN, dSl, okR, dAdd, dSub, dMul, okMul, dDiv, dMod, dPow, dLt, dGt, dGe, dLe, dMin, dMax, dAbs, dInt, dStr, dLen, dDivmod, dAll, dOr, dOr2, dListOf, dListStr, dTupOf, dIsN, dNotN, isNon, vB, vI, vS, Rv.data, Own.data, cellOf, sel, truD, isDct, gT, gIx, gSeq, wipeR, ht]
  · obtain ⟨a, b, c, hk⟩ := svj2_ok C ns turn (37 * turn + 3) h
    refine ⟨a, b, c, ?_⟩
    rw [← hk]
    simp [b_ok, b_stk, b_exc, s_ok, s_stk, s_exc, t_nx, t_ret, t_bk, t_ct, t_exc, t_stk, a_sNil, a_sStk, a_sCons, a_sRet, a_sRetN, a_sDrop, a_sSet, a_sIf, k_sif1, k_sif0, a_sFor, a_sTgt, a_sPar, a_eC, a_oC, a_oE, a_e1, a_e2, k_e2, a_e3, k_e3, k_e3b, k_e3t, k_e3f, a_tv, a_tTr, a_tTrO, a_tAnd, k_and1, k_and0, a_tOr, k_or1, k_or0, a_tNot, a_tT, a_eAnd, k_eand1, k_eand0, a_eOr, k_eor1, k_eor0, a_eNot, a_eIf, k_eif1, k_eif0, a_eIx, a_eCB, a_aNil, a_aCons, k_a, a_vNil, a_vCons, k_v, a_vStar, k_vs1, k_vs2, k_vs3, a_lNil, a_lCons, k_l, a_eTup, a_eLst, a_pNone, a_pSome, a_eSl, k_sl, k_sl2, k_sl3, a_eCall, k_call, k_call2, a_eMut1, a_eMake, k_make, k_make2, a_eMeth, k_meth, k_meth2, k_meth3, a_eProp, a_eMt, k_mt, k_mt2, a_eDT, a_iSeq, a_iEn, a_iRange1, a_iRange2, k_r2, a_two, a_oN, a_eN, a_rdS, a_eMut, a_eApp, a_sSetIx, a_sDput, a_sFldC, a_gN, a_rd, runP, runM, startR, startM, foOf, ownOf, rdAll, ofFO, ofFO0, dIx, atI, ixN, dSl, okR, dAdd, dSub, dMul, okMul, dDiv, dMod, dPow, dLt, dGt, dGe, dLe, dMin, dMax, dAbs, dInt, dStr, dLen, dDivmod, dAll, dOr, dOr2, dListOf, dListStr, dTupOf, dIsN, dNotN, isNon, vB, vI, vS, Rv.data, Own.data, cellOf, sel, truD, isDct, gT, gIx, gSeq, wipeR, ht]
theorem law_loop (C : Addr) (ns : List Int) (h : ns.length ≤ 63) (right : ∀ a b c : Int, (F_l_right C (jarO a b c) []).1 = .val (.bl true)) : ∀ l : List Nat,
    ∃ r', lcL (gN 1) tT (ce0_law C) [1] (l.map fun i => .int (0 + (i : Nat))) [.val (.scr ns), .un] = .ok (List.replicate l.length (.bl true)) r'
  | [] => ⟨_, rfl⟩
  | i :: l => by
    obtain ⟨r', hr⟩ := law_loop C ns h right l
    obtain ⟨a, b, c, hj⟩ := jar_ok C ns i h
    refine ⟨r', ?_⟩
    rw [List.map_cons]
    unfold lcL
    simp only [Int.zero_add] at hr
    have hce : ce0_law C = eMut1 (F_l_right C) (eCall (F_l_jar C) [0, 1] (vCons (eN 0) (vCons (eN 1) vNil)) vNil) := rfl
    have hone : ce0_law C [.val (.scr ns), .val (.int i)] = .ok (.val (.bl true)) [.val (.scr ns), .val (.int i)] := by
      rw [hce]
      simp [b_ok, b_stk, b_exc, s_ok, s_stk, s_exc, t_nx, t_ret, t_bk, t_ct, t_exc, t_stk, a_sNil, a_sStk, a_sCons, a_sRet, a_sRetN, a_sDrop, a_sSet, a_sIf, k_sif1, k_sif0, a_sFor, a_sTgt, a_sPar, a_eC, a_oC, a_oE, a_e1, a_e2, k_e2, a_e3, k_e3, k_e3b, k_e3t, k_e3f, a_tv, a_tTr, a_tTrO, a_tAnd, k_and1, k_and0, a_tOr, k_or1, k_or0, a_tNot, a_tT, a_eAnd, k_eand1, k_eand0, a_eOr, k_eor1, k_eor0, a_eNot, a_eIf, k_eif1, k_eif0, a_eIx, a_eCB, a_aNil, a_aCons, k_a, a_vNil, a_vCons, k_v, a_vStar, k_vs1, k_vs2, k_vs3, a_lNil, a_lCons, k_l, a_eTup, a_eLst, a_pNone, a_pSome, a_eSl, k_sl, k_sl2, k_sl3, a_eCall, k_call, k_call2, a_eMut1, a_eMake, k_make, k_make2, a_eMeth, k_meth, k_meth2, k_meth3, a_eProp, a_eMt, k_mt, k_mt2, a_eDT, a_iSeq, a_iEn, a_iRange1, a_iRange2, k_r2, a_two, a_oN, a_eN, a_rdS, a_eMut, a_eApp, a_sSetIx, a_sDput, a_sFldC, a_gN, a_rd, runP, runM, startR, startM, foOf, ownOf, rdAll, ofFO, ofFO0, dIx, atI, ixN, dSl, okR, dAdd, dSub, dMul, okMul, dDiv, dMod, dPow, dLt, dGt, dGe, dLe, dMin, dMax, dAbs, dInt, dStr, dLen, dDivmod, dAll, dOr, dOr2, dListOf, dListStr, dTupOf, dIsN, dNotN, isNon, vB, vI, vS, Rv.data, Own.data, cellOf, sel, truD, isDct, gT, gIx, gSeq, wipeR, hj, right a b c]
    simp [b_ok, b_stk, b_exc, s_ok, s_stk, s_exc, t_nx, t_ret, t_bk, t_ct, t_exc, t_stk, a_sNil, a_sStk, a_sCons, a_sRet, a_sRetN, a_sDrop, a_sSet, a_sIf, k_sif1, k_sif0, a_sFor, a_sTgt, a_sPar, a_eC, a_oC, a_oE, a_e1, a_e2, k_e2, a_e3, k_e3, k_e3b, k_e3t, k_e3f, a_tv, a_tTr, a_tTrO, a_tAnd, k_and1, k_and0, a_tOr, k_or1, k_or0, a_tNot, a_tT, a_eAnd, k_eand1, k_eand0, a_eOr, k_eor1, k_eor0, a_eNot, a_eIf, k_eif1, k_eif0, a_eIx, a_eCB, a_aNil, a_aCons, k_a, a_vNil, a_vCons, k_v, a_vStar, k_vs1, k_vs2, k_vs3, a_lNil, a_lCons, k_l, a_eTup, a_eLst, a_pNone, a_pSome, a_eSl, k_sl, k_sl2, k_sl3, a_eCall, k_call, k_call2, a_eMut1, a_eMake, k_make, k_make2, a_eMeth, k_meth, k_meth2, k_meth3, a_eProp, a_eMt, k_mt, k_mt2, a_eDT, a_iSeq, a_iEn, a_iRange1, a_iRange2, k_r2, a_two, a_oN, a_eN, a_rdS, a_eMut, a_eApp, a_sSetIx, a_sDput, a_sFldC, a_gN, a_rd, runP, runM, startR, startM, foOf, ownOf, rdAll, ofFO, ofFO0, dIx, atI, ixN, dSl, okR, dAdd, dSub, dMul, okMul, dDiv, dMod, dPow, dLt, dGt, dGe, dLe, dMin, dMax, dAbs, dInt, dStr, dLen, dDivmod, dAll, dOr, dOr2, dListOf, dListStr, dTupOf, dIsN, dNotN, isNon, vB, vI, vS, Rv.data, Own.data, cellOf, sel, truD, isDct, gT, gIx, gSeq, wipeR, hone, hr, List.replicate_succ]
theorem toBls_rep (n : Nat) : toBls (List.replicate n (.bl true)) = some (List.replicate n true) := by
  induction n with
  | zero => rfl
  | succ n ih => rw [List.replicate_succ, List.replicate_succ, toBls, ih]; rfl
theorem okR_small (m : Nat) (h : m ≤ 63) : okR (m : Int) = true := by
  unfold okR
  rw [Bool.and_eq_true, decide_eq_true_eq, decide_eq_true_eq]
  omega
theorem law_range (ns : List Int) (h : ns.length ≤ 63) : ∃ m : Nat, m ≤ 63 ∧ iRange1 (oE (eCB dMax (aCons (oC (.int 2)) (aCons (oE (eCB dMin (aCons (oE (eCB dLen (aCons (oN 0) aNil))) (aCons (oC (.int 6)) aNil)))) aNil)))) [.val (.scr ns), .un] = .ok (rangeD 0 m) [.val (.scr ns), .un] := by
  have fin : ∀ m : Nat, m ≤ 63 → oE (eCB dMax (aCons (oC (.int 2)) (aCons (oE (eCB dMin (aCons (oE (eCB dLen (aCons (oN 0) aNil))) (aCons (oC (.int 6)) aNil)))) aNil))) [.val (.scr ns), .un] = .ok (.dat (.int (m : Int))) [.val (.scr ns), .un] → iRange1 (oE (eCB dMax (aCons (oC (.int 2)) (aCons (oE (eCB dMin (aCons (oE (eCB dLen (aCons (oN 0) aNil))) (aCons (oC (.int 6)) aNil)))) aNil)))) [.val (.scr ns), .un] = .ok (rangeD 0 m) [.val (.scr ns), .un] := by
    intro m hm e
    rw [a_iRange1, e, b_ok]
    simp only [a_rd, okR_small m hm, if_true, Int.toNat_natCast]
  by_cases c1 : (6 : Int) < ns.length
  · exact ⟨6, by omega, fin 6 (by omega) (by simp [b_ok, b_stk, b_exc, s_ok, s_stk, s_exc, t_nx, t_ret, t_bk, t_ct, t_exc, t_stk, a_sNil, a_sStk, a_sCons, a_sRet, a_sRetN, a_sDrop, a_sSet, a_sIf, k_sif1, k_sif0, a_sFor, a_sTgt, a_sPar, a_eC, a_oC, a_oE, a_e1, a_e2, k_e2, a_e3, k_e3, k_e3b, k_e3t, k_e3f, a_tv, a_tTr, a_tTrO, a_tAnd, k_and1, k_and0, a_tOr, k_or1, k_or0, a_tNot, a_tT, a_eAnd, k_eand1, k_eand0, a_eOr, k_eor1, k_eor0, a_eNot, a_eIf, k_eif1, k_eif0, a_eIx, a_eCB, a_aNil, a_aCons, k_a, a_vNil, a_vCons, k_v, a_vStar, k_vs1, k_vs2, k_vs3, a_lNil, a_lCons, k_l, a_eTup, a_eLst, a_pNone, a_pSome, a_eSl, k_sl, k_sl2, k_sl3, a_eCall, k_call, k_call2, a_eMut1, a_eMake, k_make, k_make2, a_eMeth, k_meth, k_meth2, k_meth3, a_eProp, a_eMt, k_mt, k_mt2, a_eDT, a_iSeq, a_iEn, a_iRange1, a_iRange2, k_r2, a_two, a_oN, a_eN, a_rdS, a_eMut, a_eApp, a_sSetIx, a_sDput, a_sFldC, a_gN, a_rd, runP, runM, startR, startM, foOf, ownOf, rdAll, ofFO, ofFO0, dIx, atI, ixN, dSl, okR, dAdd, dSub, dMul, okMul, dDiv, dMod, dPow, dLt, dGt, dGe, dLe, dMin, dMax, dAbs, dInt, dStr, dLen, dDivmod, dAll, dOr, dOr2, dListOf, dListStr, dTupOf, dIsN, dNotN, isNon, vB, vI, vS, Rv.data, Own.data, cellOf, sel, truD, isDct, gT, gIx, gSeq, wipeR, c1])⟩
  · by_cases c2 : (2 : Int) < ns.length
    · exact ⟨ns.length, by omega, fin _ (by omega) (by simp [b_ok, b_stk, b_exc, s_ok, s_stk, s_exc, t_nx, t_ret, t_bk, t_ct, t_exc, t_stk, a_sNil, a_sStk, a_sCons, a_sRet, a_sRetN, a_sDrop, a_sSet, a_sIf, k_sif1, k_sif0, a_sFor, a_sTgt, a_sPar, a_eC, a_oC, a_oE, a_e1, a_e2, k_e2, a_e3, k_e3, k_e3b, k_e3t, k_e3f, a_tv, a_tTr, a_tTrO, a_tAnd, k_and1, k_and0, a_tOr, k_or1, k_or0, a_tNot, a_tT, a_eAnd, k_eand1, k_eand0, a_eOr, k_eor1, k_eor0, a_eNot, a_eIf, k_eif1, k_eif0, a_eIx, a_eCB, a_aNil, a_aCons, k_a, a_vNil, a_vCons, k_v, a_vStar, k_vs1, k_vs2, k_vs3, a_lNil, a_lCons, k_l, a_eTup, a_eLst, a_pNone, a_pSome, a_eSl, k_sl, k_sl2, k_sl3, a_eCall, k_call, k_call2, a_eMut1, a_eMake, k_make, k_make2, a_eMeth, k_meth, k_meth2, k_meth3, a_eProp, a_eMt, k_mt, k_mt2, a_eDT, a_iSeq, a_iEn, a_iRange1, a_iRange2, k_r2, a_two, a_oN, a_eN, a_rdS, a_eMut, a_eApp, a_sSetIx, a_sDput, a_sFldC, a_gN, a_rd, runP, runM, startR, startM, foOf, ownOf, rdAll, ofFO, ofFO0, dIx, atI, ixN, dSl, okR, dAdd, dSub, dMul, okMul, dDiv, dMod, dPow, dLt, dGt, dGe, dLe, dMin, dMax, dAbs, dInt, dStr, dLen, dDivmod, dAll, dOr, dOr2, dListOf, dListStr, dTupOf, dIsN, dNotN, isNon, vB, vI, vS, Rv.data, Own.data, cellOf, sel, truD, isDct, gT, gIx, gSeq, wipeR, c1, c2])⟩
    · exact ⟨2, by omega, fin 2 (by omega) (by simp [b_ok, b_stk, b_exc, s_ok, s_stk, s_exc, t_nx, t_ret, t_bk, t_ct, t_exc, t_stk, a_sNil, a_sStk, a_sCons, a_sRet, a_sRetN, a_sDrop, a_sSet, a_sIf, k_sif1, k_sif0, a_sFor, a_sTgt, a_sPar, a_eC, a_oC, a_oE, a_e1, a_e2, k_e2, a_e3, k_e3, k_e3b, k_e3t, k_e3f, a_tv, a_tTr, a_tTrO, a_tAnd, k_and1, k_and0, a_tOr, k_or1, k_or0, a_tNot, a_tT, a_eAnd, k_eand1, k_eand0, a_eOr, k_eor1, k_eor0, a_eNot, a_eIf, k_eif1, k_eif0, a_eIx, a_eCB, a_aNil, a_aCons, k_a, a_vNil, a_vCons, k_v, a_vStar, k_vs1, k_vs2, k_vs3, a_lNil, a_lCons, k_l, a_eTup, a_eLst, a_pNone, a_pSome, a_eSl, k_sl, k_sl2, k_sl3, a_eCall, k_call, k_call2, a_eMut1, a_eMake, k_make, k_make2, a_eMeth, k_meth, k_meth2, k_meth3, a_eProp, a_eMt, k_mt, k_mt2, a_eDT, a_iSeq, a_iEn, a_iRange1, a_iRange2, k_r2, a_two, a_oN, a_eN, a_rdS, a_eMut, a_eApp, a_sSetIx, a_sDput, a_sFldC, a_gN, a_rd, runP, runM, startR, startM, foOf, ownOf, rdAll, ofFO, ofFO0, dIx, atI, ixN, dSl, okR, dAdd, dSub, dMul, okMul, dDiv, dMod, dPow, dLt, dGt, dGe, dLe, dMin, dMax, dAbs, dInt, dStr, dLen, dDivmod, dAll, dOr, dOr2, dListOf, dListStr, dTupOf, dIsN, dNotN, isNon, vB, vI, vS, Rv.data, Own.data, cellOf, sel, truD, isDct, gT, gIx, gSeq, wipeR, c1, c2])⟩
theorem law_of (C : Addr) (ns : List Int) (h : ns.length ≤ 63) (right : ∀ a b c : Int, (F_l_right C (jarO a b c) []).1 = .val (.bl true)) : F_law C [.scr ns] = .val (.bl true) := by
  have hsz := sizeL
  have key : ∀ m : Nat, m ≤ 63 → ∃ r', eComp (fun r => .ok (rangeD 0 m) r) (gN 1) tT (ce0_law C) [1] [.val (.scr ns), .un] = .ok (.new (.lst (List.replicate m (.bl true)))) r' := by
    intro m h1
    obtain ⟨r', hr⟩ := law_loop C ns h right (List.range m)
    rw [List.length_range] at hr
    have sz : (rangeD 0 m).length ≤ sizeLine := by unfold rangeD; rw [List.length_map, List.length_range]; omega
    refine ⟨restore [.val (.scr ns), .un] r' [1], ?_⟩
    have hw : wipeR [Cell.val (.scr ns), .un] [1] = [.val (.scr ns), .un] := rfl
    have hr2 : lcL (gN 1) tT (ce0_law C) [1] (rangeD 0 m) [.val (.scr ns), .un] = .ok (List.replicate m (.bl true)) r' := hr
    simp only [a_eComp, b_ok, if_pos sz, hw, hr2]
  have fin : ∀ m : Nat, m ≤ 63 → foOf (sRet (eCB dAll (aCons (oE (eComp (fun r => .ok (rangeD 0 m) r) (gN 1) tT (ce0_law C) [1])) aNil)) [.val (.scr ns), .un]) = .val (.bl true) := by
    intro m hm
    obtain ⟨r', hk⟩ := key m hm
    simp [b_ok, b_stk, b_exc, s_ok, s_stk, s_exc, t_nx, t_ret, t_bk, t_ct, t_exc, t_stk, a_sNil, a_sStk, a_sCons, a_sRet, a_sRetN, a_sDrop, a_sSet, a_sIf, k_sif1, k_sif0, a_sFor, a_sTgt, a_sPar, a_eC, a_oC, a_oE, a_e1, a_e2, k_e2, a_e3, k_e3, k_e3b, k_e3t, k_e3f, a_tv, a_tTr, a_tTrO, a_tAnd, k_and1, k_and0, a_tOr, k_or1, k_or0, a_tNot, a_tT, a_eAnd, k_eand1, k_eand0, a_eOr, k_eor1, k_eor0, a_eNot, a_eIf, k_eif1, k_eif0, a_eIx, a_eCB, a_aNil, a_aCons, k_a, a_vNil, a_vCons, k_v, a_vStar, k_vs1, k_vs2, k_vs3, a_lNil, a_lCons, k_l, a_eTup, a_eLst, a_pNone, a_pSome, a_eSl, k_sl, k_sl2, k_sl3, a_eCall, k_call, k_call2, a_eMut1, a_eMake, k_make, k_make2, a_eMeth, k_meth, k_meth2, k_meth3, a_eProp, a_eMt, k_mt, k_mt2, a_eDT, a_iSeq, a_iEn, a_iRange1, a_iRange2, k_r2, a_two, a_oN, a_eN, a_rdS, a_eMut, a_eApp, a_sSetIx, a_sDput, a_sFldC, a_gN, a_rd, runP, runM, startR, startM, foOf, ownOf, rdAll, ofFO, ofFO0, dIx, atI, ixN, dSl, okR, dAdd, dSub, dMul, okMul, dDiv, dMod, dPow, dLt, dGt, dGe, dLe, dMin, dMax, dAbs, dInt, dStr, dLen, dDivmod, dAll, dOr, dOr2, dListOf, dListStr, dTupOf, dIsN, dNotN, isNon, vB, vI, vS, Rv.data, Own.data, cellOf, sel, truD, isDct, gT, gIx, gSeq, wipeR, hk, toBls_rep]
  have it := law_range ns h
  obtain ⟨m, hm, hi⟩ := it
  have hs : startR 2 [D.scr ns] = [.val (.scr ns), .un] := by simp [startR]
  have hc : eComp (iRange1 (oE (eCB dMax (aCons (oC (.int 2)) (aCons (oE (eCB dMin (aCons (oE (eCB dLen (aCons (oN 0) aNil))) (aCons (oC (.int 6)) aNil)))) aNil))))) (gN 1) tT (ce0_law C) [1] [.val (.scr ns), .un] = eComp (fun r => .ok (rangeD 0 m) r) (gN 1) tT (ce0_law C) [1] [.val (.scr ns), .un] := by
    rw [a_eComp, a_eComp, hi]
  have hf := fin m hm
  simp only [a_sRet, a_eCB, a_aCons, a_oE] at hf
  simp only [F_law, runP, hs, sv_law, a_sRet, a_eCB, a_aCons, a_oE, hc]
  exact hf
end Mp
set_option Elab.async false
set_option linter.all false
set_option maxRecDepth 100000
namespace Mp
open PySem PySem.Spec PyProof.Rows L2 Evl
theorem fm_congr {A B : Type} {f g : A → Option B} : ∀ {l : List A}, (∀ x ∈ l, f x = g x) → l.filterMap f = l.filterMap g
  | [], _ => rfl
  | a :: l, h => by
    rw [List.filterMap_cons, List.filterMap_cons, h a List.mem_cons_self, fm_congr fun x hx => h x (List.mem_cons_of_mem _ hx)]
/-! ### _law_roads -/
def sg (c : Nat) : D := .str ⟨#[c]⟩
def rD (i j c : Nat) : D := .tup [.int i, .int j, sg c]
def okc (c : Nat) : Prop := 97 ≤ c ∧ c ≤ 102
structure Few (z : Str) : Prop where
  ne : z.cps.toList ≠ []
  le : z.cps.toList.length ≤ 6
  ok : ∀ c ∈ z.cps.toList, okc c
theorem few_of {x : D} (h : x ∈ [D.str "ab", .str "ab", .str "abc", .str "abcdef"]) : ∃ z, x = .str z ∧ Few z := by
  simp only [List.mem_cons, List.not_mem_nil, or_false] at h
  rcases h with rfl | rfl | rfl | rfl
  · exact ⟨_, rfl, by decide, by decide, by unfold okc; decide⟩
  · exact ⟨_, rfl, by decide, by decide, by unfold okc; decide⟩
  · exact ⟨_, rfl, by decide, by decide, by unfold okc; decide⟩
  · exact ⟨_, rfl, by decide, by decide, by unfold okc; decide⟩
theorem pick_ok (C : Addr) (a b c : Int) (z : Str) (h : Few z) : ∃ s a' b' c', F_l_one_of C (jarO a b c) [.lst (signs z)] = (.val (sg s), jarO a' b' c') ∧ okc s := by
  have hl : (signs z).length = z.cps.toList.length := by unfold signs; rw [List.length_map]
  obtain ⟨x, a', b', c', e, hx⟩ := one_of_ok C a b c (signs z) (fun q => h.ne (by unfold signs at q; exact List.map_eq_nil_iff.mp q)) (by rw [hl]; have := h.le; omega)
  unfold signs at hx
  rw [List.mem_map] at hx
  obtain ⟨s, hs, rfl⟩ := hx
  exact ⟨s, a', b', c', e, h.ok s hs⟩
theorem roads_in (C : Addr) (n i : Nat) (th : Int) (z : Str) (hz : Few z) : ∀ (l : List Nat) (acc : List D) (a b c : Int) (jc : Cell), l.Nodup → acc.length + l.length ≤ 500 →
    ∃ (e : Nat → Option Nat) (a' b' c' : Int) (jc' : Cell), (∀ j s, e j = some s → okc s) ∧ forL (gN 6) (lb0_l_roads C) (l.map fun j => .int (j : Nat)) [.own (jarO a b c), .val (.int n), .val (.int th), .val (.str z), .own (.lst acc), .val (.int i), jc]
      = .nx [.own (jarO a' b' c'), .val (.int n), .val (.int th), .val (.str z), .own (.lst (acc ++ l.filterMap fun j => (e j).map (rD i j))), .val (.int i), jc']
  | [], acc, a, b, c, jc, _, _ => ⟨fun _ => none, a, b, c, jc, (fun _ _ h => nomatch h), (by rw [List.filterMap_nil, List.append_nil]; rfl)⟩
  | j :: l, acc, a, b, c, jc, nd, len => by
    have hsz := sizeL
    obtain ⟨nj, nd'⟩ := List.nodup_cons.mp nd
    rw [List.length_cons] at len
    obtain ⟨v, a1, b1, c1, hv, v0, v1⟩ := dip_ok C a b c 6 (by omega) (by omega)
    rw [List.map_cons]
    by_cases hlt : v < th
    · obtain ⟨s, a2, b2, c2, hp, hs⟩ := pick_ok C a1 b1 c1 z hz
      obtain ⟨e, a', b', c', jc', he, h⟩ := roads_in C n i th z hz l (acc ++ [rD i j s]) a2 b2 c2 (.val (.int j)) nd' (by rw [List.length_append, List.length_singleton]; omega)
      refine ⟨fun x => if x = j then some s else e x, a', b', c', jc', fun x t hx => ?_, ?_⟩
      · dsimp only at hx
        split at hx
        · cases hx; exact hs
        · exact he x t hx
      · have hf : (j :: l).filterMap (fun x => (if x = j then some s else e x).map (rD i x)) = rD i j s :: l.filterMap fun x => (e x).map (rD i x) := by
          rw [List.filterMap_cons]
          simp only [if_true, Option.map_some]
          congr 1
          apply fm_congr
          intro x hx
          have : x ≠ j := by rintro rfl; exact nj hx
          rw [if_neg this]
        rw [hf]
        have hassoc : acc ++ rD i j s :: (l.filterMap fun x => (e x).map (rD i x)) = (acc ++ [rD i j s]) ++ l.filterMap fun x => (e x).map (rD i x) := by simp
        rw [hassoc, ← h]
        conv => lhs; unfold forL
        have l1 : acc.length < sizeLine := by omega
        have l3 : (3 : Nat) ≤ sizeLine := by omega
        have lz : z.length ≤ sizeLine := by
          have := hz.le
          rw [Array.length_toList] at this
          show z.cps.size ≤ _
          omega
        have one : lb0_l_roads C [.own (jarO a b c), .val (.int n), .val (.int th), .val (.str z), .own (.lst acc), .val (.int i), .val (.int j)] = .nx [.own (jarO a2 b2 c2), .val (.int n), .val (.int th), .val (.str z), .own (.lst (acc ++ [rD i j s])), .val (.int i), .val (.int j)] := by
          simp [lb0_l_roads, b_ok, b_stk, b_exc, s_ok, s_stk, s_exc, t_nx, t_ret, t_bk, t_ct, t_exc, t_stk, a_sNil, a_sStk, a_sCons, a_sRet, a_sRetN, a_sDrop, a_sSet, a_sIf, k_sif1, k_sif0, a_sFor, a_sTgt, a_sPar, a_eC, a_oC, a_oE, a_e1, a_e2, k_e2, a_e3, k_e3, k_e3b, k_e3t, k_e3f, a_tv, a_tTr, a_tTrO, a_tAnd, k_and1, k_and0, a_tOr, k_or1, k_or0, a_tNot, a_tT, a_eAnd, k_eand1, k_eand0, a_eOr, k_eor1, k_eor0, a_eNot, a_eIf, k_eif1, k_eif0, a_eIx, a_eCB, a_aNil, a_aCons, k_a, a_vNil, a_vCons, k_v, a_vStar, k_vs1, k_vs2, k_vs3, a_lNil, a_lCons, k_l, a_eTup, a_eLst, a_pNone, a_pSome, a_eSl, k_sl, k_sl2, k_sl3, a_eCall, k_call, k_call2, a_eMut1, a_eMake, k_make, k_make2, a_eMeth, k_meth, k_meth2, k_meth3, a_eProp, a_eMt, k_mt, k_mt2, a_eDT, a_iSeq, a_iEn, a_iRange1, a_iRange2, k_r2, a_two, a_oN, a_eN, a_rdS, a_eMut, a_eApp, a_sSetIx, a_sDput, a_sFldC, a_gN, a_rd, runP, runM, startR, startM, foOf, ownOf, rdAll, ofFO, ofFO0, dIx, atI, ixN, dSl, okR, dAdd, dSub, dMul, okMul, dDiv, dMod, dPow, dLt, dGt, dGe, dLe, dMin, dMax, dAbs, dInt, dStr, dLen, dDivmod, dAll, dOr, dOr2, dListOf, dListStr, dTupOf, dIsN, dNotN, isNon, vB, vI, vS, Rv.data, Own.data, cellOf, sel, truD, isDct, gT, gIx, gSeq, wipeR, hv, hlt, k_sif1, hp, l1, l3, lz, rD]
        simp only [a_gN, List.set_cons_succ, List.set_cons_zero, one]
    · obtain ⟨e, a', b', c', jc', he, h⟩ := roads_in C n i th z hz l acc a1 b1 c1 (.val (.int j)) nd' (by omega)
      refine ⟨fun x => if x = j then none else e x, a', b', c', jc', fun x t hx => ?_, ?_⟩
      · dsimp only at hx
        split at hx
        · cases hx
        · exact he x t hx
      · have hf : (j :: l).filterMap (fun x => (if x = j then none else e x).map (rD i x)) = l.filterMap fun x => (e x).map (rD i x) := by
          rw [List.filterMap_cons]
          simp only [if_true, Option.map_none]
          apply fm_congr
          intro x hx
          have : x ≠ j := by rintro rfl; exact nj hx
          rw [if_neg this]
        rw [hf, ← h]
        conv => lhs; unfold forL
        have one : lb0_l_roads C [.own (jarO a b c), .val (.int n), .val (.int th), .val (.str z), .own (.lst acc), .val (.int i), .val (.int j)] = .nx [.own (jarO a1 b1 c1), .val (.int n), .val (.int th), .val (.str z), .own (.lst acc), .val (.int i), .val (.int j)] := by
          simp [lb0_l_roads, b_ok, b_stk, b_exc, s_ok, s_stk, s_exc, t_nx, t_ret, t_bk, t_ct, t_exc, t_stk, a_sNil, a_sStk, a_sCons, a_sRet, a_sRetN, a_sDrop, a_sSet, a_sIf, k_sif1, k_sif0, a_sFor, a_sTgt, a_sPar, a_eC, a_oC, a_oE, a_e1, a_e2, k_e2, a_e3, k_e3, k_e3b, k_e3t, k_e3f, a_tv, a_tTr, a_tTrO, a_tAnd, k_and1, k_and0, a_tOr, k_or1, k_or0, a_tNot, a_tT, a_eAnd, k_eand1, k_eand0, a_eOr, k_eor1, k_eor0, a_eNot, a_eIf, k_eif1, k_eif0, a_eIx, a_eCB, a_aNil, a_aCons, k_a, a_vNil, a_vCons, k_v, a_vStar, k_vs1, k_vs2, k_vs3, a_lNil, a_lCons, k_l, a_eTup, a_eLst, a_pNone, a_pSome, a_eSl, k_sl, k_sl2, k_sl3, a_eCall, k_call, k_call2, a_eMut1, a_eMake, k_make, k_make2, a_eMeth, k_meth, k_meth2, k_meth3, a_eProp, a_eMt, k_mt, k_mt2, a_eDT, a_iSeq, a_iEn, a_iRange1, a_iRange2, k_r2, a_two, a_oN, a_eN, a_rdS, a_eMut, a_eApp, a_sSetIx, a_sDput, a_sFldC, a_gN, a_rd, runP, runM, startR, startM, foOf, ownOf, rdAll, ofFO, ofFO0, dIx, atI, ixN, dSl, okR, dAdd, dSub, dMul, okMul, dDiv, dMod, dPow, dLt, dGt, dGe, dLe, dMin, dMax, dAbs, dInt, dStr, dLen, dDivmod, dAll, dOr, dOr2, dListOf, dListStr, dTupOf, dIsN, dNotN, isNon, vB, vI, vS, Rv.data, Own.data, cellOf, sel, truD, isDct, gT, gIx, gSeq, wipeR, hv, hlt]
        simp only [a_gN, List.set_cons_succ, List.set_cons_zero, one]
/-- the row of i: the places behind it with a hue -/
def rowD (e : Nat → Option Nat) (n i : Nat) : List D := (List.range' (i + 1) (n - (i + 1))).filterMap fun j => (e j).map (rD i j)
theorem range_nat (i n : Nat) : rangeD ((i : Int) + 1) ((n : Int) - ((i : Int) + 1)).toNat = (List.range' (i + 1) (n - (i + 1))).map fun j => D.int (j : Nat) := by
  have e1 : ((n : Int) - ((i : Int) + 1)).toNat = n - (i + 1) := by omega
  unfold rangeD
  rw [e1, List.range'_eq_map_range, List.map_map]
  apply List.map_congr_left
  intro x _
  show D.int ((i : Int) + 1 + (x : Nat)) = D.int ((i + 1 + x : Nat) : Int)
  congr 1
theorem okR_le (m : Int) (h0 : -100 ≤ m) (h : m ≤ 100) : okR m = true := by
  unfold okR
  rw [Bool.and_eq_true, decide_eq_true_eq, decide_eq_true_eq]
  omega
theorem inner_range (n i : Nat) (hn : n ≤ 9) (hi : i < n) (A T Z Fo jc : Cell) : iRange2 (oE (e2 dAdd (oN 5) (oC (.int 1)))) (oN 1) [A, .val (.int n), T, Z, Fo, .val (.int i), jc] = .ok ((List.range' (i + 1) (n - (i + 1))).map fun j => D.int (j : Nat)) [A, .val (.int n), T, Z, Fo, .val (.int i), jc] := by
  rw [← range_nat]
  have o1 : okR ((i : Int) + 1) = true := okR_le _ (by omega) (by omega)
  have o2 : okR (n : Int) = true := okR_le _ (by omega) (by omega)
  have e1 : oE (e2 dAdd (oN 5) (oC (.int 1))) [A, .val (.int n), T, Z, Fo, .val (.int i), jc] = .ok (.dat (.int ((i : Int) + 1))) [A, .val (.int n), T, Z, Fo, .val (.int i), jc] := rfl
  have e2 : oN 1 [A, .val (.int n), T, Z, Fo, .val (.int i), jc] = .ok (.dat (.int n)) [A, .val (.int n), T, Z, Fo, .val (.int i), jc] := rfl
  rw [a_iRange2, e1, b_ok, k_r2, e2, b_ok]
  simp only [a_rd]
  rw [o1, o2]
  exact if_pos rfl
theorem forL_nx {g : Tg} {body : Sv} {d : D} {ds : List D} {r r1 r2 : Rho} (hg : g d r = some r1) (hb : body r1 = .nx r2) : forL g body (d :: ds) r = forL g body ds r2 := by
  rw [forL, hg]
  show (match body r1 with | .nx r2 => forL g body ds r2 | .ct r2 => forL g body ds r2 | .bk r2 => .nx r2 | o => o) = _
  rw [hb]
def lenB : List Nat → Nat
  | [] => 0
  | _ :: l => 10 + lenB l
theorem lenB_le : ∀ (k : Nat) (l : List Nat), l.length ≤ k → lenB l ≤ lenB (List.replicate k 0)
  | _, [], _ => Nat.zero_le _
  | 0, _ :: _, h => absurd h (Nat.not_succ_le_zero _)
  | k + 1, _ :: l, h => Nat.add_le_add_left (lenB_le k l (Nat.le_of_succ_le_succ h)) 10
theorem lenB_nine (l : List Nat) (h : l.length ≤ 9) : lenB l ≤ 90 := lenB_le 9 l h
theorem roads_out (C : Addr) (n : Nat) (hn : n ≤ 9) (th : Int) (z : Str) (hz : Few z) : ∀ (l : List Nat) (acc : List D) (a b c : Int) (ic jc : Cell), l.Nodup → (∀ i ∈ l, i < n) → acc.length + lenB l ≤ 400 →
    ∃ (e : Nat → Nat → Option Nat) (a' b' c' : Int) (ic' jc' : Cell), (∀ i j s, e i j = some s → okc s) ∧ forL (gN 5) (lb1_l_roads C) (l.map fun j => .int (j : Nat)) [.own (jarO a b c), .val (.int n), .val (.int th), .val (.str z), .own (.lst acc), ic, jc]
      = .nx [.own (jarO a' b' c'), .val (.int n), .val (.int th), .val (.str z), .own (.lst (acc ++ l.flatMap fun i => rowD (e i) n i)), ic', jc'] := by
  intro l
  induction l with
  | nil => exact fun acc a b c ic jc _ _ _ => ⟨fun _ _ => none, a, b, c, ic, jc, (fun _ _ _ h => nomatch h), (by rw [List.flatMap_nil, List.append_nil]; rfl)⟩
  | cons i l ih =>
    intro acc a b c ic jc nd lt len
    obtain ⟨ni, nd'⟩ := List.nodup_cons.mp nd
    have len : acc.length + (10 + lenB l) ≤ 400 := len
    have hi := lt i List.mem_cons_self
    have hlen : (List.range' (i + 1) (n - (i + 1))).length ≤ 9 := by rw [List.length_range']; omega
    obtain ⟨e1, a1, b1, c1, jc1, he1, h1⟩ := roads_in C n i th z hz (List.range' (i + 1) (n - (i + 1))) acc a b c jc List.nodup_range' (by omega)
    have hrow : (rowD e1 n i).length ≤ 9 := Nat.le_trans (List.length_filterMap_le _ _) hlen
    obtain ⟨e, a', b', c', ic', jc', he, h⟩ := ih (acc ++ rowD e1 n i) a1 b1 c1 (.val (.int i)) jc1 nd' (fun x hx => lt x (List.mem_cons_of_mem _ hx)) (by rw [List.length_append]; omega)
    refine ⟨fun x => if x = i then e1 else e x, a', b', c', ic', jc', fun x j s hx => ?_, ?_⟩
    · dsimp only at hx
      split at hx
      · exact he1 j s hx
      · exact he x j s hx
    · have hf : (i :: l).flatMap (fun x => rowD (if x = i then e1 else e x) n x) = rowD e1 n i ++ l.flatMap fun x => rowD (e x) n x := by
        rw [List.flatMap_cons, if_pos rfl]
        congr 1
        rw [List.flatMap_def, List.flatMap_def]
        congr 1
        apply List.map_congr_left
        intro x hx
        have : x ≠ i := by rintro rfl; exact ni hx
        rw [if_neg this]
      rw [hf, ← List.append_assoc, List.map_cons]
      have hrg := inner_range n i hn hi (.own (jarO a b c)) (.val (.int th)) (.val (.str z)) (.own (.lst acc)) jc
      have one : lb1_l_roads C [.own (jarO a b c), .val (.int n), .val (.int th), .val (.str z), .own (.lst acc), .val (.int i), jc] = .nx [.own (jarO a1 b1 c1), .val (.int n), .val (.int th), .val (.str z), .own (.lst (acc ++ rowD e1 n i)), .val (.int i), jc1] := by
        unfold lb1_l_roads
        rw [a_sFor, hrg, s_ok, h1]
        unfold rowD
        with_reducible rfl
      exact (forL_nx rfl one).trans h
/-- all roads of a net -/
def roadsD (e : Nat → Nat → Option Nat) (n : Nat) : List D := (List.range n).flatMap fun i => rowD (e i) n i
theorem roads_ok (C : Addr) (a b c : Int) (n : Nat) (hn : n ≤ 9) : ∃ (e : Nat → Nat → Option Nat) (a' b' c' : Int), (∀ i j s, e i j = some s → okc s) ∧ F_l_roads C (jarO a b c) [.int n] = (.val (.tup (roadsD e n)), jarO a' b' c') := by
  have hsz := sizeL
  obtain ⟨x1, a1, b1, c1, h1, m1⟩ := one_of_ok C a b c [.int 2, .int 3, .int 4, .int 5] (by simp) (by simp)
  have hth : ∃ th : Int, x1 = .int th := by
    simp only [List.mem_cons, List.not_mem_nil, or_false] at m1
    rcases m1 with rfl | rfl | rfl | rfl <;> exact ⟨_, rfl⟩
  obtain ⟨th, rfl⟩ := hth
  obtain ⟨x2, a2, b2, c2, h2, m2⟩ := one_of_ok C a1 b1 c1 [.str "ab", .str "ab", .str "abc", .str "abcdef"] (by simp) (by simp)
  obtain ⟨z, rfl, hz⟩ := few_of m2
  obtain ⟨e, a', b', c', ic', jc', he, h⟩ := roads_out C n hn th z hz (List.range n) [] a2 b2 c2 .un .un List.nodup_range (fun i hi => List.mem_range.mp hi) (by have := lenB_nine (List.range n) (by rw [List.length_range]; exact hn); rw [List.length_nil]; omega)
  refine ⟨e, a', b', c', he, ?_⟩
  have s4 : (4 : Nat) ≤ sizeLine := by omega
  have s0 : (0 : Nat) ≤ sizeLine := by omega
  have hr : iRange1 (oN 1) [.own (jarO a2 b2 c2), .val (.int n), .val (.int th), .val (.str z), .own (.lst []), .un, .un] = .ok ((List.range n).map fun j => D.int (j : Nat)) [.own (jarO a2 b2 c2), .val (.int n), .val (.int th), .val (.str z), .own (.lst []), .un, .un] := by
    have o2 := okR_le n (by omega) (by omega)
    have er : rangeD 0 n = (List.range n).map fun j => D.int (j : Nat) := by
      unfold rangeD
      apply List.map_congr_left
      intro x _
      show D.int (0 + (x : Int)) = _
      rw [Int.zero_add]
    have e2 : oN 1 [.own (jarO a2 b2 c2), .val (.int n), .val (.int th), .val (.str z), .own (.lst []), .un, .un] = .ok (.dat (.int n)) [.own (jarO a2 b2 c2), .val (.int n), .val (.int th), .val (.str z), .own (.lst []), .un, .un] := rfl
    rw [a_iRange1, e2, b_ok]
    simp only [a_rd]
    rw [if_pos o2, Int.toNat_natCast, er]
  have first : (sPar [2, 3, 4] (lCons (eMut 0 (F_l_one_of C) (vCons (eLst (vCons (eC (.int 2)) (vCons (eC (.int 3)) (vCons (eC (.int 4)) (vCons (eC (.int 5)) vNil))))) vNil)) (lCons (eMut 0 (F_l_one_of C) (vCons (eLst (vCons (eC (.str "ab")) (vCons (eC (.str "ab")) (vCons (eC (.str "abc")) (vCons (eC (.str "abcdef")) vNil))))) vNil)) (lCons (eLst vNil) lNil)))) [.own (jarO a b c), .val (.int n), .un, .un, .un, .un, .un]
      = .nx [.own (jarO a2 b2 c2), .val (.int n), .val (.int th), .val (.str z), .own (.lst []), .un, .un] := by
    simp [b_ok, b_stk, b_exc, s_ok, s_stk, s_exc, t_nx, t_ret, t_bk, t_ct, t_exc, t_stk, a_sNil, a_sStk, a_sCons, a_sRet, a_sRetN, a_sDrop, a_sSet, a_sIf, k_sif1, k_sif0, a_sFor, a_sTgt, a_sPar, a_eC, a_oC, a_oE, a_e1, a_e2, k_e2, a_e3, k_e3, k_e3b, k_e3t, k_e3f, a_tv, a_tTr, a_tTrO, a_tAnd, k_and1, k_and0, a_tOr, k_or1, k_or0, a_tNot, a_tT, a_eAnd, k_eand1, k_eand0, a_eOr, k_eor1, k_eor0, a_eNot, a_eIf, k_eif1, k_eif0, a_eIx, a_eCB, a_aNil, a_aCons, k_a, a_vNil, a_vCons, k_v, a_vStar, k_vs1, k_vs2, k_vs3, a_lNil, a_lCons, k_l, a_eTup, a_eLst, a_pNone, a_pSome, a_eSl, k_sl, k_sl2, k_sl3, a_eCall, k_call, k_call2, a_eMut1, a_eMake, k_make, k_make2, a_eMeth, k_meth, k_meth2, k_meth3, a_eProp, a_eMt, k_mt, k_mt2, a_eDT, a_iSeq, a_iEn, a_iRange1, a_iRange2, k_r2, a_two, a_oN, a_eN, a_rdS, a_eMut, a_eApp, a_sSetIx, a_sDput, a_sFldC, a_gN, a_rd, runP, runM, startR, startM, foOf, ownOf, rdAll, ofFO, ofFO0, dIx, atI, ixN, dSl, okR, dAdd, dSub, dMul, okMul, dDiv, dMod, dPow, dLt, dGt, dGe, dLe, dMin, dMax, dAbs, dInt, dStr, dLen, dDivmod, dAll, dOr, dOr2, dListOf, dListStr, dTupOf, dIsN, dNotN, isNon, vB, vI, vS, Rv.data, Own.data, cellOf, sel, truD, isDct, gT, gIx, gSeq, wipeR, h1, h2, s4]
  have hs : startM 7 (jarO a b c) [D.int n] = [.own (jarO a b c), .val (.int n), .un, .un, .un, .un, .un] := by simp [startM, List.replicate]
  unfold F_l_roads runM
  rw [hs]
  unfold sv_l_roads
  rw [a_sCons, first, t_nx, a_sCons, a_sFor, hr, s_ok, h]
  simp [b_ok, b_stk, b_exc, s_ok, s_stk, s_exc, t_nx, t_ret, t_bk, t_ct, t_exc, t_stk, a_sNil, a_sStk, a_sCons, a_sRet, a_sRetN, a_sDrop, a_sSet, a_sIf, k_sif1, k_sif0, a_sFor, a_sTgt, a_sPar, a_eC, a_oC, a_oE, a_e1, a_e2, k_e2, a_e3, k_e3, k_e3b, k_e3t, k_e3f, a_tv, a_tTr, a_tTrO, a_tAnd, k_and1, k_and0, a_tOr, k_or1, k_or0, a_tNot, a_tT, a_eAnd, k_eand1, k_eand0, a_eOr, k_eor1, k_eor0, a_eNot, a_eIf, k_eif1, k_eif0, a_eIx, a_eCB, a_aNil, a_aCons, k_a, a_vNil, a_vCons, k_v, a_vStar, k_vs1, k_vs2, k_vs3, a_lNil, a_lCons, k_l, a_eTup, a_eLst, a_pNone, a_pSome, a_eSl, k_sl, k_sl2, k_sl3, a_eCall, k_call, k_call2, a_eMut1, a_eMake, k_make, k_make2, a_eMeth, k_meth, k_meth2, k_meth3, a_eProp, a_eMt, k_mt, k_mt2, a_eDT, a_iSeq, a_iEn, a_iRange1, a_iRange2, k_r2, a_two, a_oN, a_eN, a_rdS, a_eMut, a_eApp, a_sSetIx, a_sDput, a_sFldC, a_gN, a_rd, runP, runM, startR, startM, foOf, ownOf, rdAll, ofFO, ofFO0, dIx, atI, ixN, dSl, okR, dAdd, dSub, dMul, okMul, dDiv, dMod, dPow, dLt, dGt, dGe, dLe, dMin, dMax, dAbs, dInt, dStr, dLen, dDivmod, dAll, dOr, dOr2, dListOf, dListStr, dTupOf, dIsN, dNotN, isNon, vB, vI, vS, Rv.data, Own.data, cellOf, sel, truD, isDct, gT, gIx, gSeq, wipeR, roadsD]
end Mp
set_option Elab.async false
set_option linter.all false
set_option maxRecDepth 100000
namespace Mp
open PySem PySem.Spec PyProof.Rows L2 Evl
/-! ### texts of small numbers -/
def dg (i : Nat) : Str := ⟨#[48 + i]⟩
theorem toString_dg : ∀ i : Nat, i < 10 → (toString (i : Int) : Str) = dg i
  | 0, _ => by decide +kernel
  | 1, _ => by decide +kernel
  | 2, _ => by decide +kernel
  | 3, _ => by decide +kernel
  | 4, _ => by decide +kernel
  | 5, _ => by decide +kernel
  | 6, _ => by decide +kernel
  | 7, _ => by decide +kernel
  | 8, _ => by decide +kernel
  | 9, _ => by decide +kernel
  | n + 10, h => absurd h (by omega)
theorem log_dg (i : Nat) (h : i < 10) : (i : Int).natAbs.log2 < 1920 := by
  rw [Int.natAbs_natCast]
  exact Nat.lt_of_le_of_lt (Nat.log2_le_self i) (by omega)
theorem dStr_dg (i : Nat) (h : i < 10) : dStr [.int (i : Nat)] = some (.val (.str (dg i))) := by
  unfold dStr
  dsimp only
  rw [if_pos (log_dg i h), toString_dg i h]
  rfl
/-- a road's word -/
def wd (i j s : Nat) : Str := ⟨#[48 + i, 45, 48 + j, s]⟩
theorem word_ok (C : Addr) (A B : Cell) (i j s : Nat) (hi : i < 10) (hj : j < 10) : ce0_l_text C [A, B, .val (.int i), .val (.int j), .val (sg s)] = .ok (.val (.str (wd i j s))) [A, B, .val (.int i), .val (.int j), .val (sg s)] := by
  have hsz := sizeL
  have t1 := dStr_dg i hi
  have t2 := dStr_dg j hj
  have z1 : (dg i).length + (Str.ofString "-").length ≤ sizeLine := by
    have : (dg i).length + (Str.ofString "-").length = 2 := rfl
    omega
  have z2 : (dg i ++ Str.ofString "-").length + (dg j).length ≤ sizeLine := by
    have : (dg i ++ Str.ofString "-").length + (dg j).length = 3 := rfl
    omega
  have z3 : (dg i ++ Str.ofString "-" ++ dg j).length + (⟨#[s]⟩ : Str).length ≤ sizeLine := by
    have : (dg i ++ Str.ofString "-" ++ dg j).length + (⟨#[s]⟩ : Str).length = 4 := rfl
    omega
  have fin : dg i ++ Str.ofString "-" ++ dg j ++ (⟨#[s]⟩ : Str) = wd i j s := rfl
  unfold ce0_l_text
  simp [a_e2, k_e2, a_oE, a_eCB, a_aCons, k_a, a_aNil, a_oN, a_oC, b_ok, a_two, a_rd, rdAll, dAdd, vS, Rv.data, sg, t1, t2, z1, z2, z3, fin]
end Mp
set_option Elab.async false
set_option linter.all false
set_option maxRecDepth 100000
namespace Mp
open PySem PySem.Spec PyProof.Rows L2 Evl
theorem lcL_yes {g : Tg} {t : Ev Bool} {ev : Ev Rv} {vs : List Nat} {d : D} {ds : List D} {r r1 r2 r3 r4 : Rho} {x : Rv} {l : List D} (hg : g d r = some r1) (ht : t r1 = .ok true r2) (he : ev r2 = .ok x r3) (h : lcL g t ev vs ds (wipeR r3 vs) = .ok l r4) : lcL g t ev vs (d :: ds) r = .ok (x.data :: l) r4 := by
  rw [lcL, hg]
  show (t r1).bind _ = _
  rw [ht, b_ok, if_pos rfl, he, b_ok, h, b_ok]
theorem lcL_no {g : Tg} {t : Ev Bool} {ev : Ev Rv} {vs : List Nat} {d : D} {ds : List D} {r r1 r2 r4 : Rho} {l : List D} (hg : g d r = some r1) (ht : t r1 = .ok false r2) (h : lcL g t ev vs ds (wipeR r2 vs) = .ok l r4) : lcL g t ev vs (d :: ds) r = .ok l r4 := by
  rw [lcL, hg]
  show (t r1).bind _ = _
  rw [ht, b_ok, if_neg Bool.false_ne_true, h]
/-! ### roads as triples -/
abbrev Tr3 := Nat × Nat × Nat
def rT (t : Tr3) : D := rD t.1 t.2.1 t.2.2
def trs (e : Nat → Nat → Option Nat) (n : Nat) : List Tr3 := (List.range n).flatMap fun i => (List.range' (i + 1) (n - (i + 1))).filterMap fun j => (e i j).map fun s => (i, j, s)
theorem roadsD_eq (e : Nat → Nat → Option Nat) (n : Nat) : roadsD e n = (trs e n).map rT := by
  unfold roadsD trs
  rw [List.map_flatMap]
  congr 1
  funext i
  unfold rowD
  rw [List.map_filterMap]
  congr 1
  funext j
  rw [Option.map_map]
  rfl
theorem trs_mem {e : Nat → Nat → Option Nat} {n : Nat} {t : Tr3} (h : t ∈ trs e n) : t.1 < t.2.1 ∧ t.2.1 < n ∧ e t.1 t.2.1 = some t.2.2 := by
  unfold trs at h
  rw [List.mem_flatMap] at h
  obtain ⟨i, hi, h⟩ := h
  rw [List.mem_filterMap] at h
  obtain ⟨j, hj, h⟩ := h
  rw [List.mem_range] at hi
  rw [List.mem_range'_1] at hj
  rw [Option.map_eq_some_iff] at h
  obtain ⟨s, hs, rfl⟩ := h
  exact ⟨by show i < j; omega, by show j < n; omega, hs⟩
theorem trs_len (e : Nat → Nat → Option Nat) (n : Nat) (hn : n ≤ 9) : (trs e n).length ≤ 90 := by
  have key : ∀ l : List Nat, ((l.flatMap fun i => (List.range' (i + 1) (n - (i + 1))).filterMap fun j => (e i j).map fun s => (i, j, s))).length ≤ lenB l := by
    intro l
    induction l with
    | nil => exact Nat.zero_le _
    | cons i l ih =>
      rw [List.flatMap_cons, List.length_append]
      have h1 := List.length_filterMap_le (fun j => (e i j).map fun s => (i, j, s)) (List.range' (i + 1) (n - (i + 1)))
      rw [List.length_range'] at h1
      show _ ≤ 10 + lenB l
      omega
  exact Nat.le_trans (key _) (lenB_nine _ (by rw [List.length_range]; exact hn))
/-! ### the text of a net -/
def wT (t : Tr3) : Str := wd t.1 t.2.1 t.2.2
def hd (n : Nat) : Str := ⟨#[48 + n, 58]⟩
def textOf (n : Nat) (ts : List Tr3) : Str := Txt.join (Str.ofString " ") (hd n :: ts.map wT)
theorem words_ok (C : Addr) (A B : Cell) : ∀ ts : List Tr3, (∀ t ∈ ts, t.1 < 10 ∧ t.2.1 < 10) → lcL (gT [(gN 2), (gN 3), (gN 4)]) tT (ce0_l_text C) [2, 3, 4] (ts.map rT) [A, B, .un, .un, .un] = .ok (ts.map fun t => .str (wT t)) [A, B, .un, .un, .un]
  | [], _ => rfl
  | t :: ts, h => by
    obtain ⟨h1, h2⟩ := h t List.mem_cons_self
    have ih := words_ok C A B ts fun t ht => h t (List.mem_cons_of_mem _ ht)
    rw [List.map_cons, List.map_cons]
    exact lcL_yes (r1 := [A, B, .val (.int t.1), .val (.int t.2.1), .val (sg t.2.2)]) rfl rfl (word_ok C A B t.1 t.2.1 t.2.2 h1 h2) ih
end Mp
set_option Elab.async false
set_option linter.all false
set_option maxRecDepth 100000
namespace Mp
open PySem PySem.Spec PyProof.Rows L2 Evl
theorem toStrs_map : ∀ ys : List Str, toStrs (ys.map D.str) = some ys
  | [] => rfl
  | y :: ys => by rw [List.map_cons, toStrs, toStrs_map ys]; rfl
theorem lens4 : ∀ ts : List Tr3, ((ts.map wT).map (·.length)).sum = 4 * ts.length
  | [] => rfl
  | t :: ts => by
    rw [List.map_cons, List.map_cons, List.sum_cons, lens4 ts, List.length_cons]
    have : (wT t).length = 4 := rfl
    omega
theorem comp_ok {it : Ev (List D)} {g : Tg} {t : Ev Bool} {ev : Ev Rv} {vs : List Nat} {r r1 r2 : Rho} {ds l : List D} (hi : it r = .ok ds r1) (sz : ds.length ≤ sizeLine) (h : lcL g t ev vs ds (wipeR r1 vs) = .ok l r2) : eComp it g t ev vs r = .ok (.new (.lst l)) (restore r1 r2 vs) := by
  rw [a_eComp, hi, b_ok, if_pos sz, h]
theorem text_ok (C : Addr) (n : Nat) (hn : n < 10) (ts : List Tr3) (ht : ∀ t ∈ ts, t.1 < 10 ∧ t.2.1 < 10) (hl : ts.length ≤ 90) : F_l_text C [.int n, .tup (ts.map rT)] = .val (.str (textOf n ts)) := by
  have hsz := sizeL
  have s0 : startR 5 [D.int n, .tup (ts.map rT)] = [.val (.int n), .val (.tup (ts.map rT)), .un, .un, .un] := by simp [startR, List.replicate]
  have it : iSeq (eN 1) [.val (.int n), .val (.tup (ts.map rT)), .un, .un, .un] = .ok (ts.map rT) [.val (.int n), .val (.tup (ts.map rT)), .un, .un, .un] := rfl
  have comp := comp_ok (g := gT [(gN 2), (gN 3), (gN 4)]) (t := tT) (ev := ce0_l_text C) (vs := [2, 3, 4]) it (by rw [List.length_map]; omega) (words_ok C (.val (.int n)) (.val (.tup (ts.map rT))) ts ht)
  have d1 := dStr_dg n hn
  have z1 : (dg n).length + (Str.ofString ":").length ≤ sizeLine := by
    have : (dg n).length + (Str.ofString ":").length = 2 := rfl
    omega
  have hh : dg n ++ Str.ofString ":" = hd n := rfl
  have s1 : (1 : Nat) ≤ sizeLine := by omega
  have z2 : ts.length + 1 ≤ sizeLine := by omega
  have z3 : (((hd n :: ts.map wT).map (·.length)).sum + (hd n :: ts.map wT).length * (Str.ofString " ").length) ≤ 16777216 := by
    have e1 : (Str.ofString " ").length = 1 := rfl
    have e2 : (hd n).length = 2 := rfl
    rw [List.map_cons, List.sum_cons, lens4, e1, e2, List.length_cons, List.length_map]
    omega
  have hj : dJoin (.str (Str.ofString " ")) [.lst (D.str (hd n) :: ts.map fun t => .str (wT t))] = some (.val (.str (textOf n ts))) := by
    have e : (D.str (hd n) :: ts.map fun t => D.str (wT t)) = (hd n :: ts.map wT).map D.str := by rw [List.map_cons, List.map_map]; rfl
    unfold dJoin
    dsimp only
    rw [e, toStrs_map]
    dsimp only
    rw [if_pos z3]
    rfl
  have res : restore [.val (.int n), .val (.tup (ts.map rT)), .un, .un, .un] [.val (.int n), .val (.tup (ts.map rT)), .un, .un, .un] [2, 3, 4] = [.val (.int n), .val (.tup (ts.map rT)), .un, .un, .un] := rfl
  rw [res] at comp
  have front : eLst (vCons (e2 dAdd (oE (eCB dStr (aCons (oN 0) aNil))) (oC (.str ":"))) vNil) [.val (.int n), .val (.tup (ts.map rT)), .un, .un, .un] = .ok (.new (.lst [.str (hd n)])) [.val (.int n), .val (.tup (ts.map rT)), .un, .un, .un] := by
    simp [a_eLst, a_vCons, k_v, a_vNil, a_e2, k_e2, a_oE, a_eCB, a_aCons, k_a, a_aNil, a_oN, a_oC, b_ok, a_two, a_rd, rdAll, dAdd, vS, Rv.data, d1, z1, hh, s1]
  unfold F_l_text runP
  rw [s0]
  unfold sv_l_text
  simp only [a_sRet, a_eMt, a_oC, b_ok, k_mt, a_rd, tyD, if_true, a_aCons, a_oE, a_e2, front, k_e2, comp, a_two, Rv.data, Own.data, k_a, a_aNil]
  simp [dAdd, z2, rdAll, a_rd, k_mt2, hj, b_ok, s_ok, foOf, k_a, a_aNil, Rv.data, Own.data, Nat.add_comm]
end Mp
set_option Elab.async false
set_option linter.all false
set_option maxRecDepth 100000
namespace Mp
open PySem PySem.Spec PyProof.Rows L2 Evl
/-! ### _law_hues -/
abbrev Dt := List (List Key × D)
def kk (i j : Nat) : List Key := [.inl (i : Int), .inl (j : Int)]
def put2 (l : Dt) (t : Tr3) : Dt := putD (putD l (kk t.1 t.2.1) (sg t.2.2)) (kk t.2.1 t.1) (sg t.2.2)
theorem putD_len {A : Type} [DecidableEq A] (l : List (A × D)) (k : A) (v : D) : (putD l k v).length ≤ l.length + 1 := by
  unfold putD
  split
  · rw [List.length_map]; omega
  · rw [List.length_append]; exact Nat.le_refl _
theorem hues_loop (C : Addr) (A : Cell) : ∀ (ts : List Tr3) (l : Dt) (x y z : Cell), l.length + 2 * ts.length ≤ 400 → ∃ x' y' z', forL (gT [(gN 2), (gN 3), (gN 4)]) (lb0_l_hues C) (ts.map rT) [A, .own (.dT l), x, y, z] = .nx [A, .own (.dT (ts.foldl put2 l)), x', y', z']
  | [], l, x, y, z, _ => ⟨x, y, z, rfl⟩
  | t :: ts, l, x, y, z, h => by
    have hsz := sizeL
    rw [List.length_cons] at h
    have h1 := putD_len l (kk t.1 t.2.1) (sg t.2.2)
    have h2 := putD_len (putD l (kk t.1 t.2.1) (sg t.2.2)) (kk t.2.1 t.1) (sg t.2.2)
    obtain ⟨x', y', z', ih⟩ := hues_loop C A ts (put2 l t) (.val (.int t.1)) (.val (.int t.2.1)) (.val (sg t.2.2)) (by unfold put2; omega)
    refine ⟨x', y', z', ?_⟩
    have s2 : (2 : Nat) ≤ sizeLine := by omega
    have l1 : l.length < sizeLine := by omega
    have l2 : (putD l (kk t.1 t.2.1) (sg t.2.2)).length < sizeLine := by omega
    have one : lb0_l_hues C [A, .own (.dT l), .val (.int t.1), .val (.int t.2.1), .val (sg t.2.2)] = .nx [A, .own (.dT (put2 l t)), .val (.int t.1), .val (.int t.2.1), .val (sg t.2.2)] := by
      unfold lb0_l_hues put2
      simp only [kk] at l2 ⊢
      simp [a_sCons, a_sDput, a_eN, s_ok, a_oE, a_eTup, a_vCons, k_v, a_vNil, b_ok, Rv.data, s2, a_rd, keysD, keyD, l1, l2, t_nx]
    rw [List.map_cons]
    exact (forL_nx rfl one).trans ih
theorem hues_ok (C : Addr) (ts : List Tr3) (hl : ts.length ≤ 90) : F_l_hues C [.tup (ts.map rT)] = .val (.dT (ts.foldl put2 [])) := by
  have s0 : startR 5 [D.tup (ts.map rT)] = [.val (.tup (ts.map rT)), .un, .un, .un, .un] := by simp [startR, List.replicate]
  obtain ⟨x, y, z, h⟩ := hues_loop C (.val (.tup (ts.map rT))) ts [] .un .un .un (by rw [List.length_nil]; omega)
  have it : iSeq (eN 0) [.val (.tup (ts.map rT)), .own (.dT []), .un, .un, .un] = .ok (ts.map rT) [.val (.tup (ts.map rT)), .own (.dT []), .un, .un, .un] := rfl
  have first : sSet 1 eDT [.val (.tup (ts.map rT)), .un, .un, .un, .un] = .nx [.val (.tup (ts.map rT)), .own (.dT []), .un, .un, .un] := rfl
  unfold F_l_hues runP
  rw [s0]
  unfold sv_l_hues
  rw [a_sCons, first, t_nx, a_sCons, a_sFor, it, s_ok, h, t_nx]
  simp [a_sRet, a_eN, s_ok, foOf, Own.data]
end Mp
set_option Elab.async false
set_option linter.all false
set_option maxRecDepth 100000
namespace Mp
open PySem PySem.Spec PyProof.Rows L2 Evl
/-! ### kinds -/
theorem fnInt_ok (C : Addr) (i : Int) : F_is_integer C [.int i] = .val (.bl true) := by
  simp [F_is_integer, sv_is_integer, runP, startR, a_sRet, a_eAnd, a_e1, a_oN, b_ok, a_rd, dIsi, isT, tyNm, k_eand1, a_eNot, s_ok, foOf]
theorem fnFrom_ok (C : Addr) (i lo hi : Int) : F_is_integer_from C [.int i, .int lo, .int hi] = .val (.bl (decide (lo ≤ i) && decide (i ≤ hi))) := by
  by_cases h1 : lo ≤ i
  · simp [F_is_integer_from, sv_is_integer_from, runP, startR, a_sRet, a_eAnd, a_eCall, a_vCons, k_v, a_vNil, a_eN, k_call, k_call2, sel, fnInt_ok, ofFO, Rv.data, a_e3, a_oN, b_ok, a_rd, k_eand1, k_e3, k_e3b, a_two, dOr2, dLe, vB, h1, k_e3t, s_ok, foOf]
  · simp [F_is_integer_from, sv_is_integer_from, runP, startR, a_sRet, a_eAnd, a_eCall, a_vCons, k_v, a_vNil, a_eN, k_call, k_call2, sel, fnInt_ok, ofFO, Rv.data, a_e3, a_oN, b_ok, a_rd, k_eand1, k_e3, k_e3b, a_two, dOr2, dLe, vB, h1, k_e3f, s_ok, foOf]
theorem fnSize_ok (C : Addr) (i : Int) : F_is_size C [.int i] = .val (.bl (decide (1 ≤ i) && decide (i ≤ 9))) := by
  simp [F_is_size, sv_is_size, runP, startR, a_sRet, a_eCall, a_vCons, k_v, a_vNil, a_eN, a_eC, k_call, k_call2, sel, fnFrom_ok, ofFO, Rv.data, b_ok, s_ok, foOf]
theorem fnPlace_ok (C : Addr) (i n : Int) : F_is_place C [.int i, .int n] = .val (.bl (decide (0 ≤ i) && decide (i ≤ n - 1))) := by
  simp [F_is_place, sv_is_place, runP, startR, a_sRet, a_eCall, a_vCons, k_v, a_vNil, a_eN, a_eC, a_e2, k_e2, a_oN, a_oC, a_two, a_rd, dSub, vI, k_call, k_call2, sel, fnFrom_ok, ofFO, Rv.data, b_ok, s_ok, foOf]
end Mp
set_option Elab.async false
set_option linter.all false
set_option maxRecDepth 100000
namespace Mp
open PySem PySem.Spec PyProof.Rows L2 Evl
theorem eqInt (i j : Int) : dEq (.int i) (.int j) = some (.val (.bl (i == j))) := rfl
theorem neInt (i j : Int) : dNe (.int i) (.int j) = some (.val (.bl (!(i == j)))) := rfl
theorem inHues (s : Nat) (h : okc s) : dInF id (sg s) (.str (Str.ofString "abcdef")) = some (.val (.bl true)) := by
  have e : dInF id (sg s) (.str (Str.ofString "abcdef")) = some (.val (.bl (decide (s ∈ [97, 98, 99, 100, 101, 102])))) := rfl
  rw [e]
  have : s ∈ [97, 98, 99, 100, 101, 102] := by
    obtain ⟨h1, h2⟩ := h
    simp only [List.mem_cons, List.not_mem_nil, or_false]
    omega
  rw [decide_eq_true this]
theorem lenSg (s : Nat) : dLen [sg s] = some (.val (.int 1)) := by
  have hsz := sizeL
  have e : dLen [sg s] = if (⟨#[s]⟩ : Str).length ≤ sizeLine then vI (⟨#[s]⟩ : Str).length else none := rfl
  have l : (⟨#[s]⟩ : Str).length = 1 := rfl
  rw [e, if_pos (by omega), l]
  rfl
theorem fnHue_ok (C : Addr) (s : Nat) (h : okc s) : F_is_hue C [sg s] = .val (.bl true) := by
  have e1 : isT "str" false (sg s) = some true := rfl
  have e2 := lenSg s
  have e3 := inHues s h
  simp [F_is_hue, sv_is_hue, runP, startR, a_sRet, a_eAnd, a_e1, a_oN, b_ok, a_rd, dIsi, e1, k_eand1, a_e2, k_e2, a_oE, a_eCB, a_aCons, k_a, a_aNil, rdAll, e2, a_two, a_oC, eqInt, e3, Rv.data, s_ok, foOf]
theorem fnRoad_ok (C : Addr) (n : Nat) (t : Tr3) (h1 : t.1 < t.2.1) (h2 : t.2.1 < n) (h3 : okc t.2.2) : F_is_road C [rT t, .int n] = .val (.bl true) := by
  have e1 : isT "tuple" false (rT t) = some true := rfl
  have e2 : dLen [rT t] = some (.val (.int 3)) := rfl
  have p1 : (decide ((0 : Int) ≤ (t.1 : Int)) && decide ((t.1 : Int) ≤ (n : Int) - 1)) = true := by rw [Bool.and_eq_true, decide_eq_true_eq, decide_eq_true_eq]; omega
  have p2 : (decide ((0 : Int) ≤ (t.2.1 : Int)) && decide ((t.2.1 : Int) ≤ (n : Int) - 1)) = true := by rw [Bool.and_eq_true, decide_eq_true_eq, decide_eq_true_eq]; omega
  have f1 : F_is_place C [.int (t.1 : Nat), .int n] = .val (.bl true) := by rw [fnPlace_ok, p1]
  have f2 : F_is_place C [.int (t.2.1 : Nat), .int n] = .val (.bl true) := by rw [fnPlace_ok, p2]
  have f3 := fnHue_ok C t.2.2 h3
  have lt : dLt (.int (t.1 : Nat)) (.int (t.2.1 : Nat)) = some (.val (.bl true)) := by
    show some (Rv.val (.bl (decide ((t.1 : Int) < (t.2.1 : Int))))) = _
    rw [decide_eq_true (by omega)]
  have g : gT [(gN 2), (gN 3), (gN 4)] (rT t) [.val (rT t), .val (.int n), .un, .un, .un] = some [.val (rT t), .val (.int n), .val (.int t.1), .val (.int t.2.1), .val (sg t.2.2)] := rfl
  have s0 : startR 5 [rT t, .int n] = [.val (rT t), .val (.int n), .un, .un, .un] := by simp [startR, List.replicate]
  have tru : truD (.bl true) = some true := rfl
  have ne33 : dNe (.int 3) (.int 3) = some (.val (.bl false)) := rfl
  unfold F_is_road runP
  rw [s0]
  unfold sv_is_road
  simp [a_sCons, a_sIf, a_tOr, a_tNot, a_tTr, a_oE, a_e1, a_oN, b_ok, a_rd, dIsi, e1, Rv.data, tru, k_or0, a_tv, a_e2, k_e2, a_eCB, a_aCons, k_a, a_aNil, rdAll, e2, a_oC, a_two, ne33, s_ok, k_sif0, a_sNil, t_nx, a_sTgt, a_eN, g, a_sRet, a_eAnd, a_eCall, a_vCons, k_v, a_vNil, k_call, k_call2, sel, f1, f2, f3, ofFO, k_eand1, lt, foOf]
end Mp
set_option Elab.async false
set_option linter.all false
set_option maxRecDepth 100000
namespace Mp
open PySem PySem.Spec PyProof.Rows L2 Evl
def lt3 (a b : Tr3) : Prop := a.1 < b.1 ∨ (a.1 = b.1 ∧ a.2.1 < b.2.1)
theorem trs_asc (e : Nat → Nat → Option Nat) (n : Nat) : (trs e n).Pairwise lt3 := by
  unfold trs
  rw [List.pairwise_flatMap]
  refine ⟨fun i hi => ?_, ?_⟩
  · rw [List.pairwise_filterMap]
    refine List.Pairwise.imp ?_ (List.pairwise_lt_range' (s := i + 1) (n := n - (i + 1)))
    intro a b h x hx y hy
    rw [Option.map_eq_some_iff] at hx hy
    obtain ⟨s, _, rfl⟩ := hx
    obtain ⟨s', _, rfl⟩ := hy
    exact .inr ⟨rfl, h⟩
  · refine List.Pairwise.imp ?_ (List.pairwise_lt_range (n := n))
    intro a b h x hx y hy
    rw [List.mem_filterMap] at hx hy
    obtain ⟨_, _, hx⟩ := hx
    obtain ⟨_, _, hy⟩ := hy
    rw [Option.map_eq_some_iff] at hx hy
    obtain ⟨s, _, rfl⟩ := hx
    obtain ⟨s', _, rfl⟩ := hy
    exact .inl h
theorem lex_no (p t : Tr3) (h : lt3 p t) : dOr2 dLe dLeT (.tup [.int (t.1 : Nat), .int (t.2.1 : Nat)]) (.tup [.int (p.1 : Nat), .int (p.2.1 : Nat)]) = some (.val (.bl false)) := by
  have e : dOr2 dLe dLeT (.tup [.int (t.1 : Nat), .int (t.2.1 : Nat)]) (.tup [.int (p.1 : Nat), .int (p.2.1 : Nat)]) = vB (lexLe [(t.1 : Int), (t.2.1 : Int)] [(p.1 : Int), (p.2.1 : Int)]) := rfl
  have l : lexLe [(t.1 : Int), (t.2.1 : Int)] [(p.1 : Int), (p.2.1 : Int)] = (if decide ((t.1 : Int) = p.1) = true then (if decide ((t.2.1 : Int) = p.2.1) = true then true else decide ((t.2.1 : Int) ≤ p.2.1)) else decide ((t.1 : Int) ≤ p.1)) := rfl
  rw [e, l]
  rcases h with h | ⟨h1, h2⟩
  · rw [if_neg (by rw [decide_eq_true_eq]; omega), decide_eq_false (by omega)]
    rfl
  · rw [if_pos (by rw [decide_eq_true_eq]; omega), if_neg (by rw [decide_eq_true_eq]; omega), decide_eq_false (by omega)]
    rfl
theorem cut_rT (t : Tr3) : dSl (rT t) none (some 2) = some (.val (.tup [.int (t.1 : Nat), .int (t.2.1 : Nat)])) := rfl
theorem fw_loop (C : Addr) (n : Nat) (ts : List Tr3) (asc : ts.Pairwise lt3) (ok : ∀ t ∈ ts, t.1 < t.2.1 ∧ t.2.1 < n ∧ okc t.2.2) : ∀ (us : List Tr3) (k : Nat) (x y : Cell), ts.drop k = us →
    ∃ x' y', forL (gT [(gN 2), (gN 3)]) (lb0_first_wrong_road C) ((us.zipIdx k).map fun p => .tup [.int (p.2 : Nat), rT p.1]) [.val (.tup (ts.map rT)), .val (.int n), x, y] = .nx [.val (.tup (ts.map rT)), .val (.int n), x', y']
  | [], k, x, y, _ => ⟨x, y, rfl⟩
  | t :: us, k, x, y, h => by
    have hk : ts[k]? = some t := by
      have := congrArg (·[0]?) h
      simpa using this
    have hd' : ts.drop (k + 1) = us := by
      have := congrArg List.tail h
      simpa using this
    obtain ⟨x', y', ih⟩ := fw_loop C n ts asc ok us (k + 1) (.val (.int (k : Nat))) (.val (rT t)) hd'
    refine ⟨x', y', ?_⟩
    rw [List.zipIdx_cons, List.map_cons]
    obtain ⟨o1, o2, o3⟩ := ok t (List.mem_of_getElem? hk)
    have fr := fnRoad_ok C n t o1 o2 o3
    have tru : truD (.bl true) = some true := rfl
    have one : lb0_first_wrong_road C [.val (.tup (ts.map rT)), .val (.int n), .val (.int (k : Nat)), .val (rT t)] = .nx [.val (.tup (ts.map rT)), .val (.int n), .val (.int (k : Nat)), .val (rT t)] := by
      unfold lb0_first_wrong_road
      cases k with
      | zero =>
        have gt : dGt (.int ((0 : Nat) : Int)) (.int 0) = some (.val (.bl false)) := rfl
        simp only [a_sCons, a_sIf, a_tNot, a_tTr, a_oE, a_eCall, a_vCons, k_v, a_vNil, a_eN, k_call, k_call2, sel, List.getElem?_cons_succ, List.getElem?_cons_zero, b_ok, Rv.data, List.cons_append, List.nil_append, List.filterMap_cons, List.filterMap_nil, fr, ofFO, a_rd, tru, s_ok, Bool.not_true, k_sif0, a_sNil, t_nx, a_tAnd, a_tv, a_e2, k_e2, a_oN, a_oC, a_two, gt, k_and0]
      | succ k =>
        have kp : k < ts.length := by
          have := (List.getElem?_eq_some_iff.mp hk).1
          omega
        have ltp : lt3 ts[k] t := by
          have hl := (List.getElem?_eq_some_iff.mp hk)
          obtain ⟨hl, e⟩ := hl
          have := List.pairwise_iff_getElem.mp asc k (k + 1) kp hl (Nat.lt_succ_self k)
          rw [e] at this; exact this
        have gt : dGt (.int ((k + 1 : Nat) : Int)) (.int 0) = some (.val (.bl true)) := by
          show some (Rv.val (.bl (decide ((0 : Int) < ((k + 1 : Nat) : Int))))) = _
          rw [decide_eq_true (by omega)]
        have sub : dSub (.int ((k + 1 : Nat) : Int)) (.int 1) = some (.val (.int (k : Nat))) := by
          show some (Rv.val (.int (((k + 1 : Nat) : Int) - 1))) = _
          have : ((k + 1 : Nat) : Int) - 1 = (k : Nat) := by omega
          rw [this]
        have ix : dIx (.tup (ts.map rT)) (.int (k : Nat)) = some (rT ts[k]) := by
          show atI (ts.map rT) (k : Nat) = _
          unfold atI ixN
          rw [List.length_map, if_pos (by omega), if_pos (by omega)]
          show (ts.map rT)[((k : Nat) : Int).toNat]? = _
          rw [Int.toNat_natCast, List.getElem?_map, List.getElem?_eq_getElem kp]
          rfl
        have lx := lex_no ts[k] t ltp
        simp only [a_sCons, a_sIf, a_tNot, a_tTr, a_oE, a_eCall, a_vCons, k_v, a_vNil, a_eN, k_call, k_call2, sel, List.getElem?_cons_succ, List.getElem?_cons_zero, b_ok, Rv.data, List.cons_append, List.nil_append, List.filterMap_cons, List.filterMap_nil, fr, ofFO, a_rd, tru, s_ok, Bool.not_true, k_sif0, a_sNil, t_nx, a_tAnd, a_tv, a_e2, k_e2, a_oN, a_oC, a_two, gt, k_and1, a_eSl, k_sl, a_pNone, k_sl2, a_pSome, k_sl3, cut_rT, a_eIx, sub, ix, Option.map_some, lx]
    exact (forL_nx rfl one).trans ih
theorem fw_ok (C : Addr) (n : Nat) (ts : List Tr3) (asc : ts.Pairwise lt3) (ok : ∀ t ∈ ts, t.1 < t.2.1 ∧ t.2.1 < n ∧ okc t.2.2) : F_first_wrong_road C [.tup (ts.map rT), .int n] = .val .non := by
  have s0 : startR 4 [D.tup (ts.map rT), .int n] = [.val (.tup (ts.map rT)), .val (.int n), .un, .un] := by simp [startR, List.replicate]
  obtain ⟨x, y, h⟩ := fw_loop C n ts asc ok ts 0 .un .un List.drop_zero
  have en : enumD (ts.map rT) = (ts.zipIdx 0).map fun p => D.tup [.int (p.2 : Nat), rT p.1] := by
    unfold enumD
    rw [List.zipIdx_map, List.map_map]
    rfl
  have it : iEn (eN 0) [.val (.tup (ts.map rT)), .val (.int n), .un, .un] = .ok (enumD (ts.map rT)) [.val (.tup (ts.map rT)), .val (.int n), .un, .un] := rfl
  unfold F_first_wrong_road runP
  rw [s0]
  unfold sv_first_wrong_road
  rw [a_sCons, a_sFor, it, s_ok, en, h, t_nx]
  rfl
end Mp
set_option Elab.async false
set_option linter.all false
set_option maxRecDepth 100000
namespace Mp
open PySem PySem.Spec PyProof.Rows L2 Evl
/-! ### Net(n, roads) -/
def put1 (l : Dt) (t : Tr3) : Dt := putD l (kk t.1 t.2.1) (sg t.2.2)
def netL (n : Nat) (ts : List Tr3) : List (Str × D) := [("_size", .int n), ("_roads", .tup (ts.map rT)), ("_hues", .dT (ts.foldl put1 []))]
def netO (C : Addr) (n : Nat) (ts : List Tr3) : Own := .ins C (netL n ts)
theorem dcL_yes {g : Tg} {t : Ev Bool} {ek ev : Ev Rv} {vs : List Nat} {d : D} {ds : List D} {acc : Dt} {r r1 r2 r3 r4 : Rho} {y x : Rv} {ks : List D} {key : List Key} (hg : g d r = some r1) (ht : t r1 = .ok true r2) (hk : ek r2 = .ok y r3) (hv : ev r3 = .ok x r4) (hy : y.data = .tup ks) (hkey : keysD ks = some key) :
    dcL g t ek ev vs (d :: ds) acc r = dcL g t ek ev vs ds (putD acc key x.data) (wipeR r4 vs) := by
  rw [dcL, hg]
  show (t r1).bind _ = _
  rw [ht, b_ok, if_pos rfl, hk, b_ok, hv, b_ok, hy]
  show (match keysD ks with | some key => dcL g t ek ev vs ds (putD acc key x.data) (wipeR r4 vs) | none => .stuck) = _
  rw [hkey]
theorem init_loop (C : Addr) (A B Cc Dd : Cell) : ∀ (ts : List Tr3) (l : Dt), dcL (gT [(gN 4), (gN 5), (gN 6)]) tT (ck1_NetD_initD C) (ce0_NetD_initD C) [4, 5, 6] (ts.map rT) l [A, B, Cc, Dd, .un, .un, .un] = .ok (ts.foldl put1 l) [A, B, Cc, Dd, .un, .un, .un]
  | [], l => rfl
  | t :: ts, l => by
    have hsz := sizeL
    have s2 : (2 : Nat) ≤ sizeLine := by omega
    have ih := init_loop C A B Cc Dd ts (put1 l t)
    have k : ck1_NetD_initD C [A, B, Cc, Dd, .val (.int t.1), .val (.int t.2.1), .val (sg t.2.2)] = .ok (.val (.tup [.int t.1, .int t.2.1])) [A, B, Cc, Dd, .val (.int t.1), .val (.int t.2.1), .val (sg t.2.2)] := by
      unfold ck1_NetD_initD
      simp [a_eTup, a_vCons, k_v, a_vNil, a_eN, b_ok, s2, Rv.data]
    have v : ce0_NetD_initD C [A, B, Cc, Dd, .val (.int t.1), .val (.int t.2.1), .val (sg t.2.2)] = .ok (.val (sg t.2.2)) [A, B, Cc, Dd, .val (.int t.1), .val (.int t.2.1), .val (sg t.2.2)] := rfl
    have tt : tT [A, B, Cc, Dd, .val (.int t.1), .val (.int t.2.1), .val (sg t.2.2)] = .ok true [A, B, Cc, Dd, .val (.int t.1), .val (.int t.2.1), .val (sg t.2.2)] := rfl
    have gg : gT [(gN 4), (gN 5), (gN 6)] (rT t) [A, B, Cc, Dd, .un, .un, .un] = some [A, B, Cc, Dd, .val (.int t.1), .val (.int t.2.1), .val (sg t.2.2)] := rfl
    rw [List.map_cons, dcL_yes gg tt k v (ks := [.int t.1, .int t.2.1]) (key := kk t.1 t.2.1) rfl rfl]
    exact ih
theorem init_ok (C : Addr) (n : Nat) (h0 : 1 ≤ n) (h9 : n ≤ 9) (ts : List Tr3) (hl : ts.length ≤ 90) (asc : ts.Pairwise lt3) (ok : ∀ t ∈ ts, t.1 < t.2.1 ∧ t.2.1 < n ∧ okc t.2.2) : F_NetD_initD C (.ins C []) [.int n, .tup (ts.map rT)] = (.val .non, netO C n ts) := by
  have hsz := sizeL
  have s0 : startM 7 (.ins C []) [D.int n, .tup (ts.map rT)] = [.own (.ins C []), .val (.int n), .val (.tup (ts.map rT)), .un, .un, .un, .un] := by simp [startM, List.replicate]
  have fs : F_is_size C [.int n] = .val (.bl true) := by
    rw [fnSize_ok]
    have : (decide ((1 : Int) ≤ (n : Int)) && decide ((n : Int) ≤ 9)) = true := by rw [Bool.and_eq_true, decide_eq_true_eq, decide_eq_true_eq]; omega
    rw [this]
  have fw := fw_ok C n ts asc ok
  have tru : truD (.bl true) = some true := rfl
  have isTup : isT "tuple" false (.tup (ts.map rT)) = some true := rfl
  have nn : dNotN .non .non = some (.val (.bl false)) := rfl
  let r1 : Rho := [.own (.ins C []), .val (.int n), .val (.tup (ts.map rT)), .un, .un, .un, .un]
  let r2 : Rho := [.own (.ins C []), .val (.int n), .val (.tup (ts.map rT)), .val .non, .un, .un, .un]
  let r3 : Rho := [.own (.ins C [("_size", .int n)]), .val (.int n), .val (.tup (ts.map rT)), .val .non, .un, .un, .un]
  let r4 : Rho := [.own (.ins C [("_size", .int n), ("_roads", .tup (ts.map rT))]), .val (.int n), .val (.tup (ts.map rT)), .val .non, .un, .un, .un]
  have q1 : sIf (tNotE (tTr (oE (eCall (F_is_size C) [0] (vCons (eN 1) vNil) vNil)))) sStk sNil r1 = .nx r1 := by
    simp [r1, a_sIf, a_tNot, a_tTr, a_oE, a_eCall, a_vCons, k_v, a_vNil, a_eN, k_call, k_call2, sel, b_ok, Rv.data, fs, ofFO, a_rd, tru, s_ok, k_sif0, a_sNil]
  have q2 : sIf (tNotE (tTr (oE (e1 (dIsi (isT "tuple" false)) (oN 2))))) sStk sNil r1 = .nx r1 := by
    simp [r1, a_sIf, a_tNot, a_tTr, a_oE, a_e1, a_oN, b_ok, a_rd, dIsi, isTup, Rv.data, tru, s_ok, k_sif0, a_sNil]
  have q3 : sSet 3 (eCall (F_first_wrong_road C) [0, 1] (vCons (eN 2) (vCons (eN 1) vNil)) vNil) r1 = .nx r2 := by
    simp [r1, r2, a_sSet, a_eCall, a_vCons, k_v, a_vNil, a_eN, k_call, k_call2, sel, b_ok, Rv.data, fw, ofFO, s_ok, cellOf]
  have q4 : sIf (tv (e2 dNotN (oN 3) (oC .non))) sStk sNil r2 = .nx r2 := by
    simp [r2, a_sIf, a_tv, a_e2, k_e2, a_oN, a_oC, a_two, b_ok, a_rd, nn, s_ok, k_sif0, a_sNil]
  have q5 : sFldC C 0 "_size" (eN 1) r2 = .nx r3 := by
    simp [r2, r3, a_sFldC, a_eN, s_ok, Rv.data, putFD]
  have ne1 : ¬ (("_size" : Str) = "_roads") := by decide +kernel
  have ne2 : ¬ (("_size" : Str) = "_hues") := by decide +kernel
  have ne3 : ¬ (("_roads" : Str) = "_hues") := by decide +kernel
  have q6 : sFldC C 0 "_roads" (eN 2) r3 = .nx r4 := by
    simp [r3, r4, a_sFldC, a_eN, s_ok, Rv.data, putFD, ne1]
  have it : iSeq (eN 2) r4 = .ok (ts.map rT) r4 := rfl
  have dc : eDc (iSeq (eN 2)) (gT [(gN 4), (gN 5), (gN 6)]) tT (ck1_NetD_initD C) (ce0_NetD_initD C) [4, 5, 6] r4 = .ok (.new (.dT (ts.foldl put1 []))) r4 := by
    have h := init_loop C (.own (.ins C [("_size", .int n), ("_roads", .tup (ts.map rT))])) (.val (.int n)) (.val (.tup (ts.map rT))) (.val .non) ts []
    have w : wipeR r4 [4, 5, 6] = [.own (.ins C [("_size", .int n), ("_roads", .tup (ts.map rT))]), .val (.int n), .val (.tup (ts.map rT)), .val .non, .un, .un, .un] := rfl
    rw [a_eDc, it, b_ok, if_pos (by rw [List.length_map]; omega), w, h]
    rfl
  have q7 : sFldC C 0 "_hues" (eDc (iSeq (eN 2)) (gT [(gN 4), (gN 5), (gN 6)]) tT (ck1_NetD_initD C) (ce0_NetD_initD C) [4, 5, 6]) r4 = .nx [.own (netO C n ts), .val (.int n), .val (.tup (ts.map rT)), .val .non, .un, .un, .un] := by
    rw [a_sFldC, dc, s_ok]
    simp [r4, Rv.data, Own.data, putFD, ne2, ne3, netO, netL]
  unfold F_NetD_initD runM
  rw [s0]
  unfold sv_NetD_initD
  rw [a_sCons, q1, t_nx, a_sCons, q2, t_nx, a_sCons, q3, t_nx, a_sCons, q4, t_nx, a_sCons, q5, t_nx, a_sCons, q6, t_nx, q7]
  rfl
end Mp
set_option Elab.async false
set_option linter.all false
set_option maxRecDepth 100000
namespace Mp
open PySem PySem.Spec PyProof.Rows L2 Evl
/-! ### reading words -/
theorem int_dg : ∀ i : Nat, i < 10 → PySem.intText? (dg i) = some (i : Int)
  | 0, _ => by decide +kernel
  | 1, _ => by decide +kernel
  | 2, _ => by decide +kernel
  | 3, _ => by decide +kernel
  | 4, _ => by decide +kernel
  | 5, _ => by decide +kernel
  | 6, _ => by decide +kernel
  | 7, _ => by decide +kernel
  | 8, _ => by decide +kernel
  | 9, _ => by decide +kernel
  | n + 10, h => absurd h (by omega)
theorem dInt_dg (i : Nat) (h : i < 10) : dInt [.str (dg i)] = some (.val (.int (i : Nat))) := by
  have l : (dg i).length ≤ 640 := by
    have : (dg i).length = 1 := rfl
    omega
  unfold dInt
  dsimp only
  rw [if_pos l, int_dg i h]
  rfl
theorem in_dg (i : Nat) (h : i < 10) : dInF (!·) (.str (dg i)) (.str (Str.ofString "0123456789")) = some (.val (.bl false)) := by
  have e : dInF (!·) (.str (dg i)) (.str (Str.ofString "0123456789")) = some (.val (.bl (!decide (48 + i ∈ [48, 49, 50, 51, 52, 53, 54, 55, 56, 57])))) := rfl
  have m : 48 + i ∈ [48, 49, 50, 51, 52, 53, 54, 55, 56, 57] := by
    simp only [List.mem_cons, List.not_mem_nil, or_false]
    omega
  rw [e, decide_eq_true m]
  rfl
theorem neSame (x : Str) (h : PyData.eqv (.str x) (.str x) = true) (h2 : SeqAt.shaped (.str x) = true) : dNe (.str x) (.str x) = some (.val (.bl false)) := by
  unfold dNe dEqB toPy
  dsimp only
  rw [h2, h]
  rfl
/-- a sign of a text -/
theorem ix_str {z : Str} {k c : Nat} (hz : z.length ≤ 100) (hc : z.cps.toList[k]? = some c) : dIx (.str z) (.int (k : Nat)) = some (sg c) := by
  have hsz := sizeL
  have hk : k < z.cps.toList.length := (List.getElem?_eq_some_iff.mp hc).1
  show (if z.length ≤ sizeLine then (atI z.cps.toList (k : Nat)).map fun c => D.str ⟨#[c]⟩ else none) = _
  rw [if_pos (by omega)]
  have : atI z.cps.toList ((k : Nat) : Int) = some c := by
    unfold atI ixN
    rw [if_pos (by omega), if_pos (by omega)]
    show z.cps.toList[((k : Nat) : Int).toNat]? = _
    rw [Int.toNat_natCast, hc]
  rw [this]
  rfl
theorem sizeIn_ok (C : Addr) (n : Nat) (hn : n < 10) : F_size_in C [.str (hd n)] = .val (.int (n : Nat)) := by
  have hsz := sizeL
  have ln : dLen [.str (hd n)] = some (.val (.int 2)) := by
    have l : (hd n).length = 2 := rfl
    show (if (hd n).length ≤ sizeLine then vI (hd n).length else none) = _
    rw [if_pos (by omega), l]; rfl
  have i0 : dIx (.str (hd n)) (.int 0) = some (.str (dg n)) := ix_str (k := 0) (c := 48 + n) (by have : (hd n).length = 2 := rfl; omega) rfl
  have i1 : dIx (.str (hd n)) (.int 1) = some (.str (Str.ofString ":")) := ix_str (k := 1) (c := 58) (by have : (hd n).length = 2 := rfl; omega) rfl
  have d0 := in_dg n hn
  have n2 : dNe (.int 2) (.int 2) = some (.val (.bl false)) := rfl
  have nc : dNe (.str (Str.ofString ":")) (.str (Str.ofString ":")) = some (.val (.bl false)) := neSame _ (by decide +kernel) (by decide +kernel)
  have di := dInt_dg n hn
  simp [F_size_in, sv_size_in, runP, startR, a_sCons, a_sIf, a_tOr, a_tv, a_e2, k_e2, a_oE, a_eCB, a_aCons, k_a, a_aNil, a_oN, a_oC, b_ok, a_rd, rdAll, ln, Rv.data, a_two, n2, k_or0, a_eIx, i0, i1, d0, nc, s_ok, k_sif0, a_sNil, t_nx, a_sRet, di, foOf]
theorem roadIn_ok (C : Addr) (t : Tr3) (h1 : t.1 < 10) (h2 : t.2.1 < 10) : F_road_in C [.str (wT t)] = .val (rT t) := by
  have hsz := sizeL
  have l4 : (wT t).length = 4 := rfl
  have ln : dLen [.str (wT t)] = some (.val (.int 4)) := by
    show (if (wT t).length ≤ sizeLine then vI (wT t).length else none) = _
    rw [if_pos (by omega), l4]; rfl
  have i0 : dIx (.str (wT t)) (.int 0) = some (.str (dg t.1)) := ix_str (k := 0) (c := 48 + t.1) (by omega) rfl
  have i1 : dIx (.str (wT t)) (.int 1) = some (.str (Str.ofString "-")) := ix_str (k := 1) (c := 45) (by omega) rfl
  have i2 : dIx (.str (wT t)) (.int 2) = some (.str (dg t.2.1)) := ix_str (k := 2) (c := 48 + t.2.1) (by omega) rfl
  have i3 : dIx (.str (wT t)) (.int 3) = some (sg t.2.2) := ix_str (k := 3) (c := t.2.2) (by omega) rfl
  have d0 := in_dg t.1 h1
  have d2 := in_dg t.2.1 h2
  have n4 : dNe (.int 4) (.int 4) = some (.val (.bl false)) := rfl
  have nc : dNe (.str (Str.ofString "-")) (.str (Str.ofString "-")) = some (.val (.bl false)) := neSame _ (by decide +kernel) (by decide +kernel)
  have di0 := dInt_dg t.1 h1
  have di2 := dInt_dg t.2.1 h2
  have s3 : (3 : Nat) ≤ sizeLine := by omega
  simp [F_road_in, sv_road_in, runP, startR, a_sCons, a_sIf, a_tOr, a_tv, a_e2, k_e2, a_oE, a_eCB, a_aCons, k_a, a_aNil, a_oN, a_oC, b_ok, a_rd, rdAll, ln, Rv.data, a_two, n4, k_or0, a_eIx, i0, i1, i2, i3, d0, d2, nc, s_ok, k_sif0, a_sNil, t_nx, a_sRet, a_eTup, a_vCons, k_v, a_vNil, di0, di2, s3, foOf, rT, rD]
end Mp
set_option Elab.async false
set_option linter.all false
set_option maxRecDepth 100000
namespace Mp
open PySem PySem.Spec PyProof.Rows L2 Evl
theorem parts_ok (n : Nat) (hn : n < 10) (ts : List Tr3) (ok : ∀ t ∈ ts, t.1 < 10 ∧ t.2.1 < 10 ∧ okc t.2.2) : Txt.split (textOf n ts) (Str.ofString " ") = hd n :: ts.map wT := by
  unfold textOf
  refine TL.split_join (s := 32) (S := []) rfl (by decide +kernel) (by simp) fun p hp => ?_
  rcases List.mem_cons.mp hp with rfl | hp
  · show 32 ∉ [48 + n, 58]
    simp only [List.mem_cons, List.not_mem_nil, or_false, not_or]
    omega
  · obtain ⟨t, ht, rfl⟩ := List.mem_map.mp hp
    obtain ⟨_, _, h1, h2⟩ := ok t ht
    show 32 ∉ [48 + t.1, 45, 48 + t.2.1, t.2.2]
    simp only [List.mem_cons, List.not_mem_nil, or_false, not_or]
    omega
theorem rwords_ok (C : Addr) (A B Cc Dd : Cell) : ∀ ts : List Tr3, (∀ t ∈ ts, t.1 < 10 ∧ t.2.1 < 10) → lcL (gN 4) tT (ce0_Net_read C) [4] (ts.map fun t => .str (wT t)) [A, B, Cc, Dd, .un] = .ok (ts.map rT) [A, B, Cc, Dd, .un]
  | [], _ => rfl
  | t :: ts, h => by
    obtain ⟨h1, h2⟩ := h t List.mem_cons_self
    have ih := rwords_ok C A B Cc Dd ts fun t ht => h t (List.mem_cons_of_mem _ ht)
    have one : ce0_Net_read C [A, B, Cc, Dd, .val (.str (wT t))] = .ok (.val (rT t)) [A, B, Cc, Dd, .val (.str (wT t))] := by
      have r := roadIn_ok C t h1 h2
      simp [ce0_Net_read, a_eCall, a_vCons, k_v, a_vNil, a_eN, b_ok, Rv.data, k_call, k_call2, sel, r, ofFO]
    rw [List.map_cons, List.map_cons]
    exact lcL_yes (r1 := [A, B, Cc, Dd, .val (.str (wT t))]) rfl rfl one ih
theorem textLen (n : Nat) (ts : List Tr3) (hl : ts.length ≤ 90) : (textOf n ts).length ≤ 900 := by
  unfold textOf
  rw [TL.join_eq]
  refine Nat.le_trans (StrLaws.join_length_le _ _) ?_
  have e1 : (Str.ofString " ").length = 1 := rfl
  have e2 : (hd n).length = 2 := rfl
  rw [List.map_cons, List.sum_cons, lens4, e1, e2, List.length_cons, List.length_map]
  omega
theorem read_ok (C : Addr) (n : Nat) (h0 : 1 ≤ n) (h9 : n ≤ 9) (ts : List Tr3) (hl : ts.length ≤ 90) (asc : ts.Pairwise lt3) (ok : ∀ t ∈ ts, t.1 < t.2.1 ∧ t.2.1 < n ∧ okc t.2.2) : F_Net_read C [.str (textOf n ts)] = .new (netO C n ts) := by
  have hsz := sizeL
  have ok2 : ∀ t ∈ ts, t.1 < 10 ∧ t.2.1 < 10 ∧ okc t.2.2 := fun t ht => by
    obtain ⟨a, b, c⟩ := ok t ht
    exact ⟨by omega, by omega, c⟩
  have ok3 : ∀ t ∈ ts, t.1 < 10 ∧ t.2.1 < 10 := fun t ht => ⟨(ok2 t ht).1, (ok2 t ht).2.1⟩
  have tl := textLen n ts hl
  have s0 : startR 5 [D.str (textOf n ts)] = [.val (.str (textOf n ts)), .un, .un, .un, .un] := by simp [startR, List.replicate]
  let ws : List D := .str (hd n) :: ts.map fun t => .str (wT t)
  have sp : dSplit (.str (textOf n ts)) [.str (Str.ofString " ")] = some (.new (.lst ws)) := by
    show (if ((Str.ofString " ").length == 0) = false ∧ (textOf n ts).length + 2 ≤ sizeLine then some (Rv.new (.lst ((Txt.split (textOf n ts) (Str.ofString " ")).map .str))) else none) = _
    rw [if_pos ⟨by decide +kernel, by omega⟩, parts_ok n (by omega) ts ok2, List.map_cons, List.map_map]
    rfl
  have tru : truD (.bl true) = some true := rfl
  have isStr : isT "str" false (.str (textOf n ts)) = some true := rfl
  have fs : F_is_size C [.int n] = .val (.bl true) := by
    rw [fnSize_ok]
    have : (decide ((1 : Int) ≤ (n : Int)) && decide ((n : Int) ≤ 9)) = true := by rw [Bool.and_eq_true, decide_eq_true_eq, decide_eq_true_eq]; omega
    rw [this]
  have si := sizeIn_ok C n (by omega)
  have fw := fw_ok C n ts asc ok
  have ini := init_ok C n h0 h9 ts hl asc ok
  have nn : dNotN .non .non = some (.val (.bl false)) := rfl
  let T : Cell := .val (.str (textOf n ts))
  let r1 : Rho := [T, .un, .un, .un, .un]
  let r2 : Rho := [T, .own (.lst ws), .un, .un, .un]
  let r3 : Rho := [T, .own (.lst ws), .val (.int n), .un, .un]
  let r4 : Rho := [T, .own (.lst ws), .val (.int n), .val (.tup (ts.map rT)), .un]
  have q1 : sIf (tNotE (tTr (oE (e1 (dIsi (isT "str" false)) (oN 0))))) sStk sNil r1 = .nx r1 := by
    simp [r1, T, a_sIf, a_tNot, a_tTr, a_oE, a_e1, a_oN, b_ok, a_rd, dIsi, isStr, Rv.data, tru, s_ok, k_sif0, a_sNil]
  have q2 : sSet 1 (eMt "str" dSplit (oN 0) (aCons (oC (.str " ")) aNil)) r1 = .nx r2 := by
    simp [r1, r2, T, a_sSet, a_eMt, a_oN, b_ok, k_mt, a_rd, tyD, a_aCons, k_a, a_aNil, a_oC, k_mt2, rdAll, sp, s_ok, cellOf]
  have ix : dIx (.lst ws) (.int 0) = some (.str (hd n)) := by
    show atI ws 0 = _
    unfold atI ixN
    simp [ws]
  have q3 : sSet 2 (eCall (F_size_in C) [0] (vCons (eIx (oN 1) (oC (.int 0))) vNil) vNil) r2 = .nx r3 := by
    simp [r2, r3, T, a_sSet, a_eCall, a_vCons, k_v, a_vNil, a_eIx, a_e2, k_e2, a_oN, a_oC, b_ok, a_two, a_rd, a_rdS, Own.data, ix, Rv.data, k_call, k_call2, sel, si, ofFO, s_ok, cellOf]
  have sl : dSl (.lst ws) (some 1) none = some (.new (.lst (ts.map fun t => .str (wT t)))) := by
    show some (Rv.new (.lst (cutD ws (some 1) none))) = _
    have : cutD ws (some 1) none = ts.map fun t => .str (wT t) := by
      unfold cutD
      simp [ws, HT.sIx]
      exact List.take_of_length_le (by rw [List.length_map]; exact Nat.le_refl _)
    rw [this]
  have it : iSeq (eSl (oN 1) (pSome (oC (.int 1))) pNone) r3 = .ok (ts.map fun t => .str (wT t)) r3 := by
    simp [r3, T, a_iSeq, a_eSl, a_oN, b_ok, k_sl, a_pSome, a_oC, a_rd, k_sl2, a_pNone, k_sl3, a_rdS, Own.data, sl, Rv.data]
  have comp := comp_ok (g := gN 4) (t := tT) (ev := ce0_Net_read C) (vs := [4]) it (by rw [List.length_map]; omega) (rwords_ok C T (.own (.lst ws)) (.val (.int n)) .un ts ok3)
  have q4 : sSet 3 (eCB dTupOf (aCons (oE (eComp (iSeq (eSl (oN 1) (pSome (oC (.int 1))) pNone)) (gN 4) tT (ce0_Net_read C) [4])) aNil)) r3 = .nx r4 := by
    have res : restore r3 [T, .own (.lst ws), .val (.int n), .un, .un] [4] = r3 := rfl
    rw [res] at comp
    rw [a_sSet, a_eCB, a_aCons, a_oE, comp]
    simp [r3, r4, b_ok, k_a, a_aNil, rdAll, a_rd, dTupOf, Rv.data, Own.data, s_ok, cellOf]
  have q5 : sIf (tOrE (tNotE (tTr (oE (eCall (F_is_size C) [0] (vCons (eN 2) vNil) vNil)))) (tv (e2 dNotN (oE (eCall (F_first_wrong_road C) [0, 1] (vCons (eN 3) (vCons (eN 2) vNil)) vNil)) (oC .non)))) sStk sNil r4 = .nx r4 := by
    simp [r4, T, a_sIf, a_tOr, a_tNot, a_tTr, a_oE, a_eCall, a_vCons, k_v, a_vNil, a_eN, k_call, k_call2, sel, b_ok, Rv.data, fs, ofFO, a_rd, tru, k_or0, a_tv, a_e2, k_e2, fw, a_oC, a_two, nn, s_ok, k_sif0, a_sNil]
  unfold F_Net_read runP
  rw [s0]
  unfold sv_Net_read
  rw [a_sCons, q1, t_nx, a_sCons, q2, t_nx, a_sCons, q3, t_nx, a_sCons, q4, t_nx, a_sCons, q5, t_nx]
  simp [r4, T, a_sRet, a_eMake, a_vCons, k_v, a_vNil, a_eN, b_ok, Rv.data, k_make, k_make2, sel, ini, s_ok, foOf]
end Mp
set_option Elab.async false
set_option linter.all false
namespace Mp
open PySem PySem.Builtin PySem.Builtin.Str
/-! ### signs and lengths of what repr shows -/
def Sgn (x : Str) : Prop := ∀ c ∈ x.cps.toList, c < 1114112
theorem cps_app (x y : Str) : (x ++ y).cps.toList = x.cps.toList ++ y.cps.toList := Array.toList_append
theorem Sgn.app {x y : Str} (hx : Sgn x) (hy : Sgn y) : Sgn (x ++ y) := fun c h => by
  rw [cps_app, List.mem_append] at h
  exact h.elim (hx c) (hy c)
theorem char_small (c : Char) : c.toNat < 1114112 := by
  have h := c.valid
  rcases h with h | h
  · exact Nat.lt_of_lt_of_le h (by decide)
  · exact h.2
theorem Sgn.of (s : String) : Sgn (Str.ofString s) := fun c h => by
  rw [Str.ofString_eq_toList] at h
  simp only [List.mem_map] at h
  obtain ⟨k, _, rfl⟩ := h
  exact char_small k
theorem Sgn.ok {x : Str} (h : Sgn x) : PyData.strOk x = true := by
  unfold PyData.strOk
  rw [Array.all_eq_true]
  intro i hi
  exact decide_eq_true (h _ (by rw [Array.mem_toList_iff]; exact Array.getElem_mem hi))
theorem sgn_char (q c : Nat) (hq : q < 1114112) (hc : c < 1114112) : ∀ d ∈ reprChar q c, d < 1114112 := by
  intro d hd
  have hx : ∀ w : Nat, ∀ d ∈ (List.replicate (w - ((Nat.toDigits 16 c).map Char.toNat).length) 48 ++ (Nat.toDigits 16 c).map Char.toNat), d < 1114112 := by
    intro w d h
    rcases List.mem_append.mp h with h | h
    · have := List.eq_of_mem_replicate h
      omega
    · obtain ⟨k, _, rfl⟩ := List.mem_map.mp h
      exact char_small k
  unfold reprChar at hd
  dsimp only at hd
  split at hd
  · simp only [List.mem_cons, List.not_mem_nil, or_false] at hd; omega
  split at hd
  · simp only [List.mem_cons, List.not_mem_nil, or_false] at hd; omega
  split at hd
  · simp only [List.mem_cons, List.not_mem_nil, or_false] at hd; omega
  split at hd
  · simp only [List.mem_cons, List.not_mem_nil, or_false] at hd; omega
  split at hd
  · simp only [List.mem_cons, List.not_mem_nil, or_false] at hd; omega
  split at hd
  · rcases List.mem_append.mp hd with h | h
    · simp only [List.mem_cons, List.not_mem_nil, or_false] at h; omega
    · exact hx _ d h
  split at hd
  · rcases List.mem_append.mp hd with h | h
    · simp only [List.mem_cons, List.not_mem_nil, or_false] at h; omega
    · exact hx _ d h
  · rcases List.mem_append.mp hd with h | h
    · simp only [List.mem_cons, List.not_mem_nil, or_false] at h; omega
    · exact hx _ d h
theorem sgn_fold (q : Nat) (hq : q < 1114112) : ∀ (l : List Nat) (acc : Array Nat), (∀ c ∈ l, c < 1114112) → (∀ c ∈ acc.toList, c < 1114112) → ∀ c ∈ (l.foldl (fun out c => out ++ (reprChar q c).toArray) acc).toList, c < 1114112
  | [], acc, _, h => h
  | a :: l, acc, hl, h => by
    rw [List.foldl_cons]
    refine sgn_fold q hq l _ (fun c hc => hl c (List.mem_cons_of_mem _ hc)) fun c hc => ?_
    rw [Array.toList_append, List.mem_append] at hc
    exact hc.elim (h c) (sgn_char q a hq (hl a List.mem_cons_self) c)
theorem Sgn.repr {x : Str} (h : Sgn x) : Sgn (reprText x) := fun c hc => by
  have hq : reprQuote x < 1114112 := by unfold reprQuote; split <;> omega
  unfold reprText at hc
  rw [Array.toList_push, ← Array.foldl_toList, List.mem_append] at hc
  rcases hc with hc | hc
  · exact sgn_fold _ hq x.cps.toList _ h (fun c hc => by simp at hc; omega) c hc
  · simp at hc; omega
theorem textFrom_le {w : Nat} : ∀ (ts : List Str) (k : Nat) (acc : Str), (∀ t ∈ ts, t.length ≤ w) → (textFrom k acc ts).length ≤ acc.length + ts.length * (w + 2)
  | [], k, acc, _ => by rw [List.length_nil, Nat.zero_mul]; exact Nat.le_refl _
  | t :: ts, k, acc, h => by
    have ih := textFrom_le ts (k + 1) (acc ++ (if k > 0 then ", " else "" : String) ++ t) fun s hs => h s (List.mem_cons_of_mem _ hs)
    have e : (acc ++ (if k > 0 then ", " else "" : String) ++ t).length ≤ acc.length + 2 + t.length := by
      rw [strLen_append, strLen_append]
      split
      · exact Nat.le_refl _
      · have : ((("" : String) : Str)).length = 0 := rfl
        omega
    have ht := h t List.mem_cons_self
    show (textFrom (k + 1) _ ts).length ≤ _
    rw [List.length_cons, Nat.succ_mul]
    omega
theorem textFrom_sgn : ∀ (ts : List Str) (k : Nat) (acc : Str), (∀ t ∈ ts, Sgn t) → Sgn acc → Sgn (textFrom k acc ts)
  | [], k, acc, _, h => h
  | t :: ts, k, acc, h, ha => textFrom_sgn ts (k + 1) _ (fun s hs => h s (List.mem_cons_of_mem _ hs)) ((ha.app (.of _)).app (h t List.mem_cons_self))
theorem join_le {w : Nat} : ∀ (ts : List Str), (∀ t ∈ ts, t.length ≤ w) → (Str.join ", " ts).length ≤ ts.length * (w + 2)
  | [], _ => Nat.zero_le _
  | [x], h => by
    have := h x List.mem_cons_self
    show x.length ≤ 1 * (w + 2)
    omega
  | x :: y :: r, h => by
    have ih := join_le (y :: r) fun s hs => h s (List.mem_cons_of_mem _ hs)
    have hx := h x List.mem_cons_self
    show (x ++ ", " ++ Str.join ", " (y :: r)).length ≤ _
    have e2 : ((", " : String) : Str).length = 2 := rfl
    rw [strLen_append, strLen_append, e2, List.length_cons, Nat.succ_mul]
    omega
theorem join_sgn : ∀ (ts : List Str), (∀ t ∈ ts, Sgn t) → Sgn (Str.join ", " ts)
  | [], _ => fun c h => nomatch h
  | [x], h => h x List.mem_cons_self
  | x :: y :: r, h => ((h x List.mem_cons_self).app (.of _)).app (join_sgn (y :: r) fun s hs => h s (List.mem_cons_of_mem _ hs))
theorem listText_le {w : Nat} {ts : List Str} (h : ∀ t ∈ ts, t.length ≤ w) : (listText ts).length ≤ ts.length * (w + 2) + 4 := by
  have := textFrom_le ts 0 "[" h
  unfold listText
  rw [strLen_append]
  have e1 : ((("[" : String) : Str)).length = 1 := rfl
  have e2 : ((("]" : String) : Str)).length = 1 := rfl
  omega
theorem listText_sgn {ts : List Str} (h : ∀ t ∈ ts, Sgn t) : Sgn (listText ts) := (textFrom_sgn ts 0 _ h (.of _)).app (.of _)
theorem tupleText_le {w : Nat} {ts : List Str} (h : ∀ t ∈ ts, t.length ≤ w) : (tupleText ts).length ≤ ts.length * (w + 2) + 4 := by
  have := join_le ts h
  unfold tupleText
  rw [strLen_append, strLen_append]
  have e1 : ((("(" : String) : Str)).length = 1 := rfl
  have e2 : ((if ts.length == 1 then ",)" else ")" : String) : Str).length ≤ 2 := by split <;> decide +kernel
  omega
theorem tupleText_sgn {ts : List Str} (h : ∀ t ∈ ts, Sgn t) : Sgn (tupleText ts) := ((Sgn.of _).app (join_sgn ts h)).app (.of _)
/-- data whose text is short -/
structure Sh (w k : Nat) (p : PyData) : Prop where
  ok : p.showable = true
  nd : p.hasDict = false
  le : p.shown.length ≤ w
  dp : p.depth ≤ k
  sg : Sgn p.shown
theorem Sh.mono {w k w' k' : Nat} {p : PyData} (h : Sh w k p) (a : w ≤ w') (b : k ≤ k') : Sh w' k' p := ⟨h.ok, h.nd, Nat.le_trans h.le a, Nat.le_trans h.dp b, h.sg⟩
theorem sh_non : Sh 4 0 .none := ⟨rfl, rfl, by decide +kernel, Nat.le_refl _, .of "None"⟩
theorem sh_bl (b : Bool) : Sh 5 0 (.bool b) := by
  cases b
  · exact ⟨rfl, rfl, by decide +kernel, Nat.le_refl _, .of "False"⟩
  · exact ⟨rfl, rfl, by decide +kernel, Nat.le_refl _, .of "True"⟩
theorem len_small : ∀ i : _root_.Fin 100, (((toString ((i : Nat) : Int) : String) : Str)).length ≤ 2 := by decide +kernel
theorem sh_int {i : Int} (h0 : 0 ≤ i) (h : i < 100) : Sh 2 0 (.int i) := by
  obtain ⟨n, rfl⟩ := Int.eq_ofNat_of_zero_le h0
  refine ⟨?_, rfl, len_small ⟨n, by omega⟩, Nat.le_refl _, .of _⟩
  show decide _ = true
  rw [decide_eq_true_eq, Int.natAbs_natCast]
  exact Nat.lt_of_le_of_lt (Nat.log2_le_self n) (by omega)
theorem sh_str {x : Str} (h : Sgn x) : Sh (10 * x.length + 2) 0 (.str x) := ⟨rfl, rfl, StrLaws.reprText_len x fun c hc => Nat.lt_of_lt_of_le (h c hc) (by decide), Nat.le_refl _, h.repr⟩
theorem sh_all {w k : Nat} : ∀ {ps : List PyData}, (∀ p ∈ ps, Sh w k p) → PyData.showableAll ps = true ∧ PyData.hasDictAll ps = false ∧ (∀ t ∈ PyData.shownAll ps, t.length ≤ w ∧ Sgn t) ∧ PyData.depthAll ps ≤ k ∧ (PyData.shownAll ps).length = ps.length
  | [], _ => ⟨rfl, rfl, fun _ h => (nomatch h), Nat.zero_le _, rfl⟩
  | p :: ps, h => by
    obtain ⟨a, b, c, d, e⟩ := sh_all (ps := ps) fun q hq => h q (List.mem_cons_of_mem _ hq)
    have hp := h p List.mem_cons_self
    refine ⟨?_, ?_, ?_, ?_, ?_⟩
    · rw [PyData.showableAll, hp.ok, a]; rfl
    · rw [PyData.hasDictAll, hp.nd, b]; rfl
    · intro t ht
      rw [PyData.shownAll] at ht
      rcases List.mem_cons.mp ht with rfl | ht
      · exact ⟨hp.le, hp.sg⟩
      · exact c t ht
    · rw [PyData.depthAll]
      have := hp.dp
      omega
    · rw [PyData.shownAll, List.length_cons, List.length_cons, e]
theorem sh_list {w k m : Nat} {ps : List PyData} (h : ∀ p ∈ ps, Sh w k p) (hm : ps.length ≤ m) : Sh (m * (w + 2) + 4) (k + 1) (.list ps) := by
  obtain ⟨a, b, c, d, e⟩ := sh_all h
  refine ⟨by rw [PyData.showable]; exact a, by rw [PyData.hasDict]; exact b, ?_, by rw [PyData.depth]; omega, ?_⟩
  · rw [PyData.shown]
    have := listText_le fun t ht => (c t ht).1
    have h2 := Nat.mul_le_mul_right (w + 2) hm
    rw [e] at this
    omega
  · rw [PyData.shown]
    exact listText_sgn fun t ht => (c t ht).2
theorem sh_tup {w k m : Nat} {ps : List PyData} (h : ∀ p ∈ ps, Sh w k p) (hm : ps.length ≤ m) : Sh (m * (w + 2) + 4) (k + 1) (.tuple ps) := by
  obtain ⟨a, b, c, d, e⟩ := sh_all h
  refine ⟨by rw [PyData.showable]; exact a, by rw [PyData.hasDict]; exact b, ?_, by rw [PyData.depth]; omega, ?_⟩
  · rw [PyData.shown]
    have := tupleText_le fun t ht => (c t ht).1
    have h2 := Nat.mul_le_mul_right (w + 2) hm
    rw [e] at this
    omega
  · rw [PyData.shown]
    exact tupleText_sgn fun t ht => (c t ht).2
end Mp
set_option Elab.async false
set_option linter.all false
namespace Mp
open PySem PySem.Spec PyProof.Rows L2 Evl
/-! ### repr of data -/
structure Gd (w k : Nat) (d : D) : Prop where
  p : ∃ p, toPy d = some p ∧ Sh w k p
theorem Gd.mono {w k w' k' : Nat} {d : D} (h : Gd w k d) (a : w ≤ w') (b : k ≤ k') : Gd w' k' d := by
  obtain ⟨p, e, s⟩ := h.p
  exact ⟨p, e, s.mono a b⟩
theorem gd_non : Gd 5 1 .non := ⟨_, rfl, sh_non.mono (by omega) (by omega)⟩
theorem gd_bl (b : Bool) : Gd 5 1 (.bl b) := ⟨_, rfl, (sh_bl b).mono (by omega) (by omega)⟩
theorem gd_int {i : Int} (h0 : 0 ≤ i) (h : i < 100) : Gd 5 1 (.int i) := ⟨_, rfl, (sh_int h0 h).mono (by omega) (by omega)⟩
theorem gd_str {x : Str} (h : Sgn x) : Gd (10 * x.length + 2) 1 (.str x) := ⟨_, rfl, (sh_str h).mono (by omega) (by omega)⟩
theorem gd_all {w k : Nat} : ∀ {ds : List D}, (∀ d ∈ ds, Gd w k d) → ∃ ps, toPy.toPyAll ds = some ps ∧ (∀ p ∈ ps, Sh w k p) ∧ ps.length = ds.length
  | [], _ => ⟨[], rfl, fun _ h => (nomatch h), rfl⟩
  | d :: ds, h => by
    obtain ⟨ps, a, b, c⟩ := gd_all (ds := ds) fun q hq => h q (List.mem_cons_of_mem _ hq)
    obtain ⟨p, e, s⟩ := (h d List.mem_cons_self).p
    refine ⟨p :: ps, ?_, ?_, by rw [List.length_cons, List.length_cons, c]⟩
    · rw [toPy.toPyAll, e, a]
    · intro q hq
      rcases List.mem_cons.mp hq with rfl | hq
      · exact s
      · exact b q hq
theorem gd_lst {w k m : Nat} {ds : List D} (h : ∀ d ∈ ds, Gd w k d) (hm : ds.length ≤ m) : Gd (m * (w + 2) + 4) (k + 1) (.lst ds) := by
  obtain ⟨ps, a, b, c⟩ := gd_all h
  exact ⟨.list ps, by rw [toPy, a]; rfl, sh_list b (by omega)⟩
theorem gd_tup {w k m : Nat} {ds : List D} (h : ∀ d ∈ ds, Gd w k d) (hm : ds.length ≤ m) : Gd (m * (w + 2) + 4) (k + 1) (.tup ds) := by
  obtain ⟨ps, a, b, c⟩ := gd_all h
  exact ⟨.tuple ps, by rw [toPy, a]; rfl, sh_tup b (by omega)⟩
theorem gd_repr {w k : Nat} {d : D} (h : Gd w k d) (hw : w ≤ 100000) (hk : k ≤ 64) : ∃ s, dRepr [d] = some (.val (.str s)) ∧ Sgn s := by
  obtain ⟨p, e, s⟩ := h.p
  refine ⟨p.shown, ?_, s.sg⟩
  have a := s.le
  have b := s.dp
  unfold dRepr
  dsimp only
  rw [e]
  dsimp only
  rw [s.ok, s.nd, decide_eq_true (Nat.le_trans a hw), decide_eq_true (Nat.le_trans b hk)]
  rfl
theorem ne_sgn {s : Str} (h : Sgn s) : dNe (.str s) (.str s) = some (.val (.bl false)) := by
  have e : SeqAt.shaped (.str s) = true := by
    show (PyData.strOk s && decide (0 ≤ 64)) = true
    rw [h.ok]; rfl
  have e2 : PyData.eqv (.str s) (.str s) = true := by
    rw [PyData.eqv]; exact beq_self_eq_true s
  unfold dNe dEqB toPy
  dsimp only
  rw [e, e2]
  rfl
/-- strings: == -/
theorem eq_sgn {x y : Str} (hx : Sgn x) (hy : Sgn y) : dEq (.str x) (.str y) = some (.val (.bl (decide (x = y)))) := by
  have e : ∀ s, Sgn s → SeqAt.shaped (.str s) = true := fun s h => by
    show (PyData.strOk s && decide (0 ≤ 64)) = true
    rw [h.ok]; rfl
  have e2 : PyData.eqv (.str x) (.str y) = decide (x = y) := by
    rw [PyData.eqv]; by_cases h : x = y
    · subst h; rw [beq_self_eq_true, decide_eq_true rfl]
    · rw [decide_eq_false h]; exact beq_eq_false_iff_ne.mpr h
  unfold dEq dEqB toPy
  dsimp only
  rw [e x hx, e y hy, e2]
  rfl
end Mp
set_option Elab.async false
set_option linter.all false
set_option maxRecDepth 100000
namespace Mp
open PySem PySem.Spec PyProof.Rows L2 Evl
/-! ### what a net tells -/
def netD (C : Addr) (n : Nat) (ts : List Tr3) : D := .ins C (netL n ts)
theorem fld_size (C : Addr) (n : Nat) (ts : List Tr3) : dFld C "_size" (netD C n ts) = some (.val (.int n)) := by
  show (if C = C then ((netL n ts).lookup (Str.ofString "_size")).map Rv.val else none) = _
  rw [if_pos rfl]
  rfl
theorem fld_roads (C : Addr) (n : Nat) (ts : List Tr3) : dFld C "_roads" (netD C n ts) = some (.val (.tup (ts.map rT))) := by
  have e : (("_roads" : Str) == "_size") = false := by decide +kernel
  show (if C = C then ((netL n ts).lookup (Str.ofString "_roads")).map Rv.val else none) = _
  rw [if_pos rfl]
  unfold netL
  rw [List.lookup_cons, e]
  rfl
theorem fld_hues (C : Addr) (n : Nat) (ts : List Tr3) : dFld C "_hues" (netD C n ts) = some (.val (.dT (ts.foldl put1 []))) := by
  have e : (("_hues" : Str) == "_size") = false := by decide +kernel
  have e2 : (("_hues" : Str) == "_roads") = false := by decide +kernel
  show (if C = C then ((netL n ts).lookup (Str.ofString "_hues")).map Rv.val else none) = _
  rw [if_pos rfl]
  unfold netL
  rw [List.lookup_cons, e]
  dsimp only
  rw [List.lookup_cons, e2]
  rfl
theorem fsz_ok (C : Addr) (n : Nat) (ts : List Tr3) : F_Net_size C [netD C n ts] = .val (.int n) := by
  have f := fld_size C n ts
  simp [F_Net_size, sv_Net_size, runP, startR, a_sRet, a_e1, a_oN, b_ok, a_rd, f, s_ok, foOf]
theorem frd_ok (C : Addr) (n : Nat) (ts : List Tr3) : F_Net_roads C [netD C n ts] = .val (.tup (ts.map rT)) := by
  have f := fld_roads C n ts
  simp [F_Net_roads, sv_Net_roads, runP, startR, a_sRet, a_e1, a_oN, b_ok, a_rd, f, s_ok, foOf]
theorem len_tup (ds : List D) : dLen [.tup ds] = some (.val (.int ds.length)) := rfl
theorem fln_ok (C : Addr) (n : Nat) (ts : List Tr3) (hl : ts.length ≤ 90) : F_NetD_lenD C [netD C n ts] = .val (.int ts.length) := by
  have f := fld_roads C n ts
  have l := len_tup (ts.map rT)
  rw [List.length_map] at l
  simp [F_NetD_lenD, sv_NetD_lenD, runP, startR, a_sRet, a_eCB, a_aCons, k_a, a_aNil, a_oE, a_e1, a_oN, b_ok, a_rd, rdAll, Rv.data, f, l, s_ok, foOf]
def fmtI (r : Rho) (i : Nat) (h : i < 10) {oa : Ev Src} (e : oa r = .ok (.dat (.int (i : Nat))) r) : oFmt oa r = .ok (.dat (.str (dg i))) r := by
  show (oa r).bind _ = _
  rw [e, b_ok]
  dsimp only [a_rd]
  rw [if_pos (log_dg i h), toString_dg i h]
theorem fmtS (r : Rho) (x : Str) (h : x.length ≤ 1000) {oa : Ev Src} (e : oa r = .ok (.dat (.str x)) r) : oFmt oa r = .ok (.dat (.str x)) r := by
  have hsz := sizeL
  show (oa r).bind _ = _
  rw [e, b_ok]
  dsimp only [a_rd]
  rw [if_pos (by omega)]
theorem j_nil (acc : Str) (r : Rho) : eJoin [] acc r = .ok acc r := rfl
theorem j_cons {o : Ev Src} {os : List (Ev Src)} {acc y : Str} {r : Rho} (e : o r = .ok (.dat (.str y)) r) (h : (acc ++ y).length ≤ 1000) : eJoin (o :: os) acc r = eJoin os (acc ++ y) r := by
  have hsz := sizeL
  rw [eJoin, e, b_ok]
  dsimp only [a_rd]
  rw [if_pos (by omega)]
theorem j_oC {os : List (Ev Src)} {acc y : Str} {r : Rho} (h : (acc ++ y).length ≤ 1000) : eJoin (oC (.str y) :: os) acc r = eJoin os (acc ++ y) r := j_cons (o := oC (.str y)) rfl h
theorem js_of {os : List (Ev Src)} {x : Str} {r : Rho} (h : eJoin os Str.empty r = .ok x r) : eJs os r = .ok (.val (.str x)) r := by
  unfold eJs
  rw [h, b_ok]
def rpr (n : Nat) : Str := Str.ofString "Net of " ++ dg n ++ Str.ofString " places"
theorem frp_ok (C : Addr) (n : Nat) (hn : n < 10) (ts : List Tr3) : F_NetD_reprD C [netD C n ts] = .val (.str (rpr n)) := by
  have f := fld_size C n ts
  have s0 : startR 1 [netD C n ts] = [.val (netD C n ts)] := rfl
  have he1 : oE (e1 (dFld C "_size") (oN 0)) [.val (netD C n ts)] = .ok (.dat (.int n)) [.val (netD C n ts)] := by
    simp [a_oE, a_e1, a_oN, b_ok, a_rd, f, Rv.data]
  have j : eJs [oC (.str "Net of "), oFmt (oE (e1 (dFld C "_size") (oN 0))), oC (.str " places")] [.val (netD C n ts)] = .ok (.val (.str (rpr n))) [.val (netD C n ts)] := by
    apply js_of
    have l1 : (Str.empty ++ Str.ofString "Net of ").length = 7 := by decide +kernel
    have l2 : (Str.empty ++ Str.ofString "Net of " ++ dg n).length = 8 := by rw [strLen_append, l1]; rfl
    have l3 : (Str.ofString " places").length = 7 := by decide +kernel
    rw [j_oC (by omega), j_cons (fmtI _ n hn he1) (by omega), j_oC (by rw [strLen_append]; omega), j_nil]
    rfl
  unfold F_NetD_reprD runP
  rw [s0]
  unfold sv_NetD_reprD
  rw [a_sRet, j, s_ok]
  rfl
theorem strw_loop (C : Addr) (A B : Cell) : ∀ ts : List Tr3, (∀ t ∈ ts, t.1 < 10 ∧ t.2.1 < 10) → lcL (gT [(gN 2), (gN 3), (gN 4)]) tT (ce0_NetD_strD C) [2, 3, 4] (ts.map rT) [A, B, .un, .un, .un] = .ok (ts.map fun t => .str (wT t)) [A, B, .un, .un, .un]
  | [], _ => rfl
  | t :: ts, h => by
    obtain ⟨h1, h2⟩ := h t List.mem_cons_self
    have ih := strw_loop C A B ts fun t ht => h t (List.mem_cons_of_mem _ ht)
    have one : ce0_NetD_strD C [A, B, .val (.int t.1), .val (.int t.2.1), .val (sg t.2.2)] = .ok (.val (.str (wT t))) [A, B, .val (.int t.1), .val (.int t.2.1), .val (sg t.2.2)] := by
      apply js_of
      have l1 : (Str.empty ++ dg t.1).length = 1 := rfl
      have l2 : (Str.empty ++ dg t.1 ++ Str.ofString "-").length = 2 := rfl
      have l3 : (Str.empty ++ dg t.1 ++ Str.ofString "-" ++ dg t.2.1).length = 3 := rfl
      have l4 : (Str.empty ++ dg t.1 ++ Str.ofString "-" ++ dg t.2.1 ++ (⟨#[t.2.2]⟩ : Str)).length = 4 := rfl
      rw [j_cons (fmtI (oa := oN 2) _ t.1 h1 rfl) (by omega), j_oC (by omega), j_cons (fmtI (oa := oN 3) _ t.2.1 h2 rfl) (by omega), j_cons (fmtS (oa := oN 4) _ ⟨#[t.2.2]⟩ (by show (1 : Nat) ≤ 1000; omega) rfl) (by omega), j_nil]
      rfl
    rw [List.map_cons, List.map_cons]
    exact lcL_yes (r1 := [A, B, .val (.int t.1), .val (.int t.2.1), .val (sg t.2.2)]) rfl rfl one ih
theorem join_ok (n : Nat) (ts : List Tr3) (hl : ts.length ≤ 90) : dJoin (.str (Str.ofString " ")) [.lst (D.str (hd n) :: ts.map fun t => .str (wT t))] = some (.val (.str (textOf n ts))) := by
  have z3 : (((hd n :: ts.map wT).map (·.length)).sum + (hd n :: ts.map wT).length * (Str.ofString " ").length) ≤ 16777216 := by
    have e1 : (Str.ofString " ").length = 1 := rfl
    have e2 : (hd n).length = 2 := rfl
    rw [List.map_cons, List.sum_cons, lens4, e1, e2, List.length_cons, List.length_map]
    omega
  have e : (D.str (hd n) :: ts.map fun t => D.str (wT t)) = (hd n :: ts.map wT).map D.str := by rw [List.map_cons, List.map_map]; rfl
  unfold dJoin
  dsimp only
  rw [e, toStrs_map]
  dsimp only
  rw [if_pos z3]
  rfl
theorem fst_ok (C : Addr) (n : Nat) (hn : n < 10) (ts : List Tr3) (ht : ∀ t ∈ ts, t.1 < 10 ∧ t.2.1 < 10) (hl : ts.length ≤ 90) : F_NetD_strD C [netD C n ts] = .val (.str (textOf n ts)) := by
  have hsz := sizeL
  have f := fld_size C n ts
  have fr := fld_roads C n ts
  let N : Cell := .val (netD C n ts)
  let r1 : Rho := [N, .un, .un, .un, .un]
  let r2 : Rho := [N, .own (.lst (ts.map fun t => .str (wT t))), .un, .un, .un]
  let r3 : Rho := [N, .val (.lst (ts.map fun t => .str (wT t))), .un, .un, .un]
  have s0 : startR 5 [netD C n ts] = r1 := by simp [startR, List.replicate, r1, N]
  have it : iSeq (e1 (dFld C "_roads") (oN 0)) r1 = .ok (ts.map rT) r1 := by
    simp [r1, N, a_iSeq, a_e1, a_oN, b_ok, a_rd, fr, Rv.data]
  have comp := comp_ok (g := gT [(gN 2), (gN 3), (gN 4)]) (t := tT) (ev := ce0_NetD_strD C) (vs := [2, 3, 4]) it (by rw [List.length_map]; omega) (strw_loop C N .un ts ht)
  have res : restore r1 [N, .un, .un, .un, .un] [2, 3, 4] = r1 := rfl
  rw [res] at comp
  have q1 : sSet 1 (eComp (iSeq (e1 (dFld C "_roads") (oN 0))) (gT [(gN 2), (gN 3), (gN 4)]) tT (ce0_NetD_strD C) [2, 3, 4]) r1 = .nx r2 := by
    rw [a_sSet, comp, s_ok]
    rfl
  have he1 : oE (e1 (dFld C "_size") (oN 0)) r2 = .ok (.dat (.int n)) r2 := by
    simp [r2, N, a_oE, a_e1, a_oN, b_ok, a_rd, f, Rv.data]
  have j : eJs [oFmt (oE (e1 (dFld C "_size") (oN 0))), oC (.str ":")] r2 = .ok (.val (.str (hd n))) r2 := by
    apply js_of
    have l1 : (Str.empty ++ dg n).length = 1 := rfl
    have l2 : (Str.empty ++ dg n ++ Str.ofString ":").length = 2 := rfl
    rw [j_cons (fmtI _ n hn he1) (by omega), j_oC (by omega), j_nil]
    rfl
  have hj := join_ok n ts hl
  have z : ts.length + 1 ≤ sizeLine := by omega
  have e2 : eN 1 r2 = .ok (.val (.lst (ts.map fun t => .str (wT t)))) r3 := rfl
  have lst : eLst (vCons (eJs [oFmt (oE (e1 (dFld C "_size") (oN 0))), oC (.str ":")]) (vStar (eN 1) vNil)) r2 = .ok (.new (.lst (D.str (hd n) :: ts.map fun t => .str (wT t)))) r3 := by
    rw [a_eLst, a_vCons, j, b_ok, k_v, a_vStar, e2, b_ok, k_vs3, a_vNil, b_ok, b_ok, b_ok, List.append_nil, if_pos (by rw [List.length_cons, List.length_map]; exact z)]
    rfl
  have last : sRet (eMt "str" dJoin (oC (.str " ")) (aCons (oE (eLst (vCons (eJs [oFmt (oE (e1 (dFld C "_size") (oN 0))), oC (.str ":")]) (vStar (eN 1) vNil)))) aNil)) r2 = .ret (.val (.str (textOf n ts))) r3 := by
    simp only [a_sRet, a_eMt, a_oC, b_ok, k_mt, a_rd, tyD, if_true, a_aCons, a_oE, lst, k_a, a_aNil, k_mt2, rdAll, Rv.data, Own.data, hj, s_ok]
  unfold F_NetD_strD runP
  rw [s0]
  unfold sv_NetD_strD
  rw [a_sCons, q1, t_nx, last]
  rfl
end Mp
set_option Elab.async false
set_option linter.all false
set_option maxRecDepth 100000
namespace Mp
open PySem PySem.Spec PyProof.Rows L2 Evl
/-! ### equal nets -/
def pT (t : Tr3) : PyData := .tuple [.int t.1, .int t.2.1, .str ⟨#[t.2.2]⟩]
theorem py_roads : ∀ ts : List Tr3, toPy.toPyAll (ts.map rT) = some (ts.map pT)
  | [] => rfl
  | t :: ts => by
    rw [List.map_cons, List.map_cons, toPy.toPyAll, py_roads ts]
    rfl
theorem lay_roads : ∀ ts : List Tr3, (∀ t ∈ ts, okc t.2.2) → PyData.canLayAll0 (ts.map pT) = true ∧ PyData.depthAll (ts.map pT) ≤ 1
  | [], _ => ⟨rfl, Nat.zero_le _⟩
  | t :: ts, h => by
    obtain ⟨a, b⟩ := lay_roads ts fun q hq => h q (List.mem_cons_of_mem _ hq)
    have hc : PyData.strOk ⟨#[t.2.2]⟩ = true := by
      have := h t List.mem_cons_self
      unfold okc at this
      show (#[t.2.2].all fun c => decide (c < 1114112)) = true
      simp
      omega
    have e1 : (pT t).canLay0 = true := by
      simp [pT, PyData.canLay0, PyData.canLayAll0, hc]
    have e2 : (pT t).depth = 1 := rfl
    refine ⟨?_, ?_⟩
    · rw [List.map_cons, PyData.canLayAll0, e1, a]; rfl
    · rw [List.map_cons, PyData.depthAll, e2]; omega
theorem eqv_road (t u : Tr3) : PyData.eqv (pT t) (pT u) = decide (t = u) := by
  obtain ⟨a, b, c⟩ := t
  obtain ⟨d, e, f⟩ := u
  have h3 : ((⟨#[c]⟩ : Str) == ⟨#[f]⟩) = decide (c = f) := by
    by_cases h : c = f
    · subst h; rw [beq_self_eq_true, decide_eq_true rfl]
    · rw [decide_eq_false h]
      exact beq_eq_false_iff_ne.mpr fun q => h (by simpa using q)
  simp only [pT, PyData.eqv, PyData.eqvAll, h3]
  by_cases h1 : a = d <;> by_cases h2 : b = e <;> by_cases h4 : c = f <;> simp [h1, h2, h4] <;> omega
theorem eqv_roads : ∀ ts us : List Tr3, PyData.eqvAll (ts.map pT) (us.map pT) = decide (ts = us)
  | [], [] => by rw [decide_eq_true rfl]; rfl
  | [], u :: us => by rw [decide_eq_false (by simp)]; rfl
  | t :: ts, [] => by rw [decide_eq_false (by simp)]; rfl
  | t :: ts, u :: us => by
    rw [List.map_cons, List.map_cons, PyData.eqvAll, eqv_road, eqv_roads ts us]
    by_cases h1 : t = u <;> by_cases h2 : ts = us <;> simp [h1, h2]
theorem eq_roads (ts us : List Tr3) (ht : ∀ t ∈ ts, okc t.2.2) (hu : ∀ t ∈ us, okc t.2.2) : dEq (.tup (ts.map rT)) (.tup (us.map rT)) = some (.val (.bl (decide (ts = us)))) := by
  have sh : ∀ vs : List Tr3, (∀ t ∈ vs, okc t.2.2) → SeqAt.shaped (.tuple (vs.map pT)) = true := fun vs h => by
    obtain ⟨a, b⟩ := lay_roads vs h
    unfold SeqAt.shaped
    rw [PyData.canLay0, PyData.depth, a, decide_eq_true (by omega)]
    rfl
  have e : PyData.eqv (.tuple (ts.map pT)) (.tuple (us.map pT)) = decide (ts = us) := by rw [PyData.eqv, eqv_roads]
  unfold dEq dEqB
  rw [toPy, toPy, py_roads, py_roads]
  dsimp only [Option.map_some]
  rw [sh ts ht, sh us hu, e]
  rfl
theorem feq_ok (C : Addr) (n m : Nat) (ts us : List Tr3) (ht : ∀ t ∈ ts, okc t.2.2) (hu : ∀ t ∈ us, okc t.2.2) : F_NetD_eqD C [netD C n ts, netD C m us] = .val (.bl (decide (n = m) && decide (ts = us))) := by
  have f1 := fld_size C n ts
  have f2 := fld_roads C n ts
  have g1 := fld_size C m us
  have g2 := fld_roads C m us
  have i1 : isC C (netD C m us) = some true := by
    show (if C = C then some true else none) = _
    rw [if_pos rfl]
  have q := eq_roads ts us ht hu
  have z := eqInt n m
  by_cases h : n = m
  · subst h
    have z : dEq (.int n) (.int n) = some (.val (.bl true)) := by rw [eqInt, beq_self_eq_true]
    simp [F_NetD_eqD, sv_NetD_eqD, runP, startR, a_sRet, a_eAnd, a_e1, a_oN, b_ok, a_rd, dIsi, i1, k_eand1, a_e2, k_e2, a_oE, a_two, Rv.data, f1, f2, g1, g2, z, q, s_ok, foOf]
  · have z : dEq (.int n) (.int m) = some (.val (.bl false)) := by
      rw [eqInt]
      have : ((n : Int) == (m : Int)) = false := beq_eq_false_iff_ne.mpr (by omega)
      rw [this]
    simp [F_NetD_eqD, sv_NetD_eqD, runP, startR, a_sRet, a_eAnd, a_e1, a_oN, b_ok, a_rd, dIsi, i1, k_eand1, k_eand0, a_e2, k_e2, a_oE, a_two, Rv.data, f1, f2, g1, g2, z, q, s_ok, foOf, h]
theorem feq_str (C : Addr) (n : Nat) (ts : List Tr3) (x : Str) : F_NetD_eqD C [netD C n ts, .str x] = .val (.bl false) := by
  have i1 : isC C (.str x) = some false := rfl
  simp [F_NetD_eqD, sv_NetD_eqD, runP, startR, a_sRet, a_eAnd, a_e1, a_oN, b_ok, a_rd, dIsi, i1, k_eand0, s_ok, foOf]
theorem fbl_ok (C : Addr) (n : Nat) (ts : List Tr3) : F_NetD_boolD C [netD C n ts] = .val (.bl true) := rfl
/-! ### hues -/
theorem need_ok (C : Addr) (i n : Nat) (h : i < n) : F_need_place C [.int i, .int n] = .val .non := by
  have p1 : (decide ((0 : Int) ≤ (i : Int)) && decide ((i : Int) ≤ (n : Int) - 1)) = true := by rw [Bool.and_eq_true, decide_eq_true_eq, decide_eq_true_eq]; omega
  have f1 : F_is_place C [.int i, .int n] = .val (.bl true) := by rw [fnPlace_ok, p1]
  have tru : truD (.bl true) = some true := rfl
  simp [F_need_place, sv_need_place, runP, startR, a_sIf, a_tNot, a_tTr, a_oE, a_eCall, a_vCons, k_v, a_vNil, a_eN, k_call, k_call2, sel, b_ok, Rv.data, f1, ofFO, a_rd, tru, s_ok, k_sif0, a_sNil, foOf]
theorem pair_ok (C : Addr) (i j : Nat) : F_pair_of C [.int i, .int j] = .val (.tup [.int (min i j : Nat), .int (max i j : Nat)]) := by
  have hsz := sizeL
  have s2 : (2 : Nat) ≤ sizeLine := by omega
  have e1 : dMin [.int i, .int j] = some (.val (.int (min i j : Nat))) := by
    show some (Rv.val (.int (if (j : Int) < (i : Int) then (j : Int) else (i : Int)))) = _
    by_cases h : (j : Int) < i
    · rw [if_pos h, Nat.min_eq_right (by omega)]
    · rw [if_neg h, Nat.min_eq_left (by omega)]
  have e2 : dMax [.int i, .int j] = some (.val (.int (max i j : Nat))) := by
    show some (Rv.val (.int (if (j : Int) > (i : Int) then (j : Int) else (i : Int)))) = _
    by_cases h : (j : Int) > i
    · rw [if_pos h, Nat.max_eq_right (by omega)]
    · rw [if_neg h, Nat.max_eq_left (by omega)]
  have s0 : startR 2 [D.int i, .int j] = [.val (.int i), .val (.int j)] := rfl
  unfold F_pair_of runP
  rw [s0]
  simp only [sv_pair_of, a_sRet, a_eTup, a_vCons, k_v, a_vNil, a_eCB, a_aCons, k_a, a_aNil, a_oN, b_ok, rdAll, a_rd, e1, e2, Rv.data, List.getElem?_cons_zero, List.getElem?_cons_succ, List.length_cons, List.length_nil, Nat.zero_add, if_pos s2, s_ok, foOf]
theorem lkp_put {A : Type} [DecidableEq A] (l : List (A × D)) (k q : A) (v : D) : lkp (putD l k v) q = if q = k then some v else lkp l q := by
  unfold putD
  split
  · rename_i h
    induction l with
    | nil => simp at h
    | cons p l ih =>
      obtain ⟨a, d⟩ := p
      rw [List.map_cons]
      by_cases hk : a = k
      · subst hk
        simp only [if_true]
        by_cases hq : a = q
        · subst hq
          simp [lkp]
        · have hq2 : ¬ q = a := fun e => hq e.symm
          rw [if_neg hq2]
          have tail : lkp (l.map fun p => if p.1 = a then (p.1, v) else p) q = lkp l q := by
            clear ih h
            induction l with
            | nil => rfl
            | cons p l ih =>
              obtain ⟨b, d'⟩ := p
              rw [List.map_cons]
              by_cases hb : b = q
              · subst hb
                have : ¬ b = a := fun e => hq e.symm
                simp [lkp, this]
              · by_cases hb2 : b = a
                · subst hb2
                  have e1 : lkp ((b, v) :: l.map fun p => if p.1 = b then (p.1, v) else p) q = lkp (l.map fun p => if p.1 = b then (p.1, v) else p) q := by simp [lkp, hb]
                  have e2 : lkp ((b, d') :: l) q = lkp l q := by simp [lkp, hb]
                  simp only [if_true]
                  rw [e1, e2, ih]
                · simp only [hb2, if_false]
                  have e1 : lkp ((b, d') :: l.map fun p => if p.1 = a then (p.1, v) else p) q = lkp (l.map fun p => if p.1 = a then (p.1, v) else p) q := by simp [lkp, hb]
                  have e2 : lkp ((b, d') :: l) q = lkp l q := by simp [lkp, hb]
                  rw [e1, e2, ih]
          have e1 : lkp ((a, v) :: l.map fun p => if p.1 = a then (p.1, v) else p) q = lkp (l.map fun p => if p.1 = a then (p.1, v) else p) q := by simp [lkp, hq]
          have e2 : lkp ((a, d) :: l) q = lkp l q := by simp [lkp, hq]
          rw [e1, e2, tail]
      · simp only [hk, if_false]
        have hl : (l.any fun p => decide (p.1 = k)) = true := by simpa [List.any_cons, hk] using h
        by_cases hq : a = q
        · subst hq
          have e1 : ∀ m : List (A × D), lkp ((a, d) :: m) a = some d := fun m => by simp [lkp]
          rw [e1, e1, if_neg hk]
        · have e1 : ∀ m : List (A × D), lkp ((a, d) :: m) q = lkp m q := fun m => by simp [lkp, hq]
          rw [e1, e1]
          exact ih hl
  · rename_i h
    induction l with
    | nil =>
      by_cases hq : q = k
      · subst hq; simp [lkp]
      · have hq2 : ¬ k = q := fun e => hq e.symm
        simp [lkp, hq, hq2]
    | cons p l ih =>
      obtain ⟨a, d⟩ := p
      rw [List.any_cons] at h
      have hak : ¬ a = k := fun e => h (by simp [e])
      have hl : ¬ (l.any fun p => decide (p.1 = k)) = true := fun e => h (by rw [e, Bool.or_true])
      by_cases hq : a = q
      · subst hq
        have e1 : ∀ m : List (A × D), lkp ((a, d) :: m) a = some d := fun m => by simp [lkp]
        rw [List.cons_append, e1, e1, if_neg hak]
      · have e1 : ∀ m : List (A × D), lkp ((a, d) :: m) q = lkp m q := fun m => by simp [lkp, hq]
        rw [List.cons_append, e1, e1]
        exact ih hl
theorem kk_inj {a b c d : Nat} : kk a b = kk c d ↔ a = c ∧ b = d := by
  unfold kk
  constructor
  · intro h
    injection h with h1 h2
    injection h2 with h2 _
    injection h1 with h1
    injection h2 with h2
    exact ⟨by omega, by omega⟩
  · rintro ⟨rfl, rfl⟩; rfl
/-- the two ways to keep hues agree -/
theorem put_same : ∀ (ts : List Tr3) (l1 l2 : Dt), (∀ t ∈ ts, t.1 < t.2.1) → (∀ i j : Nat, lkp l1 (kk (min i j) (max i j)) = lkp l2 (kk i j)) → ∀ i j : Nat, lkp (ts.foldl put1 l1) (kk (min i j) (max i j)) = lkp (ts.foldl put2 l2) (kk i j)
  | [], _, _, _, h => h
  | t :: ts, l1, l2, hts, h => by
    refine put_same ts (put1 l1 t) (put2 l2 t) (fun q hq => hts q (List.mem_cons_of_mem _ hq)) fun i j => ?_
    have ht := hts t List.mem_cons_self
    unfold put1 put2
    rw [lkp_put, lkp_put, lkp_put, h i j]
    by_cases c1 : i = t.1 ∧ j = t.2.1
    · have c2 : min i j = t.1 ∧ max i j = t.2.1 := by omega
      have c3 : ¬ (i = t.2.1 ∧ j = t.1) := by omega
      rw [if_pos (kk_inj.mpr c2), if_neg (mt kk_inj.mp c3), if_pos (kk_inj.mpr c1)]
    · by_cases c3 : i = t.2.1 ∧ j = t.1
      · have c2 : min i j = t.1 ∧ max i j = t.2.1 := by omega
        rw [if_pos (kk_inj.mpr c2), if_pos (kk_inj.mpr c3)]
      · have c2 : ¬ (min i j = t.1 ∧ max i j = t.2.1) := by omega
        rw [if_neg (mt kk_inj.mp c2), if_neg (mt kk_inj.mp c3), if_neg (mt kk_inj.mp c1)]
theorem hues_same (ts : List Tr3) (h : ∀ t ∈ ts, t.1 < t.2.1) (i j : Nat) : lkp (ts.foldl put1 []) (kk (min i j) (max i j)) = lkp (ts.foldl put2 []) (kk i j) := put_same ts [] [] h (fun _ _ => rfl) i j
theorem dget_kk (l : Dt) (i j : Nat) : dGet (.dT l) (.tup [.int i, .int j]) = some (lkp l (kk i j)) := rfl
theorem fhue_ok (C : Addr) (n i j : Nat) (hi : i < n) (hj : j < n) (ts : List Tr3) (h : ∀ t ∈ ts, t.1 < t.2.1) : F_Net_hue C [netD C n ts, .int i, .int j] = .val ((lkp (ts.foldl put2 []) (kk i j)).getD .non) := by
  have f1 := fld_size C n ts
  have f2 := fld_hues C n ts
  have n1 := need_ok C i n hi
  have n2 := need_ok C j n hj
  have p := pair_ok C i j
  have g : dGet (.dT (ts.foldl put1 [])) (.tup [.int (min i j : Nat), .int (max i j : Nat)]) = some (lkp (ts.foldl put2 []) (kk i j)) := by rw [dget_kk, hues_same ts h]
  let r : Rho := [.val (netD C n ts), .val (.int i), .val (.int j)]
  have q1 : sDrop (eCall (F_need_place C) [0, 1] (vCons (eN 1) (vCons (e1 (dFld C "_size") (oN 0)) vNil)) vNil) r = .nx r := by
    simp [r, a_sDrop, a_eCall, a_vCons, k_v, a_vNil, a_eN, a_e1, a_oN, b_ok, a_rd, f1, Rv.data, k_call, k_call2, sel, n1, ofFO, s_ok]
  have q2 : sDrop (eCall (F_need_place C) [0, 1] (vCons (eN 2) (vCons (e1 (dFld C "_size") (oN 0)) vNil)) vNil) r = .nx r := by
    simp [r, a_sDrop, a_eCall, a_vCons, k_v, a_vNil, a_eN, a_e1, a_oN, b_ok, a_rd, f1, Rv.data, k_call, k_call2, sel, n2, ofFO, s_ok]
  have q3 : eGet1 (oE (e1 (dFld C "_hues") (oN 0))) (oE (eCall (F_pair_of C) [0, 1] (vCons (eN 1) (vCons (eN 2) vNil)) vNil)) r = .ok (.val ((lkp (ts.foldl put2 []) (kk i j)).getD .non)) r := by
    have a : oE (e1 (dFld C "_hues") (oN 0)) r = .ok (.dat (.dT (ts.foldl put1 []))) r := by
      simp [r, a_oE, a_e1, a_oN, b_ok, a_rd, f2, Rv.data]
    have b : oE (eCall (F_pair_of C) [0, 1] (vCons (eN 1) (vCons (eN 2) vNil)) vNil) r = .ok (.dat (.tup [.int (min i j : Nat), .int (max i j : Nat)])) r := by
      simp only [r, a_oE, a_eCall, a_vCons, k_v, a_vNil, a_eN, b_ok, k_call, k_call2, Rv.data, List.getElem?_cons_zero, List.getElem?_cons_succ]
      have s : sel [0, 1] ([D.int i, .int j] ++ []) = [.int i, .int j] := rfl
      rw [s, p]
      rfl
    show (oE (e1 (dFld C "_hues") (oN 0)) r).bind _ = _
    rw [a, b_ok]
    dsimp only [a_rd]
    rw [if_pos (show isDct (.dT (ts.foldl put1 [])) = true from rfl), b, b_ok]
    dsimp only [a_rd]
    rw [g]
  have s0 : startR 3 [netD C n ts, .int i, .int j] = r := rfl
  unfold F_Net_hue runP
  rw [s0]
  unfold sv_Net_hue
  rw [a_sCons, q1, t_nx, a_sCons, q2, t_nx, a_sRet, q3, s_ok]
  rfl
end Mp
set_option Elab.async false
set_option linter.all false
set_option maxRecDepth 100000
namespace Mp
open PySem PySem.Spec PyProof.Rows L2 Evl
/-! ### roads at a place -/
def pr (j s : Nat) : D := .tup [.int j, sg s]
theorem put_yes {e : Nat → Nat → Option Nat} {a b : Nat} : ∀ (ts : List Tr3) (l : Dt), (∀ t ∈ ts, e t.1 t.2.1 = some t.2.2) → (∃ t ∈ ts, t.1 = a ∧ t.2.1 = b) → lkp (ts.foldl put1 l) (kk a b) = (e a b).map sg
  | [], _, _, h => by obtain ⟨_, h, _⟩ := h; nomatch h
  | t :: ts, l, he, h => by
    by_cases q : ∃ t ∈ ts, t.1 = a ∧ t.2.1 = b
    · exact put_yes ts _ (fun x hx => he x (List.mem_cons_of_mem _ hx)) q
    · obtain ⟨x, hx, h1, h2⟩ := h
      rcases List.mem_cons.mp hx with rfl | hx
      · have no : ∀ (us : List Tr3) (m : Dt), (¬ ∃ t ∈ us, t.1 = a ∧ t.2.1 = b) → lkp (us.foldl put1 m) (kk a b) = lkp m (kk a b) := by
          intro us
          induction us with
          | nil => exact fun _ _ => rfl
          | cons u us ih =>
            intro m hq
            rw [List.foldl_cons, ih _ fun ⟨y, hy, z⟩ => hq ⟨y, List.mem_cons_of_mem _ hy, z⟩]
            unfold put1
            rw [lkp_put, if_neg fun z => hq ⟨u, List.mem_cons_self, (kk_inj.mp z).1.symm, (kk_inj.mp z).2.symm⟩]
        rw [List.foldl_cons, no ts _ q]
        unfold put1
        subst h1 h2
        rw [lkp_put, if_pos rfl, he x List.mem_cons_self]
        rfl
      · exact absurd ⟨x, hx, h1, h2⟩ q
theorem put_no {a b : Nat} : ∀ (ts : List Tr3) (l : Dt), (¬ ∃ t ∈ ts, t.1 = a ∧ t.2.1 = b) → lkp (ts.foldl put1 l) (kk a b) = lkp l (kk a b)
  | [], _, _ => rfl
  | u :: us, m, hq => by
    rw [List.foldl_cons, put_no us _ fun ⟨y, hy, z⟩ => hq ⟨y, List.mem_cons_of_mem _ hy, z⟩]
    unfold put1
    rw [lkp_put, if_neg fun z => hq ⟨u, List.mem_cons_self, (kk_inj.mp z).1.symm, (kk_inj.mp z).2.symm⟩]
theorem mem_trs {e : Nat → Nat → Option Nat} {n a b s : Nat} (h1 : a < b) (h2 : b < n) (h : e a b = some s) : (a, b, s) ∈ trs e n := by
  unfold trs
  rw [List.mem_flatMap]
  refine ⟨a, List.mem_range.mpr (by omega), ?_⟩
  rw [List.mem_filterMap]
  exact ⟨b, List.mem_range'_1.mpr (by omega), by rw [h]; rfl⟩
/-- the hue between two places -/
def fe (e : Nat → Nat → Option Nat) (i j : Nat) : Option Nat := if i < j then e i j else if j < i then e j i else none
theorem lkp_trs (e : Nat → Nat → Option Nat) (n i j : Nat) (hi : i < n) (hj : j < n) : lkp ((trs e n).foldl put2 []) (kk i j) = (fe e i j).map sg := by
  rw [← hues_same _ fun t ht => (trs_mem ht).1]
  have low : ∀ a b : Nat, a < b → b < n → lkp ((trs e n).foldl put1 []) (kk a b) = (e a b).map sg := by
    intro a b h1 h2
    by_cases q : ∃ t ∈ trs e n, t.1 = a ∧ t.2.1 = b
    · exact put_yes _ _ (fun t ht => (trs_mem ht).2.2) q
    · rw [put_no _ _ q]
      cases he : e a b with
      | none => rfl
      | some s => exact absurd ⟨_, mem_trs h1 h2 he, rfl, rfl⟩ q
  unfold fe
  by_cases h1 : i < j
  · rw [if_pos h1, Nat.min_eq_left (by omega), Nat.max_eq_right (by omega)]
    exact low i j h1 hj
  · rw [if_neg h1]
    by_cases h2 : j < i
    · rw [if_pos h2, Nat.min_eq_right (by omega), Nat.max_eq_left (by omega)]
      exact low j i h2 hi
    · rw [if_neg h2, put_no]
      · rfl
      · rintro ⟨t, ht, q1, q2⟩
        have := (trs_mem ht).1
        omega
theorem fm_flat {A B Cc : Type} (f : A → List B) (g : B → Option Cc) : ∀ l : List A, (l.flatMap f).filterMap g = l.flatMap fun a => (f a).filterMap g
  | [] => rfl
  | a :: l => by rw [List.flatMap_cons, List.flatMap_cons, List.filterMap_append, fm_flat f g l]
theorem pick1 {B : Type} (i : Nat) (h : Option B) : ∀ l : List Nat, l.Nodup → (l.filterMap fun j => if j = i then h else none) = if i ∈ l then h.toList else []
  | [], _ => rfl
  | a :: l, nd => by
    obtain ⟨na, nd⟩ := List.nodup_cons.mp nd
    have ih := pick1 i h l nd
    rw [List.filterMap_cons]
    by_cases ha : a = i
    · subst ha
      rw [if_neg na] at ih
      rw [if_pos rfl, ih, if_pos List.mem_cons_self]
      cases h <;> rfl
    · rw [if_neg ha]
      dsimp only
      rw [ih]
      have : i ∈ a :: l ↔ i ∈ l := by
        rw [List.mem_cons]
        exact ⟨fun q => q.elim (fun e => absurd e.symm ha) id, .inr⟩
      simp only [this]
theorem pick2 {B : Type} (i : Nat) (x : List B) : ∀ l : List Nat, l.Nodup → (l.flatMap fun j => if j = i then x else []) = if i ∈ l then x else []
  | [], _ => rfl
  | a :: l, nd => by
    obtain ⟨na, nd⟩ := List.nodup_cons.mp nd
    have ih := pick2 i x l nd
    rw [List.flatMap_cons]
    by_cases ha : a = i
    · subst ha
      rw [if_neg na] at ih
      rw [if_pos rfl, ih, if_pos List.mem_cons_self, List.append_nil]
    · rw [if_neg ha, List.nil_append, ih]
      have : i ∈ a :: l ↔ i ∈ l := by
        rw [List.mem_cons]
        exact ⟨fun q => q.elim (fun e => absurd e.symm ha) id, .inr⟩
      simp only [this]
theorem flat_none {A B : Type} {f : A → List B} : ∀ {l : List A}, (∀ a ∈ l, f a = []) → l.flatMap f = []
  | [], _ => rfl
  | a :: l, h => by rw [List.flatMap_cons, h a List.mem_cons_self, flat_none fun b hb => h b (List.mem_cons_of_mem _ hb)]; rfl
theorem flat_fm {A B : Type} {f : A → List B} {k : A → Option B} : ∀ {l : List A}, (∀ a ∈ l, f a = (k a).toList) → l.flatMap f = l.filterMap k
  | [], _ => rfl
  | a :: l, h => by
    rw [List.flatMap_cons, h a List.mem_cons_self, flat_fm fun b hb => h b (List.mem_cons_of_mem _ hb), List.filterMap_cons]
    cases k a <;> rfl
theorem flat_congr {A B : Type} {f g : A → List B} : ∀ {l : List A}, (∀ a ∈ l, f a = g a) → l.flatMap f = l.flatMap g
  | [], _ => rfl
  | a :: l, h => by rw [List.flatMap_cons, List.flatMap_cons, h a List.mem_cons_self, flat_congr fun b hb => h b (List.mem_cons_of_mem _ hb)]
theorem range_at {n i : Nat} (hi : i < n) : List.range n = List.range i ++ i :: List.range' (i + 1) (n - (i + 1)) := by
  rw [List.range_eq_range', List.range_eq_range']
  have e : i :: List.range' (i + 1) (n - (i + 1)) = List.range' (0 + i) (n - i) := by
    rw [Nat.zero_add, show n - i = (n - (i + 1)) + 1 by omega, List.range'_succ]
  rw [e, List.range'_append_1]
  congr 1
  omega
def beforeL (ts : List Tr3) (i : Nat) : List D := ts.filterMap fun t => if t.2.1 = i then some (pr t.1 t.2.2) else none
def behindL (ts : List Tr3) (i : Nat) : List D := ts.filterMap fun t => if t.1 = i then some (pr t.2.1 t.2.2) else none
def dueL (h : Dt) (n i : Nat) : List D := (List.range n).filterMap fun j => (lkp h (kk i j)).map fun d => .tup [.int j, d]
theorem before_eq (e : Nat → Nat → Option Nat) {n i : Nat} (hi : i < n) : beforeL (trs e n) i = (List.range i).filterMap fun a => (e a i).map (pr a) := by
  unfold beforeL trs
  rw [fm_flat]
  have row : ∀ a, ((List.range' (a + 1) (n - (a + 1))).filterMap fun j => (e a j).map fun s => (a, j, s)).filterMap (fun t => if t.2.1 = i then some (pr t.1 t.2.2) else none) = if a < i then ((e a i).map (pr a)).toList else [] := by
    intro a
    rw [List.filterMap_filterMap]
    have : (List.range' (a + 1) (n - (a + 1))).filterMap (fun x => ((e a x).map fun s => (a, x, s)).bind fun t => if t.2.1 = i then some (pr t.1 t.2.2) else none) = (List.range' (a + 1) (n - (a + 1))).filterMap fun j => if j = i then (e a i).map (pr a) else none := by
      apply fm_congr
      intro j _
      by_cases hj : j = i
      · subst hj
        cases e a j <;> simp
      · cases e a j <;> simp [hj]
    rw [this, pick1 i _ _ List.nodup_range']
    have m : i ∈ List.range' (a + 1) (n - (a + 1)) ↔ a < i := by rw [List.mem_range'_1]; omega
    simp only [m]
  simp only [row]
  rw [range_at hi, List.flatMap_append, List.flatMap_cons, if_neg (Nat.lt_irrefl i), List.nil_append, flat_none (l := List.range' (i + 1) (n - (i + 1))), List.append_nil]
  · apply flat_fm
    intro a ha
    rw [if_pos (List.mem_range.mp ha)]
  · intro a ha
    rw [if_neg (by have := List.mem_range'_1.mp ha; omega)]
theorem behind_eq (e : Nat → Nat → Option Nat) {n i : Nat} (hi : i < n) : behindL (trs e n) i = (List.range' (i + 1) (n - (i + 1))).filterMap fun j => (e i j).map (pr j) := by
  unfold behindL trs
  rw [fm_flat]
  have row : ∀ a, ((List.range' (a + 1) (n - (a + 1))).filterMap fun j => (e a j).map fun s => (a, j, s)).filterMap (fun t => if t.1 = i then some (pr t.2.1 t.2.2) else none) = if a = i then ((List.range' (i + 1) (n - (i + 1))).filterMap fun j => (e i j).map (pr j)) else [] := by
    intro a
    rw [List.filterMap_filterMap]
    by_cases ha : a = i
    · subst ha
      rw [if_pos rfl]
      apply fm_congr
      intro j _
      cases e a j <;> simp
    · rw [if_neg ha]
      apply List.filterMap_eq_nil_iff.mpr
      intro j _
      cases e a j <;> simp [ha]
  simp only [row]
  rw [pick2 i _ _ List.nodup_range, if_pos (List.mem_range.mpr hi)]
theorem due_eq (e : Nat → Nat → Option Nat) {n i : Nat} (hi : i < n) : dueL ((trs e n).foldl put2 []) n i = beforeL (trs e n) i ++ behindL (trs e n) i := by
  rw [before_eq e hi, behind_eq e hi]
  unfold dueL
  have : (List.range n).filterMap (fun j => (lkp ((trs e n).foldl put2 []) (kk i j)).map fun d => D.tup [.int j, d]) = (List.range n).filterMap fun j => (fe e i j).map (pr j) := by
    apply fm_congr
    intro j hj
    rw [lkp_trs e n i j hi (List.mem_range.mp hj), Option.map_map]
    rfl
  rw [this, range_at hi, List.filterMap_append, List.filterMap_cons]
  have z : fe e i i = none := by unfold fe; rw [if_neg (Nat.lt_irrefl i), if_neg (Nat.lt_irrefl i)]
  rw [z]
  dsimp only [Option.map_none]
  congr 1
  · apply fm_congr
    intro j hj
    have := List.mem_range.mp hj
    unfold fe
    rw [if_neg (by omega), if_pos this]
  · apply fm_congr
    intro j hj
    have := List.mem_range'_1.mp hj
    unfold fe
    rw [if_pos (by omega)]
end Mp
set_option Elab.async false
set_option linter.all false
set_option maxRecDepth 100000
namespace Mp
open PySem PySem.Spec PyProof.Rows L2 Evl
/-! ### roads_at -/
theorem eqNat (i j : Nat) : dEq (.int i) (.int j) = some (.val (.bl (decide (i = j)))) := by
  rw [eqInt]
  by_cases h : i = j
  · subst h; rw [beq_self_eq_true, decide_eq_true rfl]
  · rw [decide_eq_false h]
    have : ((i : Int) == (j : Int)) = false := beq_eq_false_iff_ne.mpr (by omega)
    rw [this]
theorem ra_one (C : Addr) (i : Nat) (A B E : Cell) : ∀ ts : List Tr3, lcL (gT [(gN 3), (gN 4), (gN 5)]) (ct1_Net_roads_at C) (ce0_Net_roads_at C) [3, 4, 5] (ts.map rT) [A, .val (.int i), B, .un, .un, .un, E] = .ok (beforeL ts i) [A, .val (.int i), B, .un, .un, .un, E]
  | [] => rfl
  | t :: ts => by
    have hsz := sizeL
    have s2 : (2 : Nat) ≤ sizeLine := by omega
    have ih := ra_one C i A B E ts
    let r1 : Rho := [A, .val (.int i), B, .val (.int t.1), .val (.int t.2.1), .val (sg t.2.2), E]
    have hg : gT [(gN 3), (gN 4), (gN 5)] (rT t) [A, .val (.int i), B, .un, .un, .un, E] = some r1 := rfl
    have ht : ct1_Net_roads_at C r1 = .ok (decide (t.2.1 = i)) r1 := by
      have q := eqNat t.2.1 i
      simp [r1, ct1_Net_roads_at, a_tv, a_e2, k_e2, a_oN, b_ok, a_two, a_rd, q]
    have hc : ce0_Net_roads_at C r1 = .ok (.val (pr t.1 t.2.2)) r1 := by
      unfold ce0_Net_roads_at
      simp [r1, a_eTup, a_vCons, k_v, a_vNil, a_eN, b_ok, s2, Rv.data, pr]
    rw [List.map_cons]
    unfold beforeL
    rw [List.filterMap_cons]
    by_cases h : t.2.1 = i
    · rw [decide_eq_true h] at ht
      rw [if_pos h]
      exact lcL_yes hg ht hc ih
    · rw [decide_eq_false h] at ht
      rw [if_neg h]
      exact lcL_no hg ht ih
theorem ra_two (C : Addr) (i : Nat) (A B E : Cell) : ∀ ts : List Tr3, lcL (gT [(gN 3), (gN 4), (gN 5)]) (ct3_Net_roads_at C) (ce2_Net_roads_at C) [3, 4, 5] (ts.map rT) [A, .val (.int i), B, .un, .un, .un, E] = .ok (behindL ts i) [A, .val (.int i), B, .un, .un, .un, E]
  | [] => rfl
  | t :: ts => by
    have hsz := sizeL
    have s2 : (2 : Nat) ≤ sizeLine := by omega
    have ih := ra_two C i A B E ts
    let r1 : Rho := [A, .val (.int i), B, .val (.int t.1), .val (.int t.2.1), .val (sg t.2.2), E]
    have hg : gT [(gN 3), (gN 4), (gN 5)] (rT t) [A, .val (.int i), B, .un, .un, .un, E] = some r1 := rfl
    have ht : ct3_Net_roads_at C r1 = .ok (decide (t.1 = i)) r1 := by
      have q := eqNat t.1 i
      simp [r1, ct3_Net_roads_at, a_tv, a_e2, k_e2, a_oN, b_ok, a_two, a_rd, q]
    have hc : ce2_Net_roads_at C r1 = .ok (.val (pr t.2.1 t.2.2)) r1 := by
      unfold ce2_Net_roads_at
      simp [r1, a_eTup, a_vCons, k_v, a_vNil, a_eN, b_ok, s2, Rv.data, pr]
    rw [List.map_cons]
    unfold behindL
    rw [List.filterMap_cons]
    by_cases h : t.1 = i
    · rw [decide_eq_true h] at ht
      rw [if_pos h]
      exact lcL_yes hg ht hc ih
    · rw [decide_eq_false h] at ht
      rw [if_neg h]
      exact lcL_no hg ht ih
theorem fra_ok (C : Addr) (n i : Nat) (hi : i < n) (ts : List Tr3) (hl : ts.length ≤ 90) : F_Net_roads_at C [netD C n ts, .int i] = .val (.tup (beforeL ts i ++ behindL ts i)) := by
  have hsz := sizeL
  have f1 := fld_size C n ts
  have f2 := fld_roads C n ts
  have n1 := need_ok C i n hi
  let N : Cell := .val (netD C n ts)
  let I : Cell := .val (.int i)
  let r0 : Rho := [N, I, .un, .un, .un, .un, .un]
  let r1 : Rho := [N, I, .own (.lst (beforeL ts i)), .un, .un, .un, .un]
  let r2 : Rho := [N, I, .own (.lst (beforeL ts i)), .un, .un, .un, .own (.lst (behindL ts i))]
  have q1 : sDrop (eCall (F_need_place C) [0, 1] (vCons (eN 1) (vCons (e1 (dFld C "_size") (oN 0)) vNil)) vNil) r0 = .nx r0 := by
    simp [r0, N, I, a_sDrop, a_eCall, a_vCons, k_v, a_vNil, a_eN, a_e1, a_oN, b_ok, a_rd, f1, Rv.data, k_call, k_call2, sel, n1, ofFO, s_ok]
  have it0 : iSeq (e1 (dFld C "_roads") (oN 0)) r0 = .ok (ts.map rT) r0 := by
    simp [r0, N, I, a_iSeq, a_e1, a_oN, b_ok, a_rd, f2, Rv.data]
  have it1 : iSeq (e1 (dFld C "_roads") (oN 0)) r1 = .ok (ts.map rT) r1 := by
    simp [r1, N, I, a_iSeq, a_e1, a_oN, b_ok, a_rd, f2, Rv.data]
  have c0 := comp_ok (g := gT [(gN 3), (gN 4), (gN 5)]) (t := ct1_Net_roads_at C) (ev := ce0_Net_roads_at C) (vs := [3, 4, 5]) it0 (by rw [List.length_map]; omega) (ra_one C i N .un .un ts)
  have c1 := comp_ok (g := gT [(gN 3), (gN 4), (gN 5)]) (t := ct3_Net_roads_at C) (ev := ce2_Net_roads_at C) (vs := [3, 4, 5]) it1 (by rw [List.length_map]; omega) (ra_two C i N (.own (.lst (beforeL ts i))) .un ts)
  have s0 : restore r0 [N, .val (.int i), .un, .un, .un, .un, .un] [3, 4, 5] = r0 := rfl
  have s1 : restore r1 [N, .val (.int i), .own (.lst (beforeL ts i)), .un, .un, .un, .un] [3, 4, 5] = r1 := rfl
  rw [s0] at c0
  rw [s1] at c1
  have l1 : (beforeL ts i).length ≤ 90 := Nat.le_trans (List.length_filterMap_le _ _) hl
  have l2 : (behindL ts i).length ≤ 90 := Nat.le_trans (List.length_filterMap_le _ _) hl
  have q4 : eTup (vStar (eN 2) (vStar (eN 6) vNil)) r2 = .ok (.val (.tup (beforeL ts i ++ behindL ts i))) [N, I, .val (.lst (beforeL ts i)), .un, .un, .un, .val (.lst (behindL ts i))] := by
    have e2 : eN 2 r2 = .ok (.val (.lst (beforeL ts i))) [N, I, .val (.lst (beforeL ts i)), .un, .un, .un, .own (.lst (behindL ts i))] := rfl
    have e6 : eN 6 [N, I, .val (.lst (beforeL ts i)), .un, .un, .un, .own (.lst (behindL ts i))] = .ok (.val (.lst (behindL ts i))) [N, I, .val (.lst (beforeL ts i)), .un, .un, .un, .val (.lst (behindL ts i))] := rfl
    rw [a_eTup, a_vStar, e2, b_ok, k_vs3, a_vStar, e6, b_ok, k_vs3, a_vNil, b_ok, b_ok, b_ok, List.append_nil, if_pos (by rw [List.length_append]; omega)]
  have st : startR 7 [netD C n ts, .int i] = r0 := by simp [startR, List.replicate, r0, N, I]
  unfold F_Net_roads_at runP
  rw [st]
  unfold sv_Net_roads_at
  rw [a_sCons, q1, t_nx, a_sCons, a_sSet, c0, s_ok, t_nx, a_sCons, a_sSet]
  have r1e : r0.set 2 (cellOf (.new (.lst (beforeL ts i)))) = r1 := rfl
  rw [r1e, c1, s_ok, t_nx]
  have r2e : r1.set 6 (cellOf (.new (.lst (behindL ts i)))) = r2 := rfl
  rw [r2e, a_sRet, q4, s_ok]
  rfl
end Mp
set_option Elab.async false
set_option linter.all false
set_option maxRecDepth 100000
namespace Mp
open PySem PySem.Spec PyProof.Rows L2 Evl
/-! ### the law's loops over places -/
theorem range1_ok (i n : Nat) (hn : n ≤ 9) (r : Rho) (h : oN i r = .ok (.dat (.int n)) r) : iRange1 (oN i) r = .ok ((List.range n).map fun j => D.int (j : Nat)) r := by
  have o2 := okR_le n (by omega) (by omega)
  have er : rangeD 0 n = (List.range n).map fun j => D.int (j : Nat) := by
    unfold rangeD
    apply List.map_congr_left
    intro x _
    show D.int (0 + (x : Int)) = _
    rw [Int.zero_add]
  rw [a_iRange1, h, b_ok]
  simp only [a_rd]
  rw [if_pos o2, Int.toNat_natCast, er]
theorem gd_sg {s : Nat} (h : okc s) : Gd 12 1 (sg s) := by
  have : Sgn ⟨#[s]⟩ := fun c hc => by
    unfold okc at h
    simp at hc
    omega
  exact gd_str this
theorem look_meth (C : Addr) (n : Nat) (ts : List Tr3) : (netL n ts).lookup (Str.ofString "hue") = none ∧ (netL n ts).lookup (Str.ofString "roads_at") = none := by
  have a1 : (Str.ofString "hue" == Str.ofString "_size") = false := by decide +kernel
  have a2 : (Str.ofString "hue" == Str.ofString "_roads") = false := by decide +kernel
  have a3 : (Str.ofString "hue" == Str.ofString "_hues") = false := by decide +kernel
  have b1 : (Str.ofString "roads_at" == Str.ofString "_size") = false := by decide +kernel
  have b2 : (Str.ofString "roads_at" == Str.ofString "_roads") = false := by decide +kernel
  have b3 : (Str.ofString "roads_at" == Str.ofString "_hues") = false := by decide +kernel
  unfold netL
  refine ⟨?_, ?_⟩
  · rw [List.lookup_cons, a1]
    dsimp only
    rw [List.lookup_cons, a2]
    dsimp only
    rw [List.lookup_cons, a3]
    rfl
  · rw [List.lookup_cons, b1]
    dsimp only
    rw [List.lookup_cons, b2]
    dsimp only
    rw [List.lookup_cons, b3]
    rfl
theorem rep_ok {C : Addr} {F : List D → FO} {w k : Nat} {ds : List D} {r r1 : Rho} {ev : Ev Rv} {x : Rv} (he : ev r = .ok x r1) (hx : x.data = .lst ds) (g : Gd w k (.lst ds)) (hw : w ≤ 100000) (hk : k ≤ 64) : ∃ s, dRepr [.lst ds] = some (.val (.str s)) ∧ Sgn s ∧ eCB (dOr (dOwn1 C F isStrD) dRepr) (aCons (oE ev) aNil) r = .ok (.val (.str s)) r1 := by
  obtain ⟨s, h1, h2⟩ := gd_repr g hw hk
  refine ⟨s, h1, h2, ?_⟩
  have e : dOr (dOwn1 C F isStrD) dRepr [.lst ds] = some (.val (.str s)) := h1
  rw [a_eCB, a_aCons, a_oE, he, b_ok, b_ok, k_a, a_aNil, b_ok, b_ok]
  simp only [rdAll, a_rd, hx, e]
/-- two texts of the same data are not unlike -/
theorem ne_reps {C : Addr} {F : List D → FO} {w k : Nat} {ds : List D} {r r1 r2 : Rho} {ev ew : Ev Rv} {x y : Rv} (he : ev r = .ok x r1) (hf : ew r1 = .ok y r2) (hx : x.data = .lst ds) (hy : y.data = .lst ds) (g : Gd w k (.lst ds)) (hw : w ≤ 100000) (hk : k ≤ 64) : tv (e2 dNe (oE (eCB (dOr (dOwn1 C F isStrD) dRepr) (aCons (oE ev) aNil))) (oE (eCB (dOr (dOwn1 C F isStrD) dRepr) (aCons (oE ew) aNil)))) r = .ok false r2 := by
  obtain ⟨s, h1, h2, h3⟩ := rep_ok (C := C) (F := F) he hx g hw hk
  obtain ⟨s', h1', _, h3'⟩ := rep_ok (C := C) (F := F) hf hy g hw hk
  rw [h1] at h1'
  cases h1'
  have ne := ne_sgn h2
  rw [a_tv, a_e2, a_oE, h3, b_ok, b_ok, k_e2, a_oE, h3', b_ok, b_ok, a_two]
  simp only [a_rd, Rv.data, ne, b_ok]
def hueD (h : Dt) (i j : Nat) : D := (lkp h (kk i j)).getD .non
theorem lb2_ok (C : Addr) (n i j : Nat) (hi : i < n) (hj : j < n) (ts : List Tr3) (asc : ∀ t ∈ ts, t.1 < t.2.1) (J K T OW TO PG DU : Cell) (g : Gd 12 1 (hueD (ts.foldl put2 []) i j)) : lb2_l_right C [J, K, T, .val (.int n), OW, TO, .val (.int i), .val (netD C n ts), PG, .val (.dT (ts.foldl put2 [])), DU, .val (.int j), .un, .un] = .nx [J, K, T, .val (.int n), OW, TO, .val (.int i), .val (netD C n ts), PG, .val (.dT (ts.foldl put2 [])), DU, .val (.int j), .un, .un] := by
  have hsz := sizeL
  have s2 : (2 : Nat) ≤ sizeLine := by omega
  have s1 : (1 : Nat) ≤ sizeLine := by omega
  let r : Rho := [J, K, T, .val (.int n), OW, TO, .val (.int i), .val (netD C n ts), PG, .val (.dT (ts.foldl put2 [])), DU, .val (.int j), .un, .un]
  have lk := (look_meth C n ts).1
  have fh := fhue_ok C n i j hi hj ts asc
  have m0 : ∀ (is : List Nat) (va vk : Ev (List D)) (ds es : List D), va r = .ok ds r → vk r = .ok es r → sel is ((netD C n ts :: ds) ++ es) = [netD C n ts, .int i, .int j] → eMeth C "hue" (F_Net_hue C) is (eN 7) va vk r = .ok (.val (hueD (ts.foldl put2 []) i j)) r := by
    intro is va vk ds es h1 h2 h3
    have e7 : eN 7 r = .ok (.val (netD C n ts)) r := rfl
    rw [a_eMeth, e7, b_ok, k_meth]
    show (if C = C ∧ (netL n ts).lookup (Str.ofString "hue") = none then (va r).bind (kMeth2 (F_Net_hue C) is vk (.ins C (netL n ts))) else .stuck) = _
    rw [if_pos ⟨rfl, lk⟩, h1, b_ok, k_meth2, h2, b_ok, k_meth3]
    have h3' : sel is ((D.ins C (netL n ts) :: ds) ++ es) = [netD C n ts, .int i, .int j] := h3
    rw [h3', fh]
    rfl
  have v6 : ∀ as, vCons (eN 6) as r = (as r).bind fun xs r2 => .ok (.int i :: xs) r2 := fun _ => rfl
  have v11 : ∀ as, vCons (eN 11) as r = (as r).bind fun xs r2 => .ok (.int j :: xs) r2 := fun _ => rfl
  have va1 : vCons (eN 6) (vCons (eN 11) vNil) r = .ok [.int i, .int j] r := by rw [v6, v11, a_vNil, b_ok, b_ok]
  have va2 : vCons (eN 11) (vCons (eN 6) vNil) r = .ok [.int j, .int i] r := by rw [v11, v6, a_vNil, b_ok, b_ok]
  have m1 := m0 [0, 1, 2] _ _ _ _ va1 (a_vNil (r := r)) rfl
  have m2 := m0 [0, 2, 1] _ _ _ _ (a_vNil (r := r)) va2 rfl
  let hd := hueD (ts.foldl put2 []) i j
  have l1 : eLst (vCons (eMeth C "hue" (F_Net_hue C) [0, 1, 2] (eN 7) (vCons (eN 6) (vCons (eN 11) vNil)) vNil) (vCons (eMeth C "hue" (F_Net_hue C) [0, 2, 1] (eN 7) vNil (vCons (eN 11) (vCons (eN 6) vNil))) vNil)) r = .ok (.new (.lst [hd, hd])) r := by
    rw [a_eLst, a_vCons, m1, b_ok, k_v, a_vCons, m2, b_ok, k_v, a_vNil, b_ok, b_ok, b_ok, if_pos (show ([_, _] : List D).length ≤ sizeLine from s2)]
    rfl
  have tp : eTup (vCons (eN 6) (vCons (eN 11) vNil)) r = .ok (.val (.tup [.int i, .int j])) r := by
    rw [a_eTup, va1, b_ok, if_pos (show ([_, _] : List D).length ≤ sizeLine from s2)]
  have g1 : eGet1 (oN 9) (oE (eTup (vCons (eN 6) (vCons (eN 11) vNil)))) r = .ok (.val hd) r := by
    have e9 : oN 9 r = .ok (.dat (.dT (ts.foldl put2 []))) r := rfl
    have et : oE (eTup (vCons (eN 6) (vCons (eN 11) vNil))) r = .ok (.dat (.tup [.int i, .int j])) r := by rw [a_oE, tp, b_ok]; rfl
    show (oN 9 r).bind _ = _
    rw [e9, b_ok]
    dsimp only [a_rd]
    rw [if_pos (show isDct (.dT (ts.foldl put2 [])) = true from rfl), et, b_ok]
    dsimp only [a_rd]
    rw [dget_kk]
    rfl
  have mu : dMul (.lst [hd]) (.int 2) = some (.new (.lst [hd, hd])) := by
    show (if (2 : Int).natAbs ≤ 100000 ∧ [hd].length * (2 : Int).toNat ≤ sizeLine then some (Rv.new (.lst (List.replicate (2 : Int).toNat [hd]).flatten)) else none) = _
    rw [if_pos ⟨by decide, s2⟩]
    rfl
  have l2 : e2 dMul (oE (eLst (vCons (eGet1 (oN 9) (oE (eTup (vCons (eN 6) (vCons (eN 11) vNil))))) vNil))) (oC (.int 2)) r = .ok (.new (.lst [hd, hd])) r := by
    have l3 : eLst (vCons (eGet1 (oN 9) (oE (eTup (vCons (eN 6) (vCons (eN 11) vNil))))) vNil) r = .ok (.new (.lst [hd])) r := by
      rw [a_eLst, a_vCons, g1, b_ok, k_v, a_vNil, b_ok, b_ok, if_pos (show ([_] : List D).length ≤ sizeLine from s1)]
      rfl
    rw [a_e2, a_oE, l3, b_ok, b_ok, k_e2, a_oC, b_ok, a_two]
    simp only [a_rd, Rv.data, Own.data, mu]
  have gl : Gd (2 * (12 + 2) + 4) 2 (.lst [hd, hd]) := gd_lst (w := 12) (k := 1) (m := 2) (fun d hm => by
    simp only [List.mem_cons, List.not_mem_nil, or_false, or_self] at hm
    subst hm
    exact g) (by simp)
  have t := ne_reps (C := C) (F := F_NetD_reprD C) l1 l2 rfl rfl gl (by omega) (by omega)
  show lb2_l_right C r = .nx r
  unfold lb2_l_right
  rw [a_sIf, t, s_ok, k_sif0, a_sNil]
theorem lb2_loop (C : Addr) (n i : Nat) (hi : i < n) (ts : List Tr3) (asc : ∀ t ∈ ts, t.1 < t.2.1) (J K T OW TO PG DU : Cell) (g : ∀ j, Gd 12 1 (hueD (ts.foldl put2 []) i j)) : ∀ (l : List Nat) (jc : Cell), (∀ j ∈ l, j < n) → ∃ jc', forL (gN 11) (lb2_l_right C) (l.map fun j => D.int (j : Nat)) [J, K, T, .val (.int n), OW, TO, .val (.int i), .val (netD C n ts), PG, .val (.dT (ts.foldl put2 [])), DU, jc, .un, .un] = .nx [J, K, T, .val (.int n), OW, TO, .val (.int i), .val (netD C n ts), PG, .val (.dT (ts.foldl put2 [])), DU, jc', .un, .un]
  | [], jc, _ => ⟨jc, rfl⟩
  | j :: l, jc, h => by
    obtain ⟨jc', ih⟩ := lb2_loop C n i hi ts asc J K T OW TO PG DU g l (.val (.int j)) fun x hx => h x (List.mem_cons_of_mem _ hx)
    refine ⟨jc', ?_⟩
    rw [List.map_cons]
    exact (forL_nx (r1 := [J, K, T, .val (.int n), OW, TO, .val (.int i), .val (netD C n ts), PG, .val (.dT (ts.foldl put2 [])), DU, .val (.int j), .un, .un]) rfl (lb2_ok C n i j hi (h j List.mem_cons_self) ts asc J K T OW TO PG DU (g j))).trans ih
end Mp
set_option Elab.async false
set_option linter.all false
set_option maxRecDepth 100000
namespace Mp
open PySem PySem.Spec PyProof.Rows L2 Evl
theorem due_loop (C : Addr) (i : Nat) (h : Dt) (J K T N OW TO M PG DU : Cell) : ∀ l : List Nat, lcL (gN 11) (ct1_l_right C) (ce0_l_right C) [11] (l.map fun j => D.int (j : Nat)) [J, K, T, N, OW, TO, .val (.int i), M, PG, .val (.dT h), DU, .un, .un, .un] = .ok (l.filterMap fun j => (lkp h (kk i j)).map fun d => .tup [.int j, d]) [J, K, T, N, OW, TO, .val (.int i), M, PG, .val (.dT h), DU, .un, .un, .un]
  | [] => rfl
  | j :: l => by
    have hsz := sizeL
    have s2 : (2 : Nat) ≤ sizeLine := by omega
    have ih := due_loop C i h J K T N OW TO M PG DU l
    let r1 : Rho := [J, K, T, N, OW, TO, .val (.int i), M, PG, .val (.dT h), DU, .val (.int j), .un, .un]
    have hg : gN 11 (D.int (j : Nat)) [J, K, T, N, OW, TO, .val (.int i), M, PG, .val (.dT h), DU, .un, .un, .un] = some r1 := rfl
    have v6 : ∀ as, vCons (eN 6) as r1 = (as r1).bind fun xs r2 => .ok (.int i :: xs) r2 := fun _ => rfl
    have v11 : ∀ as, vCons (eN 11) as r1 = (as r1).bind fun xs r2 => .ok (.int j :: xs) r2 := fun _ => rfl
    have tp : eTup (vCons (eN 6) (vCons (eN 11) vNil)) r1 = .ok (.val (.tup [.int i, .int j])) r1 := by
      rw [a_eTup, v6, v11, a_vNil, b_ok, b_ok, b_ok, if_pos (show ([_, _] : List D).length ≤ sizeLine from s2)]
    have et : oE (eTup (vCons (eN 6) (vCons (eN 11) vNil))) r1 = .ok (.dat (.tup [.int i, .int j])) r1 := by rw [a_oE, tp, b_ok]; rfl
    have e9 : oN 9 r1 = .ok (.dat (.dT h)) r1 := rfl
    have din : dInF id (.tup [.int i, .int j]) (.dT h) = some (.val (.bl (lkp h (kk i j)).isSome)) := rfl
    have ht : ct1_l_right C r1 = .ok (lkp h (kk i j)).isSome r1 := by
      unfold ct1_l_right
      rw [a_tv, a_e2, et, b_ok, k_e2, e9, b_ok, a_two]
      simp only [a_rd, din, b_ok]
    rw [List.map_cons, List.filterMap_cons]
    cases hl : lkp h (kk i j) with
    | none =>
      rw [hl] at ht
      exact lcL_no hg ht ih
    | some d =>
      rw [hl] at ht
      have ix : dIx (.dT h) (.tup [.int i, .int j]) = some d := by
        show (match dGet (.dT h) (.tup [.int i, .int j]) with | some (some y) => some y | _ => none) = _
        rw [dget_kk, hl]
      have hc : ce0_l_right C r1 = .ok (.val (.tup [.int j, d])) r1 := by
        unfold ce0_l_right
        have e : eIx (oN 9) (oE (eTup (vCons (eN 6) (vCons (eN 11) vNil)))) r1 = .ok (.val d) r1 := by
          rw [a_eIx, a_e2, e9, b_ok, k_e2, et, b_ok, a_two]
          simp only [a_rd, ix, Option.map_some]
        rw [a_eTup, v11, a_vCons, e, b_ok, k_v, a_vNil, b_ok, b_ok, b_ok, if_pos (show ([_, _] : List D).length ≤ sizeLine from s2)]
        rfl
      exact lcL_yes hg ht hc ih
theorem gd_pr {j : Nat} {d : D} (hj : j < 100) (g : Gd 12 1 d) : Gd 32 2 (.tup [.int j, d]) := (gd_tup (w := 12) (k := 1) (m := 2) (fun x hm => by
  simp only [List.mem_cons, List.not_mem_nil, or_false] at hm
  rcases hm with rfl | rfl
  · exact (gd_int (by omega) (by omega)).mono (by omega) (by omega)
  · exact g) (by simp)).mono (by omega) (by omega)
theorem lb3_ok (C : Addr) (n i : Nat) (hi : i < n) (hn : n ≤ 9) (e : Nat → Nat → Option Nat) (he : ∀ i j s, e i j = some s → okc s) (J K T OW TO PG DU jc : Cell) : ∃ DU' jc', lb3_l_right C [J, K, T, .val (.int n), OW, TO, .val (.int i), .val (netD C n (trs e n)), PG, .val (.dT ((trs e n).foldl put2 [])), DU, jc, .un, .un] = .nx [J, K, T, .val (.int n), OW, TO, .val (.int i), .val (netD C n (trs e n)), PG, .val (.dT ((trs e n).foldl put2 [])), DU', jc', .un, .un] := by
  have hsz := sizeL
  have s2 : (2 : Nat) ≤ sizeLine := by omega
  generalize hts : trs e n = ts
  have asc : ∀ t ∈ ts, t.1 < t.2.1 := fun t ht => by subst hts; exact (trs_mem ht).1
  have hl : ts.length ≤ 90 := by subst hts; exact trs_len e n hn
  generalize hh : ts.foldl put2 [] = h
  have hue : ∀ j d, lkp h (kk i j) = some d → j < n → Gd 12 1 d := by
    intro j d q hj
    subst hh hts
    rw [lkp_trs e n i j hi hj] at q
    cases hf : fe e i j with
    | none => rw [hf] at q; cases q
    | some s =>
      rw [hf] at q
      cases q
      apply gd_sg
      unfold fe at hf
      split at hf
      · exact he _ _ _ hf
      · split at hf
        · exact he _ _ _ hf
        · cases hf
  have far : ∀ j, ¬ j < n → lkp h (kk i j) = none := by
    intro j hj
    subst hh hts
    rw [← hues_same _ asc, put_no]
    · rfl
    · rintro ⟨t, ht, q1, q2⟩
      have := (trs_mem ht).2.1
      omega
  have gh : ∀ j, Gd 12 1 (hueD h i j) := by
    intro j
    unfold hueD
    cases q : lkp h (kk i j) with
    | none => exact gd_non.mono (by omega) (by omega)
    | some d =>
      by_cases hj : j < n
      · exact hue j d q hj
      · rw [far j hj] at q; cases q
  have due : beforeL ts i ++ behindL ts i = dueL h n i := by subst hh hts; exact (due_eq e hi).symm
  let r : Rho := [J, K, T, .val (.int n), OW, TO, .val (.int i), .val (netD C n ts), PG, .val (.dT h), DU, jc, .un, .un]
  let j2 : Cell := keepVal r 11
  let r0 : Rho := [J, K, T, .val (.int n), OW, TO, .val (.int i), .val (netD C n ts), PG, .val (.dT h), DU, j2, .un, .un]
  let r1 : Rho := [J, K, T, .val (.int n), OW, TO, .val (.int i), .val (netD C n ts), PG, .val (.dT h), .val (.tup (dueL h n i)), j2, .un, .un]
  have rg := range1_ok 3 n hn r rfl
  have comp := comp_ok (g := gN 11) (t := ct1_l_right C) (ev := ce0_l_right C) (vs := [11]) rg (by rw [List.length_map, List.length_range]; omega) (due_loop C i h J K T (.val (.int n)) OW TO (.val (netD C n ts)) PG DU (List.range n))
  have res : restore r [J, K, T, .val (.int n), OW, TO, .val (.int i), .val (netD C n ts), PG, .val (.dT h), DU, .un, .un, .un] [11] = r0 := rfl
  rw [res] at comp
  have q1 : sSet 10 (eCB dTupOf (aCons (oE (eComp (iRange1 (oN 3)) (gN 11) (ct1_l_right C) (ce0_l_right C) [11])) aNil)) r = .nx r1 := by
    have c2 : eComp (iRange1 (oN 3)) (gN 11) (ct1_l_right C) (ce0_l_right C) [11] r = .ok (.new (.lst (dueL h n i))) r0 := comp
    rw [a_sSet, a_eCB, a_aCons, a_oE, c2, b_ok, b_ok, k_a, a_aNil, b_ok, b_ok]
    rfl
  have fr : F_Net_roads_at C [netD C n ts, .int i] = .val (.tup (dueL h n i)) := by rw [fra_ok C n i hi ts hl, due]
  have lk := (look_meth C n ts).2
  have m0 : ∀ (is : List Nat) (va vk : Ev (List D)) (ds es : List D), va r1 = .ok ds r1 → vk r1 = .ok es r1 → sel is ((netD C n ts :: ds) ++ es) = [netD C n ts, .int i] → eMeth C "roads_at" (F_Net_roads_at C) is (eN 7) va vk r1 = .ok (.val (.tup (dueL h n i))) r1 := by
    intro is va vk ds es h1 h2 h3
    have e7 : eN 7 r1 = .ok (.val (netD C n ts)) r1 := rfl
    rw [a_eMeth, e7, b_ok, k_meth]
    show (if C = C ∧ (netL n ts).lookup (Str.ofString "roads_at") = none then (va r1).bind (kMeth2 (F_Net_roads_at C) is vk (.ins C (netL n ts))) else .stuck) = _
    rw [if_pos ⟨rfl, lk⟩, h1, b_ok, k_meth2, h2, b_ok, k_meth3]
    have h3' : sel is ((D.ins C (netL n ts) :: ds) ++ es) = [netD C n ts, .int i] := h3
    rw [h3', fr]
    rfl
  have va : vCons (eN 6) vNil r1 = .ok [.int i] r1 := rfl
  have m1 := m0 [0, 1] _ _ _ _ va (a_vNil (r := r1)) rfl
  have m2 := m0 [0, 1] _ _ _ _ (a_vNil (r := r1)) va rfl
  let dd : D := .tup (dueL h n i)
  have l1 : eLst (vCons (eMeth C "roads_at" (F_Net_roads_at C) [0, 1] (eN 7) (vCons (eN 6) vNil) vNil) (vCons (eMeth C "roads_at" (F_Net_roads_at C) [0, 1] (eN 7) vNil (vCons (eN 6) vNil)) vNil)) r1 = .ok (.new (.lst [dd, dd])) r1 := by
    rw [a_eLst, a_vCons, m1, b_ok, k_v, a_vCons, m2, b_ok, k_v, a_vNil, b_ok, b_ok, b_ok, if_pos (show ([_, _] : List D).length ≤ sizeLine from s2)]
    rfl
  have l2 : eLst (vCons (eN 10) (vCons (eN 10) vNil)) r1 = .ok (.new (.lst [dd, dd])) r1 := by
    have v10 : ∀ as, vCons (eN 10) as r1 = (as r1).bind fun xs r2 => .ok (dd :: xs) r2 := fun _ => rfl
    rw [a_eLst, v10, v10, a_vNil, b_ok, b_ok, b_ok, if_pos (show ([_, _] : List D).length ≤ sizeLine from s2)]
  have gdd : Gd 310 3 dd := by
    refine (gd_tup (w := 32) (k := 2) (m := 9) (fun d hd => ?_) (Nat.le_trans (List.length_filterMap_le _ _) (by rw [List.length_range]; exact hn))).mono (by omega) (by omega)
    unfold dueL at hd
    rw [List.mem_filterMap] at hd
    obtain ⟨j, hj, hd⟩ := hd
    rw [Option.map_eq_some_iff] at hd
    obtain ⟨x, hx, rfl⟩ := hd
    have := List.mem_range.mp hj
    exact gd_pr (by omega) (hue j x hx this)
  have gl : Gd (2 * (310 + 2) + 4) 4 (.lst [dd, dd]) := gd_lst (w := 310) (k := 3) (m := 2) (fun d hm => by
    simp only [List.mem_cons, List.not_mem_nil, or_false, or_self] at hm
    subst hm
    exact gdd) (by simp)
  have t := ne_reps (C := C) (F := F_NetD_reprD C) l1 l2 rfl rfl gl (by omega) (by omega)
  have rg1 := range1_ok 3 n hn r1 rfl
  subst hh
  obtain ⟨jc', lp⟩ := lb2_loop C n i hi ts asc J K T OW TO PG (.val (.tup (dueL (ts.foldl put2 []) n i))) gh (List.range n) j2 fun j hj => List.mem_range.mp hj
  refine ⟨.val (.tup (dueL (ts.foldl put2 []) n i)), jc', ?_⟩
  show lb3_l_right C r = _
  unfold lb3_l_right
  rw [a_sCons, q1, t_nx, a_sCons, a_sIf, t, s_ok, k_sif0, a_sNil, t_nx, a_sFor, rg1, s_ok]
  exact lp
theorem lb3_loop (C : Addr) (n : Nat) (hn : n ≤ 9) (e : Nat → Nat → Option Nat) (he : ∀ i j s, e i j = some s → okc s) (J K T OW TO PG : Cell) : ∀ (l : List Nat) (ic DU jc : Cell), (∀ i ∈ l, i < n) → ∃ ic' DU' jc', forL (gN 6) (lb3_l_right C) (l.map fun j => D.int (j : Nat)) [J, K, T, .val (.int n), OW, TO, ic, .val (netD C n (trs e n)), PG, .val (.dT ((trs e n).foldl put2 [])), DU, jc, .un, .un] = .nx [J, K, T, .val (.int n), OW, TO, ic', .val (netD C n (trs e n)), PG, .val (.dT ((trs e n).foldl put2 [])), DU', jc', .un, .un]
  | [], ic, DU, jc, _ => ⟨ic, DU, jc, rfl⟩
  | i :: l, ic, DU, jc, h => by
    obtain ⟨DU1, jc1, one⟩ := lb3_ok C n i (h i List.mem_cons_self) hn e he J K T OW TO PG DU jc
    obtain ⟨ic', DU', jc', ih⟩ := lb3_loop C n hn e he J K T OW TO PG l (.val (.int i)) DU1 jc1 fun x hx => h x (List.mem_cons_of_mem _ hx)
    refine ⟨ic', DU', jc', ?_⟩
    rw [List.map_cons]
    exact (forL_nx (r1 := [J, K, T, .val (.int n), OW, TO, .val (.int i), .val (netD C n (trs e n)), PG, .val (.dT ((trs e n).foldl put2 [])), DU, jc, .un, .un]) rfl one).trans ih
end Mp
set_option Elab.async false
set_option linter.all false
set_option maxRecDepth 100000
namespace Mp
open PySem PySem.Spec PyProof.Rows L2 Evl
/-! ### one turn of the law -/
theorem sjoin_sgn {sep : Str} (hs : Sgn sep) : ∀ (ts : List Str), (∀ t ∈ ts, Sgn t) → Sgn (Str.join sep ts)
  | [], _ => fun c h => nomatch h
  | [x], h => h x List.mem_cons_self
  | x :: y :: r, h => ((h x List.mem_cons_self).app hs).app (sjoin_sgn hs (y :: r) fun s hs => h s (List.mem_cons_of_mem _ hs))
theorem text_sgn (n : Nat) (hn : n < 10) (ts : List Tr3) (ok : ∀ t ∈ ts, t.1 < 10 ∧ t.2.1 < 10 ∧ okc t.2.2) : Sgn (textOf n ts) := by
  unfold textOf
  rw [TL.join_eq]
  refine sjoin_sgn (.of _) _ fun x hx => ?_
  rcases List.mem_cons.mp hx with rfl | hx
  · intro c hc
    have hc : c ∈ [48 + n, 58] := hc
    simp only [List.mem_cons, List.not_mem_nil, or_false] at hc
    omega
  · obtain ⟨t, ht, rfl⟩ := List.mem_map.mp hx
    obtain ⟨h1, h2, h3⟩ := ok t ht
    unfold okc at h3
    intro c hc
    have hc : c ∈ [48 + t.1, 45, 48 + t.2.1, t.2.2] := hc
    simp only [List.mem_cons, List.not_mem_nil, or_false] at hc
    omega
theorem rpr_sgn (n : Nat) (hn : n < 10) : Sgn (rpr n) := ((Sgn.of _).app (fun c hc => by
  have hc : c ∈ [48 + n] := hc
  simp only [List.mem_cons, List.not_mem_nil, or_false] at hc
  omega)).app (.of _)
theorem rpr_len (n : Nat) : (rpr n).length = 15 := by
  have l1 : (Str.ofString "Net of ").length = 7 := by decide +kernel
  have l3 : (Str.ofString " places").length = 7 := by decide +kernel
  have l2 : (dg n).length = 1 := rfl
  unfold rpr
  rw [strLen_append, strLen_append]
  omega
/-- all that is told of a net -/
def toldL (n : Nat) (ts : List Tr3) : List D := [.int n, .tup (ts.map rT), .int ts.length, .str (textOf n ts), .str (rpr n)]
theorem gd_told (n : Nat) (h9 : n ≤ 9) (ts : List Tr3) (hl : ts.length ≤ 90) (ok : ∀ t ∈ ts, t.1 < 10 ∧ t.2.1 < 10 ∧ okc t.2.2) : Gd (5 * (9002 + 2) + 4) 4 (.lst (toldL n ts)) := by
  refine gd_lst (w := 9002) (k := 3) (m := 5) (fun d hd => ?_) (Nat.le_refl _)
  unfold toldL at hd
  simp only [List.mem_cons, List.not_mem_nil, or_false] at hd
  have tl := textLen n ts hl
  rcases hd with rfl | rfl | rfl | rfl | rfl
  · exact (gd_int (by omega) (by omega)).mono (by omega) (by omega)
  · refine (gd_tup (w := 46) (k := 2) (m := 90) (fun d hd => ?_) (by rw [List.length_map]; exact hl)).mono (by omega) (by omega)
    obtain ⟨t, ht, rfl⟩ := List.mem_map.mp hd
    obtain ⟨h1, h2, h3⟩ := ok t ht
    refine (gd_tup (w := 12) (k := 1) (m := 3) (fun x hm => ?_) (by simp)).mono (by omega) (by omega)
    simp only [List.mem_cons, List.not_mem_nil, or_false] at hm
    rcases hm with rfl | rfl | rfl
    · exact (gd_int (by omega) (by omega)).mono (by omega) (by omega)
    · exact (gd_int (by omega) (by omega)).mono (by omega) (by omega)
    · exact gd_sg h3
  · exact (gd_int (by omega) (by omega)).mono (by omega) (by omega)
  · exact (gd_str (text_sgn n (by omega) ts ok)).mono (by omega) (by omega)
  · exact (gd_str (rpr_sgn n (by omega))).mono (by rw [rpr_len]; omega) (by omega)
structure Good (C : Addr) (n : Nat) (e : Nat → Nat → Option Nat) : Prop where
  h0 : 1 ≤ n
  h9 : n ≤ 9
  he : ∀ i j s, e i j = some s → okc s
theorem Good.len {C : Addr} {n : Nat} {e : Nat → Nat → Option Nat} (g : Good C n e) : (trs e n).length ≤ 90 := trs_len e n g.h9
theorem Good.ok {C : Addr} {n : Nat} {e : Nat → Nat → Option Nat} (g : Good C n e) : ∀ t ∈ trs e n, t.1 < t.2.1 ∧ t.2.1 < n ∧ okc t.2.2 := fun t ht => ⟨(trs_mem ht).1, (trs_mem ht).2.1, g.he _ _ _ (trs_mem ht).2.2⟩
theorem Good.ok2 {C : Addr} {n : Nat} {e : Nat → Nat → Option Nat} (g : Good C n e) : ∀ t ∈ trs e n, t.1 < 10 ∧ t.2.1 < 10 ∧ okc t.2.2 := fun t ht => by
  obtain ⟨a, b, c⟩ := g.ok t ht
  have := g.h9
  exact ⟨by omega, by omega, c⟩
theorem Good.init {C : Addr} {n : Nat} {e : Nat → Nat → Option Nat} (g : Good C n e) : F_NetD_initD C (.ins C []) [.int n, .tup ((trs e n).map rT)] = (.val .non, netO C n (trs e n)) := init_ok C n g.h0 g.h9 _ g.len (trs_asc e n) g.ok
theorem Good.read {C : Addr} {n : Nat} {e : Nat → Nat → Option Nat} (g : Good C n e) : F_Net_read C [.str (textOf n (trs e n))] = .new (netO C n (trs e n)) := read_ok C n g.h0 g.h9 _ g.len (trs_asc e n) g.ok
theorem own1_at {C : Addr} {F : List D → FO} {ok : D → Bool} {n : Nat} {ts : List Tr3} {d : D} {f : List D → Option Rv} (h : F [netD C n ts] = .val d) (o : ok d = true) : dOr (dOwn1 C F ok) f [netD C n ts] = some (.val d) := by
  have : dOwn1 C F ok [netD C n ts] = some (.val d) := by
    show (if C = C then (match F [netD C n ts] with | .val d => if ok d then some (Rv.val d) else none | _ => none) else none) = _
    rw [if_pos rfl, h]
    dsimp only
    rw [if_pos o]
  unfold dOr
  rw [this]
  rfl
theorem own2_at {C : Addr} {F : List D → FO} {neg k : Bool} {n : Nat} {ts : List Tr3} {d : D} {f : D → D → Option Rv} (h : F [netD C n ts, d] = .val (.bl k)) (o : eqArg C d = true) : dOr2 (dOwn2 C F neg) f (netD C n ts) d = some (.val (.bl (k != neg))) := by
  have : dOwn2 C F neg (netD C n ts) d = some (.val (.bl (k != neg))) := by
    show (if C = C ∧ eqArg C d = true then (match F [netD C n ts, d] with | .val (.bl k) => vB (k != neg) | _ => none) else none) = _
    rw [if_pos ⟨rfl, o⟩, h]
    rfl
  unfold dOr2
  rw [this]
  rfl
theorem lb4_a (C : Addr) (n : Nat) (e : Nat → Nat → Option Nat) (g : Good C n e) (J K T c5 c6 c7 c8 c9 c10 c11 : Cell) :
    sPar [7, 8, 9] (lCons (eMake C (F_NetD_initD C) [0, 1] (vCons (eN 3) (vCons (eN 4) vNil)) vNil) (lCons (eCall (F_l_text C) [0, 1] (vCons (eN 3) (vCons (eN 4) vNil)) vNil) (lCons (eCall (F_l_hues C) [0] (vCons (eN 4) vNil) vNil) lNil))) [J, K, T, .val (.int n), .val (.tup ((trs e n).map rT)), c5, c6, c7, c8, c9, c10, c11, .un, .un]
      = .nx [J, K, T, .val (.int n), .val (.tup ((trs e n).map rT)), c5, c6, .own (netO C n (trs e n)), .val (.str (textOf n (trs e n))), .val (.dT ((trs e n).foldl put2 [])), c10, c11, .un, .un] := by
  have ini := g.init
  have txt := text_ok C n (by have := g.h9; omega) (trs e n) (fun t ht => ⟨(g.ok2 t ht).1, (g.ok2 t ht).2.1⟩) g.len
  have hu := hues_ok C (trs e n) g.len
  simp [a_sPar, a_lCons, a_eMake, a_vCons, a_eN, b_ok, k_v, a_vNil, Rv.data, k_make, k_make2, sel, ini, k_l, a_eCall, k_call, k_call2, txt, hu, ofFO, a_lNil, s_ok, cellOf]
end Mp
set_option Elab.async false
set_option linter.all false
set_option maxRecDepth 100000
namespace Mp
open PySem PySem.Spec PyProof.Rows L2 Evl
section
variable (C : Addr) (n : Nat) (e : Nat → Nat → Option Nat) (g : Good C n e) (J K T c5 c6 c10 c11 : Cell)
def frA (x5 x7 : Cell) : Rho := [J, K, T, .val (.int n), .val (.tup ((trs e n).map rT)), x5, c6, x7, .val (.str (textOf n (trs e n))), .val (.dT ((trs e n).foldl put2 [])), c10, c11, .un, .un]
include g
theorem lb4_b : sSet 5 (eLst (vCons (eProp C (F_Net_size C) (eN 7)) (vCons (eProp C (F_Net_roads C) (eN 7)) (vCons (eCB (dOr (dOwn1 C (F_NetD_lenD C) isNat63) dLen) (aCons (oN 7) aNil)) (vCons (eCB (dOr (dOwn1 C (F_NetD_strD C) isStrD) dStr) (aCons (oN 7) aNil)) (vCons (eCB (dOr (dOwn1 C (F_NetD_reprD C) isStrD) dRepr) (aCons (oN 7) aNil)) vNil)))))) (frA n e J K T c6 c10 c11 c5 (.own (netO C n (trs e n))))
      = .nx (frA n e J K T c6 c10 c11 (.own (.lst (toldL n (trs e n)))) (.val (netD C n (trs e n)))) := by
  have hsz := sizeL
  have s5 : (5 : Nat) ≤ sizeLine := by omega
  have hn : n < 10 := by have := g.h9; omega
  let r0 := frA n e J K T c6 c10 c11 c5 (.own (netO C n (trs e n)))
  let r := frA n e J K T c6 c10 c11 c5 (.val (netD C n (trs e n)))
  have p1 : eProp C (F_Net_size C) (eN 7) r0 = .ok (.val (.int n)) r := by
    have e7 : eN 7 r0 = .ok (.val (netD C n (trs e n))) r := rfl
    rw [a_eProp, e7, b_ok]
    show (if C = C then ofFO0 (F_Net_size C [netD C n (trs e n)]) r else .stuck) = _
    rw [if_pos rfl, fsz_ok]
    rfl
  have e7 : eN 7 r = .ok (.val (netD C n (trs e n))) r := rfl
  have p2 : eProp C (F_Net_roads C) (eN 7) r = .ok (.val (.tup ((trs e n).map rT))) r := by
    rw [a_eProp, e7, b_ok]
    show (if C = C then ofFO0 (F_Net_roads C [netD C n (trs e n)]) r else .stuck) = _
    rw [if_pos rfl, frd_ok]
    rfl
  have o7 : oN 7 r = .ok (.dat (netD C n (trs e n))) r := rfl
  have one : ∀ (fl : List D → Option Rv) (d : D), fl [netD C n (trs e n)] = some (.val d) → eCB fl (aCons (oN 7) aNil) r = .ok (.val d) r := by
    intro fl d h
    rw [a_eCB, a_aCons, o7, b_ok, k_a, a_aNil, b_ok, b_ok]
    simp only [rdAll, a_rd, h]
  have p3 := one _ _ (own1_at (f := dLen) (ok := isNat63) (fln_ok C n (trs e n) g.len) (by
    have := g.len
    show (decide ((0 : Int) ≤ ((trs e n).length : Int)) && decide (((trs e n).length : Int) < 9223372036854775808)) = true
    rw [Bool.and_eq_true, decide_eq_true_eq, decide_eq_true_eq]
    omega))
  have p4 := one _ _ (own1_at (f := dStr) (ok := isStrD) (fst_ok C n hn (trs e n) (fun t ht => ⟨(g.ok2 t ht).1, (g.ok2 t ht).2.1⟩) g.len) rfl)
  have p5 := one _ _ (own1_at (f := dRepr) (ok := isStrD) (frp_ok C n hn (trs e n)) rfl)
  have l : eLst (vCons (eProp C (F_Net_size C) (eN 7)) (vCons (eProp C (F_Net_roads C) (eN 7)) (vCons (eCB (dOr (dOwn1 C (F_NetD_lenD C) isNat63) dLen) (aCons (oN 7) aNil)) (vCons (eCB (dOr (dOwn1 C (F_NetD_strD C) isStrD) dStr) (aCons (oN 7) aNil)) (vCons (eCB (dOr (dOwn1 C (F_NetD_reprD C) isStrD) dRepr) (aCons (oN 7) aNil)) vNil))))) r0 = .ok (.new (.lst (toldL n (trs e n)))) r := by
    rw [a_eLst, a_vCons, p1, b_ok, k_v, a_vCons, p2, b_ok, k_v, a_vCons, p3, b_ok, k_v, a_vCons, p4, b_ok, k_v, a_vCons, p5, b_ok, k_v, a_vNil, b_ok, b_ok, b_ok, b_ok, b_ok, b_ok, if_pos (show ([_, _, _, _, _] : List D).length ≤ sizeLine from s5)]
    rfl
  show sSet 5 _ r0 = _
  rw [a_sSet, l, s_ok]
  rfl
theorem lb4_c : sIf (tv (e2 dNe (oE (eCB (dOr (dOwn1 C (F_NetD_reprD C) isStrD) dRepr) (aCons (oN 5) aNil))) (oE (eCB (dOr (dOwn1 C (F_NetD_reprD C) isStrD) dRepr) (aCons (oE (eLst (vCons (eN 3) (vCons (eN 4) (vCons (eCB (dOr (dOwn1 C (F_NetD_lenD C) isNat63) dLen) (aCons (oN 4) aNil)) (vCons (eN 8) (vCons (e2 dAdd (oE (e2 dAdd (oC (.str "Net of ")) (oE (eCB (dOr (dOwn1 C (F_NetD_strD C) isStrD) dStr) (aCons (oN 3) aNil))))) (oC (.str " places"))) vNil))))))) aNil))))) (sRet (eC (.bl false))) sNil (frA n e J K T c6 c10 c11 (.own (.lst (toldL n (trs e n)))) (.val (netD C n (trs e n))))
      = .nx (frA n e J K T c6 c10 c11 (.own (.lst (toldL n (trs e n)))) (.val (netD C n (trs e n)))) := by
  have hsz := sizeL
  have s5 : (5 : Nat) ≤ sizeLine := by omega
  have hn : n < 10 := by have := g.h9; omega
  let r := frA n e J K T c6 c10 c11 (.own (.lst (toldL n (trs e n)))) (.val (netD C n (trs e n)))
  obtain ⟨s, h1, h2⟩ := gd_repr (gd_told n g.h9 (trs e n) g.len g.ok2) (by omega) (by omega)
  have dr : dOr (dOwn1 C (F_NetD_reprD C) isStrD) dRepr [.lst (toldL n (trs e n))] = some (.val (.str s)) := h1
  have a1 : eCB (dOr (dOwn1 C (F_NetD_reprD C) isStrD) dRepr) (aCons (oN 5) aNil) r = .ok (.val (.str s)) r := by
    have o5 : oN 5 r = .ok (.slot 5) r := rfl
    have rd5 : (Src.slot 5).rd r = some (.lst (toldL n (trs e n))) := rfl
    rw [a_eCB, a_aCons, o5, b_ok, k_a, a_aNil, b_ok, b_ok]
    simp only [rdAll, rd5, dr]
  have v3 : ∀ as, vCons (eN 3) as r = (as r).bind fun xs r2 => .ok (.int n :: xs) r2 := fun _ => rfl
  have v4 : ∀ as, vCons (eN 4) as r = (as r).bind fun xs r2 => .ok (.tup ((trs e n).map rT) :: xs) r2 := fun _ => rfl
  have v8 : ∀ as, vCons (eN 8) as r = (as r).bind fun xs r2 => .ok (.str (textOf n (trs e n)) :: xs) r2 := fun _ => rfl
  have p3 : eCB (dOr (dOwn1 C (F_NetD_lenD C) isNat63) dLen) (aCons (oN 4) aNil) r = .ok (.val (.int (trs e n).length)) r := by
    have o4 : oN 4 r = .ok (.dat (.tup ((trs e n).map rT))) r := rfl
    have d : dOr (dOwn1 C (F_NetD_lenD C) isNat63) dLen [.tup ((trs e n).map rT)] = some (.val (.int (trs e n).length)) := by
      show dLen [.tup ((trs e n).map rT)] = _
      rw [len_tup, List.length_map]
    rw [a_eCB, a_aCons, o4, b_ok, k_a, a_aNil, b_ok, b_ok]
    simp only [rdAll, a_rd, d]
  have p5 : e2 dAdd (oE (e2 dAdd (oC (.str "Net of ")) (oE (eCB (dOr (dOwn1 C (F_NetD_strD C) isStrD) dStr) (aCons (oN 3) aNil))))) (oC (.str " places")) r = .ok (.val (.str (rpr n))) r := by
    have o3 : oN 3 r = .ok (.dat (.int n)) r := rfl
    have d : dOr (dOwn1 C (F_NetD_strD C) isStrD) dStr [.int n] = some (.val (.str (dg n))) := dStr_dg n hn
    have q : eCB (dOr (dOwn1 C (F_NetD_strD C) isStrD) dStr) (aCons (oN 3) aNil) r = .ok (.val (.str (dg n))) r := by
      rw [a_eCB, a_aCons, o3, b_ok, k_a, a_aNil, b_ok, b_ok]
      simp only [rdAll, a_rd, d]
    have l1 : (Str.ofString "Net of ").length = 7 := by decide +kernel
    have l3 : (Str.ofString " places").length = 7 := by decide +kernel
    have l2 : (dg n).length = 1 := rfl
    have d1 : dAdd (.str (Str.ofString "Net of ")) (.str (dg n)) = some (.val (.str (Str.ofString "Net of " ++ dg n))) := by
      show (if (Str.ofString "Net of ").length + (dg n).length ≤ sizeLine then vS (Str.ofString "Net of " ++ dg n) else none) = _
      rw [if_pos (by omega)]
      rfl
    have d2 : dAdd (.str (Str.ofString "Net of " ++ dg n)) (.str (Str.ofString " places")) = some (.val (.str (rpr n))) := by
      show (if (Str.ofString "Net of " ++ dg n).length + (Str.ofString " places").length ≤ sizeLine then vS (Str.ofString "Net of " ++ dg n ++ Str.ofString " places") else none) = _
      rw [if_pos (by rw [strLen_append]; omega)]
      rfl
    rw [a_e2, a_oE, a_e2, a_oC, b_ok, k_e2, a_oE, q, b_ok, b_ok, a_two]
    simp only [a_rd, Rv.data, d1]
    rw [b_ok, b_ok, k_e2, a_oC, b_ok, a_two]
    simp only [a_rd, Rv.data, d2]
  have l : eLst (vCons (eN 3) (vCons (eN 4) (vCons (eCB (dOr (dOwn1 C (F_NetD_lenD C) isNat63) dLen) (aCons (oN 4) aNil)) (vCons (eN 8) (vCons (e2 dAdd (oE (e2 dAdd (oC (.str "Net of ")) (oE (eCB (dOr (dOwn1 C (F_NetD_strD C) isStrD) dStr) (aCons (oN 3) aNil))))) (oC (.str " places"))) vNil))))) r = .ok (.new (.lst (toldL n (trs e n)))) r := by
    rw [a_eLst, v3, v4, a_vCons, p3, b_ok, k_v, v8, a_vCons, p5, b_ok, k_v, a_vNil, b_ok, b_ok, b_ok, b_ok, b_ok, b_ok, if_pos (show ([_, _, _, _, _] : List D).length ≤ sizeLine from s5)]
    rfl
  obtain ⟨s', h1', _, a2⟩ := rep_ok (C := C) (F := F_NetD_reprD C) l rfl (gd_told n g.h9 (trs e n) g.len g.ok2) (by omega) (by omega)
  rw [h1] at h1'
  cases h1'
  have ne := ne_sgn h2
  show sIf _ _ _ r = .nx r
  have t : tv (e2 dNe (oE (eCB (dOr (dOwn1 C (F_NetD_reprD C) isStrD) dRepr) (aCons (oN 5) aNil))) (oE (eCB (dOr (dOwn1 C (F_NetD_reprD C) isStrD) dRepr) (aCons (oE (eLst (vCons (eN 3) (vCons (eN 4) (vCons (eCB (dOr (dOwn1 C (F_NetD_lenD C) isNat63) dLen) (aCons (oN 4) aNil)) (vCons (eN 8) (vCons (e2 dAdd (oE (e2 dAdd (oC (.str "Net of ")) (oE (eCB (dOr (dOwn1 C (F_NetD_strD C) isStrD) dStr) (aCons (oN 3) aNil))))) (oC (.str " places"))) vNil))))))) aNil)))) r = .ok false r := by
    rw [a_tv, a_e2, a_oE, a1, b_ok, b_ok, k_e2, a_oE, a2, b_ok, b_ok, a_two]
    simp only [a_rd, Rv.data, ne, b_ok]
  rw [a_sIf, t, s_ok, k_sif0, a_sNil]
theorem lb4_d (x5 : Cell) : sIf (tOrE (tv (e2 (dOr2 (dOwn2 C (F_NetD_eqD C) true) dNe) (oE (eCall (F_Net_read C) [0] (vCons (eN 8) vNil) vNil)) (oN 7))) (tOrE (tv (e2 (dOr2 (dOwn2 C (F_NetD_eqD C) true) dNe) (oE (eCall (F_Net_read C) [0] vNil (vCons (eN 8) vNil))) (oE (eMake C (F_NetD_initD C) [1, 0] vNil (vCons (eN 4) (vCons (eN 3) vNil)))))) (tOrE (tNotE (tTrO C (F_NetD_boolD C) (oN 7))) (tv (e2 (dOr2 (dOwn2 C (F_NetD_eqD C) false) dEq) (oN 7) (oN 8)))))) (sRet (eC (.bl false))) sNil (frA n e J K T c6 c10 c11 x5 (.val (netD C n (trs e n))))
      = .nx (frA n e J K T c6 c10 c11 x5 (.val (netD C n (trs e n)))) := by
  let r := frA n e J K T c6 c10 c11 x5 (.val (netD C n (trs e n)))
  have okc' : ∀ t ∈ trs e n, okc t.2.2 := fun t ht => (g.ok t ht).2.2
  have eqs : F_NetD_eqD C [netD C n (trs e n), netD C n (trs e n)] = .val (.bl true) := by
    rw [feq_ok C n n _ _ okc' okc', decide_eq_true rfl, decide_eq_true rfl]; rfl
  have arg : eqArg C (netD C n (trs e n)) = true := by
    show decide (C = C) = true
    exact decide_eq_true rfl
  have w1 := own2_at (f := dNe) (neg := true) eqs arg
  have w2 := own2_at (f := dEq) (neg := false) (feq_str C n (trs e n) (textOf n (trs e n))) rfl
  have o7 : oN 7 r = .ok (.dat (netD C n (trs e n))) r := rfl
  have o8 : oN 8 r = .ok (.dat (.str (textOf n (trs e n)))) r := rfl
  have va : vCons (eN 8) vNil r = .ok [.str (textOf n (trs e n))] r := rfl
  have vb : vCons (eN 4) (vCons (eN 3) vNil) r = .ok [.tup ((trs e n).map rT), .int n] r := rfl
  have rd : ∀ (va vk : Ev (List D)) (ds es : List D), va r = .ok ds r → vk r = .ok es r → sel [0] (ds ++ es) = [.str (textOf n (trs e n))] → oE (eCall (F_Net_read C) [0] va vk) r = .ok (.dat (netD C n (trs e n))) r := by
    intro va vk ds es h1 h2 h3
    rw [a_oE, a_eCall, h1, b_ok, k_call, h2, b_ok, k_call2, h3, g.read]
    rfl
  have r1 := rd _ _ _ _ va (a_vNil (r := r)) rfl
  have r2 := rd _ _ _ _ (a_vNil (r := r)) va rfl
  have mk : oE (eMake C (F_NetD_initD C) [1, 0] vNil (vCons (eN 4) (vCons (eN 3) vNil))) r = .ok (.dat (netD C n (trs e n))) r := by
    have s : sel [1, 0] ([] ++ [D.tup ((trs e n).map rT), .int n]) = [.int n, .tup ((trs e n).map rT)] := rfl
    rw [a_oE, a_eMake, a_vNil, b_ok, k_make, vb, b_ok, k_make2, s, g.init]
    rfl
  have t1 : tv (e2 (dOr2 (dOwn2 C (F_NetD_eqD C) true) dNe) (oE (eCall (F_Net_read C) [0] (vCons (eN 8) vNil) vNil)) (oN 7)) r = .ok false r := by
    rw [a_tv, a_e2, r1, b_ok, k_e2, o7, b_ok, a_two]
    simp only [a_rd, w1, b_ok]
    rfl
  have t2 : tv (e2 (dOr2 (dOwn2 C (F_NetD_eqD C) true) dNe) (oE (eCall (F_Net_read C) [0] vNil (vCons (eN 8) vNil))) (oE (eMake C (F_NetD_initD C) [1, 0] vNil (vCons (eN 4) (vCons (eN 3) vNil))))) r = .ok false r := by
    rw [a_tv, a_e2, r2, b_ok, k_e2, mk, b_ok, a_two]
    simp only [a_rd, w1, b_ok]
    rfl
  have t3 : tNotE (tTrO C (F_NetD_boolD C) (oN 7)) r = .ok false r := by
    have b : dBool C (F_NetD_boolD C) (netD C n (trs e n)) = some true := by
      show (if C = C then (match F_NetD_boolD C [netD C n (trs e n)] with | .val (.bl k) => some k | _ => none) else none) = _
      rw [if_pos rfl, fbl_ok]
    rw [a_tNot, a_tTrO, o7, b_ok]
    simp only [a_rd, b, b_ok]
    rfl
  have t4 : tv (e2 (dOr2 (dOwn2 C (F_NetD_eqD C) false) dEq) (oN 7) (oN 8)) r = .ok false r := by
    rw [a_tv, a_e2, o7, b_ok, k_e2, o8, b_ok, a_two]
    simp only [a_rd, w2, b_ok]
    rfl
  show sIf _ _ _ r = .nx r
  rw [a_sIf, a_tOr, t1, b_ok, k_or0, a_tOr, t2, b_ok, k_or0, a_tOr, t3, b_ok, k_or0, t4, s_ok, k_sif0, a_sNil]
end
end Mp
set_option Elab.async false
set_option linter.all false
set_option maxRecDepth 100000
namespace Mp
open PySem PySem.Spec PyProof.Rows L2 Evl
theorem lb4_ok (C : Addr) (a b c : Int) (K : List D) (hK : K.length ≤ 100) (T c3 c4 c5 c6 c7 c8 c9 c10 c11 : Cell) : ∃ (n : Nat) (e : Nat → Nat → Option Nat) (a' b' c' : Int) (x3 x4 x5 x6 x7 x8 x9 x10 x11 : Cell), Good C n e ∧ lb4_l_right C [.own (jarO a b c), .own (.lst K), T, c3, c4, c5, c6, c7, c8, c9, c10, c11, .un, .un] = .nx [.own (jarO a' b' c'), .own (.lst (K ++ [netD C n (trs e n)])), T, x3, x4, x5, x6, x7, x8, x9, x10, x11, .un, .un] := by
  have hsz := sizeL
  obtain ⟨v, a1, b1, c1, hv, v0, v1⟩ := dip_ok C a b c 9 (by omega) (by omega)
  obtain ⟨n, hn⟩ : ∃ n : Nat, (1 + v : Int) = n := ⟨(1 + v).toNat, by omega⟩
  obtain ⟨e, a2, b2, c2, he, hr⟩ := roads_ok C a1 b1 c1 n (by omega)
  have g : Good C n e := ⟨by omega, by omega, he⟩
  rw [roadsD_eq] at hr
  let r0 : Rho := [.own (jarO a b c), .own (.lst K), T, c3, c4, c5, c6, c7, c8, c9, c10, c11, .un, .un]
  let r1 : Rho := [.own (jarO a1 b1 c1), .own (.lst K), T, .val (.int n), c4, c5, c6, c7, c8, c9, c10, c11, .un, .un]
  let r2 : Rho := [.own (jarO a2 b2 c2), .own (.lst K), T, .val (.int n), .val (.tup ((trs e n).map rT)), c5, c6, c7, c8, c9, c10, c11, .un, .un]
  have q1 : sSet 3 (e2 dAdd (oC (.int 1)) (oE (eMut 0 (F_l_dip C) (vCons (eC (.int 9)) vNil)))) r0 = .nx r1 := by
    have m : eMut 0 (F_l_dip C) (vCons (eC (.int 9)) vNil) r0 = .ok (.val (.int v)) [.own (jarO a1 b1 c1), .own (.lst K), T, c3, c4, c5, c6, c7, c8, c9, c10, c11, .un, .un] := by
      simp [r0, a_eMut, a_vCons, a_eC, b_ok, k_v, a_vNil, Rv.data, hv, ofFO]
    have d : dAdd (.int 1) (.int v) = some (.val (.int n)) := by
      show vI (1 + v) = _
      rw [hn]; rfl
    rw [a_sSet, a_e2, a_oC, b_ok, k_e2, a_oE, m, b_ok, b_ok, a_two]
    simp only [a_rd, Rv.data, d, s_ok]
    rfl
  have q2 : sSet 4 (eMut 0 (F_l_roads C) (vCons (eN 3) vNil)) r1 = .nx r2 := by
    simp [r1, r2, a_sSet, a_eMut, a_vCons, a_eN, b_ok, k_v, a_vNil, Rv.data, hr, ofFO, s_ok, cellOf]
  have q3 := lb4_a C n e g (.own (jarO a2 b2 c2)) (.own (.lst K)) T c5 c6 c7 c8 c9 c10 c11
  have q4 := lb4_b C n e g (.own (jarO a2 b2 c2)) (.own (.lst K)) T c5 c6 c10 c11
  have q5 := lb4_c C n e g (.own (jarO a2 b2 c2)) (.own (.lst K)) T c6 c10 c11
  have q6 := lb4_d C n e g (.own (jarO a2 b2 c2)) (.own (.lst K)) T c6 c10 c11 (.own (.lst (toldL n (trs e n))))
  have q3' : sPar [7, 8, 9] (lCons (eMake C (F_NetD_initD C) [0, 1] (vCons (eN 3) (vCons (eN 4) vNil)) vNil) (lCons (eCall (F_l_text C) [0, 1] (vCons (eN 3) (vCons (eN 4) vNil)) vNil) (lCons (eCall (F_l_hues C) [0] (vCons (eN 4) vNil) vNil) lNil))) r2 = .nx (frA n e (.own (jarO a2 b2 c2)) (.own (.lst K)) T c6 c10 c11 c5 (.own (netO C n (trs e n)))) := q3
  let r6 := frA n e (.own (jarO a2 b2 c2)) (.own (.lst K)) T c6 c10 c11 (.own (.lst (toldL n (trs e n)))) (.val (netD C n (trs e n)))
  have rg := range1_ok 3 n g.h9 r6 rfl
  obtain ⟨ic', DU', jc', lp⟩ := lb3_loop C n g.h9 e he (.own (jarO a2 b2 c2)) (.own (.lst K)) T (.val (.tup ((trs e n).map rT))) (.own (.lst (toldL n (trs e n)))) (.val (.str (textOf n (trs e n)))) (List.range n) c6 c10 c11 fun i hi => List.mem_range.mp hi
  let r7 : Rho := [.own (jarO a2 b2 c2), .own (.lst K), T, .val (.int n), .val (.tup ((trs e n).map rT)), .own (.lst (toldL n (trs e n))), ic', .val (netD C n (trs e n)), .val (.str (textOf n (trs e n))), .val (.dT ((trs e n).foldl put2 [])), DU', jc', .un, .un]
  have q7 : sFor (iRange1 (oN 3)) (gN 6) (lb3_l_right C) r6 = .nx r7 := by
    rw [a_sFor, rg, s_ok]
    exact lp
  have q8 : sDrop (eApp 1 (eN 7)) r7 = .nx (r7.set 1 (.own (.lst (K ++ [netD C n (trs e n)])))) := by
    have : K.length < sizeLine := by omega
    simp [r7, a_sDrop, a_eApp, a_eN, b_ok, this, s_ok, Rv.data]
  refine ⟨n, e, a2, b2, c2, .val (.int n), .val (.tup ((trs e n).map rT)), .own (.lst (toldL n (trs e n))), ic', .val (netD C n (trs e n)), .val (.str (textOf n (trs e n))), .val (.dT ((trs e n).foldl put2 [])), DU', jc', g, ?_⟩
  show lb4_l_right C r0 = _
  unfold lb4_l_right
  rw [a_sCons, q1, t_nx, a_sCons, q2, t_nx, a_sCons, q3', t_nx, a_sCons, q4, t_nx, a_sCons, q5, t_nx, a_sCons, q6, t_nx, a_sCons, q7, t_nx, q8]
  rfl
/-- the nets that are kept -/
def Kept (C : Addr) (K : List D) : Prop := ∀ d ∈ K, ∃ n e, Good C n e ∧ d = netD C n (trs e n)
theorem lb4_loop (C : Addr) : ∀ (l : List D) (K : List D) (a b c : Int) (T c3 c4 c5 c6 c7 c8 c9 c10 c11 : Cell), Kept C K → K.length + l.length ≤ 100 → ∃ (K' : List D) (a' b' c' : Int) (T' x3 x4 x5 x6 x7 x8 x9 x10 x11 : Cell), Kept C K' ∧ K'.length = K.length + l.length ∧ forL (gN 2) (lb4_l_right C) l [.own (jarO a b c), .own (.lst K), T, c3, c4, c5, c6, c7, c8, c9, c10, c11, .un, .un] = .nx [.own (jarO a' b' c'), .own (.lst K'), T', x3, x4, x5, x6, x7, x8, x9, x10, x11, .un, .un]
  | [], K, a, b, c, T, c3, c4, c5, c6, c7, c8, c9, c10, c11, k, _ => ⟨K, a, b, c, T, c3, c4, c5, c6, c7, c8, c9, c10, c11, k, by simp, rfl⟩
  | d :: l, K, a, b, c, T, c3, c4, c5, c6, c7, c8, c9, c10, c11, k, h => by
    rw [List.length_cons] at h
    obtain ⟨n, e, a1, b1, c1, x3, x4, x5, x6, x7, x8, x9, x10, x11, g, one⟩ := lb4_ok C a b c K (by omega) (.val d) c3 c4 c5 c6 c7 c8 c9 c10 c11
    obtain ⟨K', a', b', c', T', y3, y4, y5, y6, y7, y8, y9, y10, y11, k', hl, ih⟩ := lb4_loop C l (K ++ [netD C n (trs e n)]) a1 b1 c1 (.val d) x3 x4 x5 x6 x7 x8 x9 x10 x11 (fun z hz => by
      rcases List.mem_append.mp hz with hz | hz
      · exact k z hz
      · simp only [List.mem_cons, List.not_mem_nil, or_false] at hz
        exact ⟨n, e, g, hz⟩) (by rw [List.length_append, List.length_singleton]; omega)
    refine ⟨K', a', b', c', T', y3, y4, y5, y6, y7, y8, y9, y10, y11, k', by rw [hl, List.length_append, List.length_singleton, List.length_cons]; omega, ?_⟩
    exact (forL_nx (r1 := [.own (jarO a b c), .own (.lst K), .val d, c3, c4, c5, c6, c7, c8, c9, c10, c11, .un, .un]) rfl one).trans ih
/-! ### equal exactly if the texts are -/
theorem rT_inj {t u : Tr3} (h : rT t = rT u) : t = u := by
  obtain ⟨a, b, c⟩ := t
  obtain ⟨d, e, f⟩ := u
  unfold rT rD sg at h
  simp only [D.tup.injEq, List.cons.injEq, D.int.injEq, D.str.injEq, Str.mk.injEq] at h
  obtain ⟨h1, h2, h3, _⟩ := h
  have h3 : c = f := by simpa using h3
  have h1 : a = d := by omega
  have h2 : b = e := by omega
  rw [h1, h2, h3]
theorem map_rT_inj : ∀ ts us : List Tr3, ts.map rT = us.map rT → ts = us
  | [], [], _ => rfl
  | [], _ :: _, h => nomatch h
  | _ :: _, [], h => nomatch h
  | t :: ts, u :: us, h => by
    rw [List.map_cons, List.map_cons, List.cons.injEq] at h
    rw [rT_inj h.1, map_rT_inj ts us h.2]
theorem same_text {C : Addr} {n m : Nat} {e f : Nat → Nat → Option Nat} (g : Good C n e) (g' : Good C m f) : textOf n (trs e n) = textOf m (trs f m) ↔ n = m ∧ trs e n = trs f m := by
  constructor
  · intro h
    have r1 := g.read
    have r2 := g'.read
    rw [h, r2] at r1
    have r1 : netO C m (trs f m) = netO C n (trs e n) := by injection r1
    unfold netO netL at r1
    simp only [Own.ins.injEq, List.cons.injEq, Prod.mk.injEq, D.int.injEq, D.tup.injEq, true_and] at r1
    obtain ⟨h1, h2, _⟩ := r1
    have h1 : m = n := by omega
    refine ⟨h1.symm, ?_⟩
    exact (map_rT_inj _ _ h2).symm
  · rintro ⟨h1, h2⟩
    rw [h2, h1]
theorem ce5_ok (C : Addr) (d d' : D) (k : ∃ n e, Good C n e ∧ d = netD C n (trs e n)) (k' : ∃ n e, Good C n e ∧ d' = netD C n (trs e n)) (J K T c3 c4 c5 c6 c7 c8 c9 c10 c11 : Cell) : ce5_l_right C [J, K, T, c3, c4, c5, c6, c7, c8, c9, c10, c11, .val d, .val d'] = .ok (.val (.bl true)) [J, K, T, c3, c4, c5, c6, c7, c8, c9, c10, c11, .val d, .val d'] := by
  obtain ⟨n, e, g, rfl⟩ := k
  obtain ⟨m, f, g', rfl⟩ := k'
  let r : Rho := [J, K, T, c3, c4, c5, c6, c7, c8, c9, c10, c11, .val (netD C n (trs e n)), .val (netD C m (trs f m))]
  have o12 : oN 12 r = .ok (.dat (netD C n (trs e n))) r := rfl
  have o13 : oN 13 r = .ok (.dat (netD C m (trs f m))) r := rfl
  have hn : n < 10 := by have := g.h9; omega
  have hm : m < 10 := by have := g'.h9; omega
  have arg : eqArg C (netD C m (trs f m)) = true := by
    show decide (C = C) = true
    exact decide_eq_true rfl
  have w := own2_at (f := dEq) (neg := false) (feq_ok C n m (trs e n) (trs f m) (fun t ht => (g.ok t ht).2.2) (fun t ht => (g'.ok t ht).2.2)) arg
  have s1 := own1_at (f := dStr) (ok := isStrD) (fst_ok C n hn (trs e n) (fun t ht => ⟨(g.ok2 t ht).1, (g.ok2 t ht).2.1⟩) g.len) rfl
  have s2 := own1_at (f := dStr) (ok := isStrD) (fst_ok C m hm (trs f m) (fun t ht => ⟨(g'.ok2 t ht).1, (g'.ok2 t ht).2.1⟩) g'.len) rfl
  have p1 : eCB (dOr (dOwn1 C (F_NetD_strD C) isStrD) dStr) (aCons (oN 12) aNil) r = .ok (.val (.str (textOf n (trs e n)))) r := by
    rw [a_eCB, a_aCons, o12, b_ok, k_a, a_aNil, b_ok, b_ok]
    simp only [rdAll, a_rd, s1]
  have p2 : eCB (dOr (dOwn1 C (F_NetD_strD C) isStrD) dStr) (aCons (oN 13) aNil) r = .ok (.val (.str (textOf m (trs f m)))) r := by
    rw [a_eCB, a_aCons, o13, b_ok, k_a, a_aNil, b_ok, b_ok]
    simp only [rdAll, a_rd, s2]
  have q := eq_sgn (text_sgn n hn (trs e n) g.ok2) (text_sgn m hm (trs f m) g'.ok2)
  have x : (((decide (n = m) && decide (trs e n = trs f m)) != false) : Bool) = decide (textOf n (trs e n) = textOf m (trs f m)) := by
    by_cases h : n = m ∧ trs e n = trs f m
    · rw [decide_eq_true ((same_text g g').mpr h), decide_eq_true h.1, decide_eq_true h.2]; rfl
    · rw [decide_eq_false (mt (same_text g g').mp h)]
      have : (decide (n = m) && decide (trs e n = trs f m)) = false := by
        rw [← Bool.decide_and]
        exact decide_eq_false h
      rw [this]; rfl
  have bb : ∀ b : Bool, dEq (.bl b) (.bl b) = some (.val (.bl true)) := by
    intro b
    cases b <;> rfl
  show ce5_l_right C r = .ok (.val (.bl true)) r
  unfold ce5_l_right
  rw [a_e2, a_oE, a_e2, o12, b_ok, k_e2, o13, b_ok, a_two]
  simp only [a_rd, w]
  rw [b_ok, b_ok, k_e2, a_oE, a_e2, a_oE, p1, b_ok, b_ok, k_e2, a_oE, p2, b_ok, b_ok, a_two]
  simp only [a_rd, Rv.data, q]
  rw [b_ok, b_ok, a_two]
  simp only [a_rd, Rv.data, x, bb]
theorem ce5_loop (C : Addr) (d : D) (k : ∃ n e, Good C n e ∧ d = netD C n (trs e n)) (J K T c3 c4 c5 c6 c7 c8 c9 c10 c11 : Cell) : ∀ l : List D, Kept C l → lcL (gN 13) tT (ce5_l_right C) [13] l [J, K, T, c3, c4, c5, c6, c7, c8, c9, c10, c11, .val d, .un] = .ok (List.replicate l.length (.bl true)) [J, K, T, c3, c4, c5, c6, c7, c8, c9, c10, c11, .val d, .un]
  | [], _ => rfl
  | x :: l, h => by
    have ih := ce5_loop C d k J K T c3 c4 c5 c6 c7 c8 c9 c10 c11 l fun z hz => h z (List.mem_cons_of_mem _ hz)
    rw [List.length_cons, List.replicate_succ]
    exact lcL_yes (r1 := [J, K, T, c3, c4, c5, c6, c7, c8, c9, c10, c11, .val d, .val x]) rfl rfl (ce5_ok C d x k (h x List.mem_cons_self) J K T c3 c4 c5 c6 c7 c8 c9 c10 c11) ih
theorem lb6_ok (C : Addr) (d : D) (k : ∃ n e, Good C n e ∧ d = netD C n (trs e n)) (K : List D) (hK : Kept C K) (h5 : K.length = 5) (J T c3 c4 c5 c6 c7 c8 c9 c10 c11 : Cell) : lb6_l_right C [J, .val (.lst K), T, c3, c4, c5, c6, c7, c8, c9, c10, c11, .val d, .un] = .nx [J, .val (.lst K), T, c3, c4, c5, c6, c7, c8, c9, c10, c11, .val d, .un] := by
  have hsz := sizeL
  let r : Rho := [J, .val (.lst K), T, c3, c4, c5, c6, c7, c8, c9, c10, c11, .val d, .un]
  have it : iSeq (eN 1) r = .ok K r := rfl
  have comp := comp_ok (g := gN 13) (t := tT) (ev := ce5_l_right C) (vs := [13]) it (by omega) (ce5_loop C d k J (.val (.lst K)) T c3 c4 c5 c6 c7 c8 c9 c10 c11 K hK)
  have res : restore r [J, .val (.lst K), T, c3, c4, c5, c6, c7, c8, c9, c10, c11, .val d, .un] [13] = r := rfl
  rw [res, h5] at comp
  have s1 : (1 : Nat) ≤ sizeLine := by omega
  have s5 : (5 : Nat) ≤ sizeLine := by omega
  have mu : dMul (.lst [.bl true]) (.int 5) = some (.new (.lst (List.replicate 5 (.bl true)))) := by
    show (if (5 : Int).natAbs ≤ 100000 ∧ [D.bl true].length * (5 : Int).toNat ≤ sizeLine then some (Rv.new (.lst (List.replicate (5 : Int).toNat [D.bl true]).flatten)) else none) = _
    rw [if_pos ⟨by decide, s5⟩]
    rfl
  have l2 : e2 dMul (oE (eLst (vCons (eC (.bl true)) vNil))) (oC (.int 5)) r = .ok (.new (.lst (List.replicate 5 (.bl true)))) r := by
    have l3 : eLst (vCons (eC (.bl true)) vNil) r = .ok (.new (.lst [.bl true])) r := by
      rw [a_eLst, a_vCons, a_eC, b_ok, k_v, a_vNil, b_ok, b_ok, if_pos (show ([_] : List D).length ≤ sizeLine from s1)]
      rfl
    rw [a_e2, a_oE, l3, b_ok, b_ok, k_e2, a_oC, b_ok, a_two]
    simp only [a_rd, Rv.data, Own.data, mu]
  have ne : dNe (.lst (List.replicate 5 (.bl true))) (.lst (List.replicate 5 (.bl true))) = some (.val (.bl false)) := by
    simp [dNe, dEqB, toPy, toPy.toPyAll, List.replicate, SeqAt.shaped, PyData.canLay0, PyData.canLayAll0, PyData.depth, PyData.depthAll, PyData.eqv, PyData.eqvAll]
  show lb6_l_right C r = .nx r
  unfold lb6_l_right
  rw [a_sIf, a_tv, a_e2, a_oE, comp, b_ok, b_ok, k_e2, a_oE, l2, b_ok, b_ok, a_two]
  simp only [a_rd, Rv.data, Own.data, ne]
  rw [b_ok]
  dsimp only
  rw [s_ok, k_sif0, a_sNil]
theorem lb6_loop (C : Addr) (K : List D) (hK : Kept C K) (h5 : K.length = 5) (J T c3 c4 c5 c6 c7 c8 c9 c10 c11 : Cell) : ∀ (l : List D) (x : Cell), Kept C l → ∃ x', forL (gN 12) (lb6_l_right C) l [J, .val (.lst K), T, c3, c4, c5, c6, c7, c8, c9, c10, c11, x, .un] = .nx [J, .val (.lst K), T, c3, c4, c5, c6, c7, c8, c9, c10, c11, x', .un]
  | [], x, _ => ⟨x, rfl⟩
  | d :: l, x, h => by
    obtain ⟨x', ih⟩ := lb6_loop C K hK h5 J T c3 c4 c5 c6 c7 c8 c9 c10 c11 l (.val d) fun z hz => h z (List.mem_cons_of_mem _ hz)
    exact ⟨x', (forL_nx (r1 := [J, .val (.lst K), T, c3, c4, c5, c6, c7, c8, c9, c10, c11, .val d, .un]) rfl (lb6_ok C d (h d List.mem_cons_self) K hK h5 J T c3 c4 c5 c6 c7 c8 c9 c10 c11)).trans ih⟩
theorem right_ok (C : Addr) (a b c : Int) : (F_l_right C (jarO a b c) []).1 = .val (.bl true) := by
  have hsz := sizeL
  obtain ⟨K, a', b', c', T, x3, x4, x5, x6, x7, x8, x9, x10, x11, hK, h5, l1⟩ := lb4_loop C (rangeD 0 5) [] a b c .un .un .un .un .un .un .un .un .un .un (fun d hd => nomatch hd) (by decide)
  have h5 : K.length = 5 := h5
  obtain ⟨x', l2⟩ := lb6_loop C K hK h5 (.own (jarO a' b' c')) T x3 x4 x5 x6 x7 x8 x9 x10 x11 K .un hK
  have s0 : startM 14 (jarO a b c) [] = [.own (jarO a b c), .un, .un, .un, .un, .un, .un, .un, .un, .un, .un, .un, .un, .un] := rfl
  have q1 : sSet 1 (eLst vNil) [.own (jarO a b c), .un, .un, .un, .un, .un, .un, .un, .un, .un, .un, .un, .un, .un] = .nx [.own (jarO a b c), .own (.lst []), .un, .un, .un, .un, .un, .un, .un, .un, .un, .un, .un, .un] := by
    rw [a_sSet, a_eLst, a_vNil, b_ok, if_pos (show ([] : List D).length ≤ sizeLine from Nat.zero_le _), s_ok]
    rfl
  have rg : iRange1 (oC (.int 5)) [.own (jarO a b c), .own (.lst []), .un, .un, .un, .un, .un, .un, .un, .un, .un, .un, .un, .un] = .ok (rangeD 0 5) [.own (jarO a b c), .own (.lst []), .un, .un, .un, .un, .un, .un, .un, .un, .un, .un, .un, .un] := by
    have o := okR_le 5 (by omega) (by omega)
    rw [a_iRange1, a_oC, b_ok]
    simp only [a_rd]
    rw [if_pos o]
    rfl
  have it : iSeq (eN 1) [.own (jarO a' b' c'), .own (.lst K), T, x3, x4, x5, x6, x7, x8, x9, x10, x11, .un, .un] = .ok K [.own (jarO a' b' c'), .val (.lst K), T, x3, x4, x5, x6, x7, x8, x9, x10, x11, .un, .un] := rfl
  unfold F_l_right runM
  rw [s0]
  unfold sv_l_right
  rw [a_sCons, q1, t_nx, a_sCons, a_sFor, rg, s_ok, l1, t_nx, a_sCons, a_sFor, it, s_ok, l2, t_nx, a_sRet, a_eC, s_ok]
  rfl
end Mp
set_option Elab.async false
set_option linter.all false
namespace Mp
open PySem PySem.Spec PyProof.Rows L2 Evl
theorem law_holds (C : Addr) (ns : List Int) (h : ns.length ≤ 63) : F_law C [.scr ns] = .val (.bl true) := law_of C ns h (right_ok C)
end Mp
set_option Elab.async false
set_option linter.all false
set_option maxRecDepth 100000
namespace Mp
open PySem PySem.Spec PyProof.Rows L2 Evl
theorem all_mk {l : PySem.W.OpenLaw} {w : World} {K : PySem.W.Frag} {h : Heap} {mg : Str → Option Value} {fa aNet a_l_dip a_l_one_of a_l_roads a_l_hues a_l_text a_is_integer a_is_integer_from a_is_size a_is_place a_is_hue a_is_road a_first_wrong_road a_NetD_initD a_NetD_reprD a_NetD_strD a_NetD_lenD a_Net_roads p_Net_roads a_Net_size p_Net_size a_size_in a_road_in a_Net_read p_Net_read a_NetD_eqD a_NetD_boolD a_need_place a_Net_roads_at a_pair_of a_Net_hue a_l_right a_l_jar a_law : Addr} {oc_l_dip kV_l_dip dc_l_dip pm_l_dip cd_l_dip ct_l_dip oc_l_one_of kV_l_one_of dc_l_one_of pm_l_one_of cd_l_one_of ct_l_one_of oc_l_roads kV_l_roads dc_l_roads pm_l_roads cd_l_roads ct_l_roads oc_l_hues kV_l_hues dc_l_hues pm_l_hues cd_l_hues ct_l_hues oc_l_text kV_l_text dc_l_text pm_l_text cd_l_text ct_l_text oc_is_integer kV_is_integer dc_is_integer pm_is_integer cd_is_integer ct_is_integer oc_is_integer_from kV_is_integer_from dc_is_integer_from pm_is_integer_from cd_is_integer_from ct_is_integer_from oc_is_size kV_is_size dc_is_size pm_is_size cd_is_size ct_is_size oc_is_place kV_is_place dc_is_place pm_is_place cd_is_place ct_is_place oc_is_hue kV_is_hue dc_is_hue pm_is_hue cd_is_hue ct_is_hue oc_is_road kV_is_road dc_is_road pm_is_road cd_is_road ct_is_road oc_first_wrong_road kV_first_wrong_road dc_first_wrong_road pm_first_wrong_road cd_first_wrong_road ct_first_wrong_road oc_NetD_initD kV_NetD_initD dc_NetD_initD pm_NetD_initD cd_NetD_initD ct_NetD_initD oc_NetD_reprD kV_NetD_reprD dc_NetD_reprD pm_NetD_reprD cd_NetD_reprD ct_NetD_reprD oc_NetD_strD kV_NetD_strD dc_NetD_strD pm_NetD_strD cd_NetD_strD ct_NetD_strD oc_NetD_lenD kV_NetD_lenD dc_NetD_lenD pm_NetD_lenD cd_NetD_lenD ct_NetD_lenD oc_Net_roads kV_Net_roads dc_Net_roads pm_Net_roads cd_Net_roads ct_Net_roads oc_Net_size kV_Net_size dc_Net_size pm_Net_size cd_Net_size ct_Net_size oc_size_in kV_size_in dc_size_in pm_size_in cd_size_in ct_size_in oc_road_in kV_road_in dc_road_in pm_road_in cd_road_in ct_road_in oc_Net_read kV_Net_read dc_Net_read pm_Net_read cd_Net_read ct_Net_read oc_NetD_eqD kV_NetD_eqD dc_NetD_eqD pm_NetD_eqD cd_NetD_eqD ct_NetD_eqD oc_NetD_boolD kV_NetD_boolD dc_NetD_boolD pm_NetD_boolD cd_NetD_boolD ct_NetD_boolD oc_need_place kV_need_place dc_need_place pm_need_place cd_need_place ct_need_place oc_Net_roads_at kV_Net_roads_at dc_Net_roads_at pm_Net_roads_at cd_Net_roads_at ct_Net_roads_at oc_pair_of kV_pair_of dc_pair_of pm_pair_of cd_pair_of ct_pair_of oc_Net_hue kV_Net_hue dc_Net_hue pm_Net_hue cd_Net_hue ct_Net_hue oc_l_right kV_l_right dc_l_right pm_l_right cd_l_right ct_l_right oc_l_jar kV_l_jar dc_l_jar pm_l_jar cd_l_jar ct_l_jar oc_law kV_law dc_law pm_law cd_law ct_law : Value} {od_l_dip an_l_dip od_l_one_of an_l_one_of od_l_roads an_l_roads od_l_hues an_l_hues od_l_text an_l_text od_is_integer an_is_integer od_is_integer_from an_is_integer_from od_is_size an_is_size od_is_place an_is_place od_is_hue an_is_hue od_is_road an_is_road od_first_wrong_road an_first_wrong_road od_NetD_initD an_NetD_initD od_NetD_reprD an_NetD_reprD od_NetD_strD an_NetD_strD od_NetD_lenD an_NetD_lenD od_Net_roads an_Net_roads od_Net_size an_Net_size od_size_in an_size_in od_road_in an_road_in od_Net_read an_Net_read od_NetD_eqD an_NetD_eqD od_NetD_boolD an_NetD_boolD od_need_place an_need_place od_Net_roads_at an_Net_roads_at od_pair_of an_pair_of od_Net_hue an_Net_hue od_l_right an_l_right od_l_jar an_l_jar od_law an_law : Option Addr} {sl_l_dip sl_l_one_of sl_l_roads sl_l_hues sl_l_text sl_is_integer sl_is_integer_from sl_is_size sl_is_place sl_is_hue sl_is_road sl_first_wrong_road sl_NetD_initD sl_NetD_reprD sl_NetD_strD sl_NetD_lenD sl_Net_roads sl_Net_size sl_size_in sl_road_in sl_Net_read sl_NetD_eqD sl_NetD_boolD sl_need_place sl_Net_roads_at sl_pair_of sl_Net_hue sl_l_right sl_l_jar sl_law : Array (Option Value)} {tk_DIGITS tk_HUES tk_MOST_PLACES : Tok} {rs_Net_roads rs_Net_size rs_Net_read : List Value}
    (X : K.In h) (G : h.Ns mainGlobals mg) (hfa : mg "law" = some (.ref fa))
    (aN : PySem.W.nsIn K mainGlobals "Net" = some (some (.ref aNet)))
    (g_l_dip : PySem.W.nsIn K mainGlobals "_law_dip" = some (some (.ref a_l_dip)))
    (l_l_dip : K.lookup a_l_dip = some ⟨oc_l_dip, od_l_dip, .func (PySem.W.fnOf "_law_dip" "_law_dip" (defArgs st_l_dip) (defBody st_l_dip) (defScope st_l_dip) .none kV_l_dip dc_l_dip pm_l_dip an_l_dip cd_l_dip ct_l_dip), sl_l_dip⟩)
    (c_l_dip : PySem.W.codeIn K cd_l_dip "_law_dip" = true)
    (k_l_dip : PySem.W.keepIn K (.ref a_l_dip) = true)
    (g_l_one_of : PySem.W.nsIn K mainGlobals "_law_one_of" = some (some (.ref a_l_one_of)))
    (l_l_one_of : K.lookup a_l_one_of = some ⟨oc_l_one_of, od_l_one_of, .func (PySem.W.fnOf "_law_one_of" "_law_one_of" (defArgs st_l_one_of) (defBody st_l_one_of) (defScope st_l_one_of) .none kV_l_one_of dc_l_one_of pm_l_one_of an_l_one_of cd_l_one_of ct_l_one_of), sl_l_one_of⟩)
    (c_l_one_of : PySem.W.codeIn K cd_l_one_of "_law_one_of" = true)
    (k_l_one_of : PySem.W.keepIn K (.ref a_l_one_of) = true)
    (g_l_roads : PySem.W.nsIn K mainGlobals "_law_roads" = some (some (.ref a_l_roads)))
    (l_l_roads : K.lookup a_l_roads = some ⟨oc_l_roads, od_l_roads, .func (PySem.W.fnOf "_law_roads" "_law_roads" (defArgs st_l_roads) (defBody st_l_roads) (defScope st_l_roads) .none kV_l_roads dc_l_roads pm_l_roads an_l_roads cd_l_roads ct_l_roads), sl_l_roads⟩)
    (c_l_roads : PySem.W.codeIn K cd_l_roads "_law_roads" = true)
    (k_l_roads : PySem.W.keepIn K (.ref a_l_roads) = true)
    (g_l_hues : PySem.W.nsIn K mainGlobals "_law_hues" = some (some (.ref a_l_hues)))
    (l_l_hues : K.lookup a_l_hues = some ⟨oc_l_hues, od_l_hues, .func (PySem.W.fnOf "_law_hues" "_law_hues" (defArgs st_l_hues) (defBody st_l_hues) (defScope st_l_hues) .none kV_l_hues dc_l_hues pm_l_hues an_l_hues cd_l_hues ct_l_hues), sl_l_hues⟩)
    (c_l_hues : PySem.W.codeIn K cd_l_hues "_law_hues" = true)
    (k_l_hues : PySem.W.keepIn K (.ref a_l_hues) = true)
    (g_l_text : PySem.W.nsIn K mainGlobals "_law_text" = some (some (.ref a_l_text)))
    (l_l_text : K.lookup a_l_text = some ⟨oc_l_text, od_l_text, .func (PySem.W.fnOf "_law_text" "_law_text" (defArgs st_l_text) (defBody st_l_text) (defScope st_l_text) .none kV_l_text dc_l_text pm_l_text an_l_text cd_l_text ct_l_text), sl_l_text⟩)
    (c_l_text : PySem.W.codeIn K cd_l_text "_law_text" = true)
    (k_l_text : PySem.W.keepIn K (.ref a_l_text) = true)
    (g_is_integer : PySem.W.nsIn K mainGlobals "is_integer" = some (some (.ref a_is_integer)))
    (l_is_integer : K.lookup a_is_integer = some ⟨oc_is_integer, od_is_integer, .func (PySem.W.fnOf "is_integer" "is_integer" (defArgs st_is_integer) (defBody st_is_integer) (defScope st_is_integer) .none kV_is_integer dc_is_integer pm_is_integer an_is_integer cd_is_integer ct_is_integer), sl_is_integer⟩)
    (c_is_integer : PySem.W.codeIn K cd_is_integer "is_integer" = true)
    (k_is_integer : PySem.W.keepIn K (.ref a_is_integer) = true)
    (g_is_integer_from : PySem.W.nsIn K mainGlobals "is_integer_from" = some (some (.ref a_is_integer_from)))
    (l_is_integer_from : K.lookup a_is_integer_from = some ⟨oc_is_integer_from, od_is_integer_from, .func (PySem.W.fnOf "is_integer_from" "is_integer_from" (defArgs st_is_integer_from) (defBody st_is_integer_from) (defScope st_is_integer_from) .none kV_is_integer_from dc_is_integer_from pm_is_integer_from an_is_integer_from cd_is_integer_from ct_is_integer_from), sl_is_integer_from⟩)
    (c_is_integer_from : PySem.W.codeIn K cd_is_integer_from "is_integer_from" = true)
    (k_is_integer_from : PySem.W.keepIn K (.ref a_is_integer_from) = true)
    (g_is_size : PySem.W.nsIn K mainGlobals "is_size" = some (some (.ref a_is_size)))
    (l_is_size : K.lookup a_is_size = some ⟨oc_is_size, od_is_size, .func (PySem.W.fnOf "is_size" "is_size" (defArgs st_is_size) (defBody st_is_size) (defScope st_is_size) .none kV_is_size dc_is_size pm_is_size an_is_size cd_is_size ct_is_size), sl_is_size⟩)
    (c_is_size : PySem.W.codeIn K cd_is_size "is_size" = true)
    (k_is_size : PySem.W.keepIn K (.ref a_is_size) = true)
    (g_is_place : PySem.W.nsIn K mainGlobals "is_place" = some (some (.ref a_is_place)))
    (l_is_place : K.lookup a_is_place = some ⟨oc_is_place, od_is_place, .func (PySem.W.fnOf "is_place" "is_place" (defArgs st_is_place) (defBody st_is_place) (defScope st_is_place) .none kV_is_place dc_is_place pm_is_place an_is_place cd_is_place ct_is_place), sl_is_place⟩)
    (c_is_place : PySem.W.codeIn K cd_is_place "is_place" = true)
    (k_is_place : PySem.W.keepIn K (.ref a_is_place) = true)
    (g_is_hue : PySem.W.nsIn K mainGlobals "is_hue" = some (some (.ref a_is_hue)))
    (l_is_hue : K.lookup a_is_hue = some ⟨oc_is_hue, od_is_hue, .func (PySem.W.fnOf "is_hue" "is_hue" (defArgs st_is_hue) (defBody st_is_hue) (defScope st_is_hue) .none kV_is_hue dc_is_hue pm_is_hue an_is_hue cd_is_hue ct_is_hue), sl_is_hue⟩)
    (c_is_hue : PySem.W.codeIn K cd_is_hue "is_hue" = true)
    (k_is_hue : PySem.W.keepIn K (.ref a_is_hue) = true)
    (g_is_road : PySem.W.nsIn K mainGlobals "is_road" = some (some (.ref a_is_road)))
    (l_is_road : K.lookup a_is_road = some ⟨oc_is_road, od_is_road, .func (PySem.W.fnOf "is_road" "is_road" (defArgs st_is_road) (defBody st_is_road) (defScope st_is_road) .none kV_is_road dc_is_road pm_is_road an_is_road cd_is_road ct_is_road), sl_is_road⟩)
    (c_is_road : PySem.W.codeIn K cd_is_road "is_road" = true)
    (k_is_road : PySem.W.keepIn K (.ref a_is_road) = true)
    (g_first_wrong_road : PySem.W.nsIn K mainGlobals "first_wrong_road" = some (some (.ref a_first_wrong_road)))
    (l_first_wrong_road : K.lookup a_first_wrong_road = some ⟨oc_first_wrong_road, od_first_wrong_road, .func (PySem.W.fnOf "first_wrong_road" "first_wrong_road" (defArgs st_first_wrong_road) (defBody st_first_wrong_road) (defScope st_first_wrong_road) .none kV_first_wrong_road dc_first_wrong_road pm_first_wrong_road an_first_wrong_road cd_first_wrong_road ct_first_wrong_road), sl_first_wrong_road⟩)
    (c_first_wrong_road : PySem.W.codeIn K cd_first_wrong_road "first_wrong_road" = true)
    (k_first_wrong_road : PySem.W.keepIn K (.ref a_first_wrong_road) = true)
    (at_NetD_initD : PySem.W.findIn K (.ref aNet) "__init__" = some (some (.ref a_NetD_initD)))
    (fn_NetD_initD : PySem.W.isFn K (.ref a_NetD_initD) = true)
    (l_NetD_initD : K.lookup a_NetD_initD = some ⟨oc_NetD_initD, od_NetD_initD, .func (PySem.W.fnOf "__init__" "Net.__init__" (defArgs st_NetD_initD) (defBody st_NetD_initD) (defScope st_NetD_initD) .none kV_NetD_initD dc_NetD_initD pm_NetD_initD an_NetD_initD cd_NetD_initD ct_NetD_initD), sl_NetD_initD⟩)
    (c_NetD_initD : PySem.W.codeIn K cd_NetD_initD "Net.__init__" = true)
    (k_NetD_initD : PySem.W.keepIn K (.ref a_NetD_initD) = true)
    (at_NetD_reprD : PySem.W.findIn K (.ref aNet) "__repr__" = some (some (.ref a_NetD_reprD)))
    (fn_NetD_reprD : PySem.W.isFn K (.ref a_NetD_reprD) = true)
    (l_NetD_reprD : K.lookup a_NetD_reprD = some ⟨oc_NetD_reprD, od_NetD_reprD, .func (PySem.W.fnOf "__repr__" "Net.__repr__" (defArgs st_NetD_reprD) (defBody st_NetD_reprD) (defScope st_NetD_reprD) .none kV_NetD_reprD dc_NetD_reprD pm_NetD_reprD an_NetD_reprD cd_NetD_reprD ct_NetD_reprD), sl_NetD_reprD⟩)
    (c_NetD_reprD : PySem.W.codeIn K cd_NetD_reprD "Net.__repr__" = true)
    (k_NetD_reprD : PySem.W.keepIn K (.ref a_NetD_reprD) = true)
    (at_NetD_strD : PySem.W.findIn K (.ref aNet) "__str__" = some (some (.ref a_NetD_strD)))
    (fn_NetD_strD : PySem.W.isFn K (.ref a_NetD_strD) = true)
    (l_NetD_strD : K.lookup a_NetD_strD = some ⟨oc_NetD_strD, od_NetD_strD, .func (PySem.W.fnOf "__str__" "Net.__str__" (defArgs st_NetD_strD) (defBody st_NetD_strD) (defScope st_NetD_strD) .none kV_NetD_strD dc_NetD_strD pm_NetD_strD an_NetD_strD cd_NetD_strD ct_NetD_strD), sl_NetD_strD⟩)
    (c_NetD_strD : PySem.W.codeIn K cd_NetD_strD "Net.__str__" = true)
    (k_NetD_strD : PySem.W.keepIn K (.ref a_NetD_strD) = true)
    (at_NetD_lenD : PySem.W.findIn K (.ref aNet) "__len__" = some (some (.ref a_NetD_lenD)))
    (fn_NetD_lenD : PySem.W.isFn K (.ref a_NetD_lenD) = true)
    (l_NetD_lenD : K.lookup a_NetD_lenD = some ⟨oc_NetD_lenD, od_NetD_lenD, .func (PySem.W.fnOf "__len__" "Net.__len__" (defArgs st_NetD_lenD) (defBody st_NetD_lenD) (defScope st_NetD_lenD) .none kV_NetD_lenD dc_NetD_lenD pm_NetD_lenD an_NetD_lenD cd_NetD_lenD ct_NetD_lenD), sl_NetD_lenD⟩)
    (c_NetD_lenD : PySem.W.codeIn K cd_NetD_lenD "Net.__len__" = true)
    (k_NetD_lenD : PySem.W.keepIn K (.ref a_NetD_lenD) = true)
    (pa_Net_roads : PySem.W.findIn K (.ref aNet) "roads" = some (some (.ref p_Net_roads)))
    (pg_Net_roads : PySem.W.specialIn K (.ref p_Net_roads) "__get__" = some (some (.builtin "property.__get__")))
    (pt_Net_roads : PySem.W.takesIn K (.ref p_Net_roads) = some true)
    (pr_Net_roads : PySem.W.recIn K p_Net_roads "property" = some (.ref a_Net_roads :: rs_Net_roads))
    (l_Net_roads : K.lookup a_Net_roads = some ⟨oc_Net_roads, od_Net_roads, .func (PySem.W.fnOf "roads" "Net.roads" (defArgs st_Net_roads) (defBody st_Net_roads) (defScope st_Net_roads) .none kV_Net_roads dc_Net_roads pm_Net_roads an_Net_roads cd_Net_roads ct_Net_roads), sl_Net_roads⟩)
    (c_Net_roads : PySem.W.codeIn K cd_Net_roads "Net.roads" = true)
    (k_Net_roads : PySem.W.keepIn K (.ref a_Net_roads) = true)
    (pa_Net_size : PySem.W.findIn K (.ref aNet) "size" = some (some (.ref p_Net_size)))
    (pg_Net_size : PySem.W.specialIn K (.ref p_Net_size) "__get__" = some (some (.builtin "property.__get__")))
    (pt_Net_size : PySem.W.takesIn K (.ref p_Net_size) = some true)
    (pr_Net_size : PySem.W.recIn K p_Net_size "property" = some (.ref a_Net_size :: rs_Net_size))
    (l_Net_size : K.lookup a_Net_size = some ⟨oc_Net_size, od_Net_size, .func (PySem.W.fnOf "size" "Net.size" (defArgs st_Net_size) (defBody st_Net_size) (defScope st_Net_size) .none kV_Net_size dc_Net_size pm_Net_size an_Net_size cd_Net_size ct_Net_size), sl_Net_size⟩)
    (c_Net_size : PySem.W.codeIn K cd_Net_size "Net.size" = true)
    (k_Net_size : PySem.W.keepIn K (.ref a_Net_size) = true)
    (g_size_in : PySem.W.nsIn K mainGlobals "size_in" = some (some (.ref a_size_in)))
    (l_size_in : K.lookup a_size_in = some ⟨oc_size_in, od_size_in, .func (PySem.W.fnOf "size_in" "size_in" (defArgs st_size_in) (defBody st_size_in) (defScope st_size_in) .none kV_size_in dc_size_in pm_size_in an_size_in cd_size_in ct_size_in), sl_size_in⟩)
    (c_size_in : PySem.W.codeIn K cd_size_in "size_in" = true)
    (k_size_in : PySem.W.keepIn K (.ref a_size_in) = true)
    (g_road_in : PySem.W.nsIn K mainGlobals "road_in" = some (some (.ref a_road_in)))
    (l_road_in : K.lookup a_road_in = some ⟨oc_road_in, od_road_in, .func (PySem.W.fnOf "road_in" "road_in" (defArgs st_road_in) (defBody st_road_in) (defScope st_road_in) .none kV_road_in dc_road_in pm_road_in an_road_in cd_road_in ct_road_in), sl_road_in⟩)
    (c_road_in : PySem.W.codeIn K cd_road_in "road_in" = true)
    (k_road_in : PySem.W.keepIn K (.ref a_road_in) = true)
    (sa_Net_read : PySem.W.findCls K (.ref aNet) (.type "type") "read" = some (.get (.builtin "staticmethod.__get__") (.ref p_Net_read) .none (.ref aNet)))
    (sr_Net_read : PySem.W.recIn K p_Net_read "staticmethod" = some (.ref a_Net_read :: rs_Net_read))
    (l_Net_read : K.lookup a_Net_read = some ⟨oc_Net_read, od_Net_read, .func (PySem.W.fnOf "read" "Net.read" (defArgs st_Net_read) (defBody st_Net_read) (defScope st_Net_read) .none kV_Net_read dc_Net_read pm_Net_read an_Net_read cd_Net_read ct_Net_read), sl_Net_read⟩)
    (c_Net_read : PySem.W.codeIn K cd_Net_read "Net.read" = true)
    (k_Net_read : PySem.W.keepIn K (.ref a_Net_read) = true)
    (at_NetD_eqD : PySem.W.findIn K (.ref aNet) "__eq__" = some (some (.ref a_NetD_eqD)))
    (fn_NetD_eqD : PySem.W.isFn K (.ref a_NetD_eqD) = true)
    (l_NetD_eqD : K.lookup a_NetD_eqD = some ⟨oc_NetD_eqD, od_NetD_eqD, .func (PySem.W.fnOf "__eq__" "Net.__eq__" (defArgs st_NetD_eqD) (defBody st_NetD_eqD) (defScope st_NetD_eqD) .none kV_NetD_eqD dc_NetD_eqD pm_NetD_eqD an_NetD_eqD cd_NetD_eqD ct_NetD_eqD), sl_NetD_eqD⟩)
    (c_NetD_eqD : PySem.W.codeIn K cd_NetD_eqD "Net.__eq__" = true)
    (k_NetD_eqD : PySem.W.keepIn K (.ref a_NetD_eqD) = true)
    (at_NetD_boolD : PySem.W.findIn K (.ref aNet) "__bool__" = some (some (.ref a_NetD_boolD)))
    (fn_NetD_boolD : PySem.W.isFn K (.ref a_NetD_boolD) = true)
    (l_NetD_boolD : K.lookup a_NetD_boolD = some ⟨oc_NetD_boolD, od_NetD_boolD, .func (PySem.W.fnOf "__bool__" "Net.__bool__" (defArgs st_NetD_boolD) (defBody st_NetD_boolD) (defScope st_NetD_boolD) .none kV_NetD_boolD dc_NetD_boolD pm_NetD_boolD an_NetD_boolD cd_NetD_boolD ct_NetD_boolD), sl_NetD_boolD⟩)
    (c_NetD_boolD : PySem.W.codeIn K cd_NetD_boolD "Net.__bool__" = true)
    (k_NetD_boolD : PySem.W.keepIn K (.ref a_NetD_boolD) = true)
    (g_need_place : PySem.W.nsIn K mainGlobals "need_place" = some (some (.ref a_need_place)))
    (l_need_place : K.lookup a_need_place = some ⟨oc_need_place, od_need_place, .func (PySem.W.fnOf "need_place" "need_place" (defArgs st_need_place) (defBody st_need_place) (defScope st_need_place) .none kV_need_place dc_need_place pm_need_place an_need_place cd_need_place ct_need_place), sl_need_place⟩)
    (c_need_place : PySem.W.codeIn K cd_need_place "need_place" = true)
    (k_need_place : PySem.W.keepIn K (.ref a_need_place) = true)
    (at_Net_roads_at : PySem.W.findIn K (.ref aNet) "roads_at" = some (some (.ref a_Net_roads_at)))
    (fn_Net_roads_at : PySem.W.isFn K (.ref a_Net_roads_at) = true)
    (l_Net_roads_at : K.lookup a_Net_roads_at = some ⟨oc_Net_roads_at, od_Net_roads_at, .func (PySem.W.fnOf "roads_at" "Net.roads_at" (defArgs st_Net_roads_at) (defBody st_Net_roads_at) (defScope st_Net_roads_at) .none kV_Net_roads_at dc_Net_roads_at pm_Net_roads_at an_Net_roads_at cd_Net_roads_at ct_Net_roads_at), sl_Net_roads_at⟩)
    (c_Net_roads_at : PySem.W.codeIn K cd_Net_roads_at "Net.roads_at" = true)
    (k_Net_roads_at : PySem.W.keepIn K (.ref a_Net_roads_at) = true)
    (g_pair_of : PySem.W.nsIn K mainGlobals "pair_of" = some (some (.ref a_pair_of)))
    (l_pair_of : K.lookup a_pair_of = some ⟨oc_pair_of, od_pair_of, .func (PySem.W.fnOf "pair_of" "pair_of" (defArgs st_pair_of) (defBody st_pair_of) (defScope st_pair_of) .none kV_pair_of dc_pair_of pm_pair_of an_pair_of cd_pair_of ct_pair_of), sl_pair_of⟩)
    (c_pair_of : PySem.W.codeIn K cd_pair_of "pair_of" = true)
    (k_pair_of : PySem.W.keepIn K (.ref a_pair_of) = true)
    (at_Net_hue : PySem.W.findIn K (.ref aNet) "hue" = some (some (.ref a_Net_hue)))
    (fn_Net_hue : PySem.W.isFn K (.ref a_Net_hue) = true)
    (l_Net_hue : K.lookup a_Net_hue = some ⟨oc_Net_hue, od_Net_hue, .func (PySem.W.fnOf "hue" "Net.hue" (defArgs st_Net_hue) (defBody st_Net_hue) (defScope st_Net_hue) .none kV_Net_hue dc_Net_hue pm_Net_hue an_Net_hue cd_Net_hue ct_Net_hue), sl_Net_hue⟩)
    (c_Net_hue : PySem.W.codeIn K cd_Net_hue "Net.hue" = true)
    (k_Net_hue : PySem.W.keepIn K (.ref a_Net_hue) = true)
    (g_l_right : PySem.W.nsIn K mainGlobals "_law_right" = some (some (.ref a_l_right)))
    (l_l_right : K.lookup a_l_right = some ⟨oc_l_right, od_l_right, .func (PySem.W.fnOf "_law_right" "_law_right" (defArgs st_l_right) (defBody st_l_right) (defScope st_l_right) .none kV_l_right dc_l_right pm_l_right an_l_right cd_l_right ct_l_right), sl_l_right⟩)
    (c_l_right : PySem.W.codeIn K cd_l_right "_law_right" = true)
    (k_l_right : PySem.W.keepIn K (.ref a_l_right) = true)
    (g_l_jar : PySem.W.nsIn K mainGlobals "_law_jar" = some (some (.ref a_l_jar)))
    (l_l_jar : K.lookup a_l_jar = some ⟨oc_l_jar, od_l_jar, .func (PySem.W.fnOf "_law_jar" "_law_jar" (defArgs st_l_jar) (defBody st_l_jar) (defScope st_l_jar) .none kV_l_jar dc_l_jar pm_l_jar an_l_jar cd_l_jar ct_l_jar), sl_l_jar⟩)
    (c_l_jar : PySem.W.codeIn K cd_l_jar "_law_jar" = true)
    (k_l_jar : PySem.W.keepIn K (.ref a_l_jar) = true)
    (g_law : PySem.W.nsIn K mainGlobals "law" = some (some (.ref a_law)))
    (l_law : K.lookup a_law = some ⟨oc_law, od_law, .func (PySem.W.fnOf "law" "law" (defArgs st_law) (defBody st_law) (defScope st_law) .none kV_law dc_law pm_law an_law cd_law ct_law), sl_law⟩)
    (c_law : PySem.W.codeIn K cd_law "law" = true)
    (k_law : PySem.W.keepIn K (.ref a_law) = true)
    (zga : PySem.W.specialIn K (.ref aNet) "__getattribute__" = some (some (.builtin "type.__getattribute__")))
    (zrd : PySem.W.readsIn K aNet (.type "type") = true)
    (zpg : PySem.W.plainGet K aNet Str.empty = true)
    (zhd : PySem.W.hasDictIn K aNet = true)
    (zpo : PySem.W.plainOver K aNet = true)
    (zsa : PySem.W.findIn K (.ref aNet) "__setattr__" = some (some (.builtin "object.__setattr__")))
    (zha : PySem.W.findIn K (.ref aNet) "__class__" = some (some (.builtin "object.__class__")))
    (zhn : PySem.W.specialIn K (.builtin "object.__class__") "__get__" = some (some (.builtin "getset_descriptor.__get__")))
    (zht : PySem.W.takesIn K (.builtin "object.__class__") = some true)
    (zhm : PySem.W.mroIn K aNet (.type "object") = some true)
    (zty : PySem.W.typeIn K (.ref aNet) = some (.type "type"))
    (zmk : PySem.W.makesIn K aNet = true)
    (zkp : PySem.W.keepIn K (.ref aNet) = true)
    (zne : PySem.W.findIn K (.ref aNet) "__ne__" = some (some (.builtin "object.__ne__")))
    (nf_NoneType : PySem.W.notFirst K aNet (.type "NoneType") = true)
    (nf_bool : PySem.W.notFirst K aNet (.type "bool") = true)
    (nf_int : PySem.W.notFirst K aNet (.type "int") = true)
    (nf_str : PySem.W.notFirst K aNet (.type "str") = true)
    (nf_tuple : PySem.W.notFirst K aNet (.type "tuple") = true)
    (nf_list : PySem.W.notFirst K aNet (.type "list") = true)
    (nf_dict : PySem.W.notFirst K aNet (.type "dict") = true)
    (cc_DIGITS : PySem.W.nsIn K mainGlobals "DIGITS" = some (some (.str "0123456789" tk_DIGITS)))
    (cc_HUES : PySem.W.nsIn K mainGlobals "HUES" = some (some (.str "abcdef" tk_HUES)))
    (cc_MOST_PLACES : PySem.W.nsIn K mainGlobals "MOST_PLACES" = some (some (.int 9 tk_MOST_PLACES)))
    (na__hues : PySem.W.findIn K (.ref aNet) "_hues" = some none)
    (na__roads : PySem.W.findIn K (.ref aNet) "_roads" = some none)
    (na__size : PySem.W.findIn K (.ref aNet) "_size" = some none)
    (z_abs : PySem.W.nsIn K mainGlobals "abs" = some none)
    (z_all : PySem.W.nsIn K mainGlobals "all" = some none)
    (z_bool : PySem.W.nsIn K mainGlobals "bool" = some none)
    (z_divmod : PySem.W.nsIn K mainGlobals "divmod" = some none)
    (z_enumerate : PySem.W.nsIn K mainGlobals "enumerate" = some none)
    (z_int : PySem.W.nsIn K mainGlobals "int" = some none)
    (z_isinstance : PySem.W.nsIn K mainGlobals "isinstance" = some none)
    (z_len : PySem.W.nsIn K mainGlobals "len" = some none)
    (z_list : PySem.W.nsIn K mainGlobals "list" = some none)
    (z_max : PySem.W.nsIn K mainGlobals "max" = some none)
    (z_min : PySem.W.nsIn K mainGlobals "min" = some none)
    (z_range : PySem.W.nsIn K mainGlobals "range" = some none)
    (z_repr : PySem.W.nsIn K mainGlobals "repr" = some none)
    (z_str : PySem.W.nsIn K mainGlobals "str" = some none)
    (z_tuple : PySem.W.nsIn K mainGlobals "tuple" = some none) :
    ∃ (fd : FuncData) (F : List D → FO), (∀ (s : Shared) (u : Value), BindsTo s fd ⟨[u], []⟩ [("_law_cells", u)]) ∧ (∀ ns : List Int, ns.length ≤ 63 → F [.scr ns] = .val (.bl true)) ∧ ∀ base : Heap, FnG l.prog w K mg base 25 fa fd ["_law_cells"] (spP K 1 F) := by
  have e := hfa.symm.trans (PySem.W.mg_of X G g_law)
  cases e
  let T : Tp K mg := { aNet := aNet, a_l_dip := a_l_dip, fd_l_dip := PySem.W.fnOf "_law_dip" "_law_dip" (defArgs st_l_dip) (defBody st_l_dip) (defScope st_l_dip) .none kV_l_dip dc_l_dip pm_l_dip an_l_dip cd_l_dip ct_l_dip, F_l_dip := fun_mk l_l_dip c_l_dip k_l_dip, g_l_dip := PySem.W.mg_of X G g_l_dip, a_l_one_of := a_l_one_of, fd_l_one_of := PySem.W.fnOf "_law_one_of" "_law_one_of" (defArgs st_l_one_of) (defBody st_l_one_of) (defScope st_l_one_of) .none kV_l_one_of dc_l_one_of pm_l_one_of an_l_one_of cd_l_one_of ct_l_one_of, F_l_one_of := fun_mk l_l_one_of c_l_one_of k_l_one_of, g_l_one_of := PySem.W.mg_of X G g_l_one_of, a_l_roads := a_l_roads, fd_l_roads := PySem.W.fnOf "_law_roads" "_law_roads" (defArgs st_l_roads) (defBody st_l_roads) (defScope st_l_roads) .none kV_l_roads dc_l_roads pm_l_roads an_l_roads cd_l_roads ct_l_roads, F_l_roads := fun_mk l_l_roads c_l_roads k_l_roads, g_l_roads := PySem.W.mg_of X G g_l_roads, a_l_hues := a_l_hues, fd_l_hues := PySem.W.fnOf "_law_hues" "_law_hues" (defArgs st_l_hues) (defBody st_l_hues) (defScope st_l_hues) .none kV_l_hues dc_l_hues pm_l_hues an_l_hues cd_l_hues ct_l_hues, F_l_hues := fun_mk l_l_hues c_l_hues k_l_hues, g_l_hues := PySem.W.mg_of X G g_l_hues, a_l_text := a_l_text, fd_l_text := PySem.W.fnOf "_law_text" "_law_text" (defArgs st_l_text) (defBody st_l_text) (defScope st_l_text) .none kV_l_text dc_l_text pm_l_text an_l_text cd_l_text ct_l_text, F_l_text := fun_mk l_l_text c_l_text k_l_text, g_l_text := PySem.W.mg_of X G g_l_text, a_is_integer := a_is_integer, fd_is_integer := PySem.W.fnOf "is_integer" "is_integer" (defArgs st_is_integer) (defBody st_is_integer) (defScope st_is_integer) .none kV_is_integer dc_is_integer pm_is_integer an_is_integer cd_is_integer ct_is_integer, F_is_integer := fun_mk l_is_integer c_is_integer k_is_integer, g_is_integer := PySem.W.mg_of X G g_is_integer, a_is_integer_from := a_is_integer_from, fd_is_integer_from := PySem.W.fnOf "is_integer_from" "is_integer_from" (defArgs st_is_integer_from) (defBody st_is_integer_from) (defScope st_is_integer_from) .none kV_is_integer_from dc_is_integer_from pm_is_integer_from an_is_integer_from cd_is_integer_from ct_is_integer_from, F_is_integer_from := fun_mk l_is_integer_from c_is_integer_from k_is_integer_from, g_is_integer_from := PySem.W.mg_of X G g_is_integer_from, a_is_size := a_is_size, fd_is_size := PySem.W.fnOf "is_size" "is_size" (defArgs st_is_size) (defBody st_is_size) (defScope st_is_size) .none kV_is_size dc_is_size pm_is_size an_is_size cd_is_size ct_is_size, F_is_size := fun_mk l_is_size c_is_size k_is_size, g_is_size := PySem.W.mg_of X G g_is_size, a_is_place := a_is_place, fd_is_place := PySem.W.fnOf "is_place" "is_place" (defArgs st_is_place) (defBody st_is_place) (defScope st_is_place) .none kV_is_place dc_is_place pm_is_place an_is_place cd_is_place ct_is_place, F_is_place := fun_mk l_is_place c_is_place k_is_place, g_is_place := PySem.W.mg_of X G g_is_place, a_is_hue := a_is_hue, fd_is_hue := PySem.W.fnOf "is_hue" "is_hue" (defArgs st_is_hue) (defBody st_is_hue) (defScope st_is_hue) .none kV_is_hue dc_is_hue pm_is_hue an_is_hue cd_is_hue ct_is_hue, F_is_hue := fun_mk l_is_hue c_is_hue k_is_hue, g_is_hue := PySem.W.mg_of X G g_is_hue, a_is_road := a_is_road, fd_is_road := PySem.W.fnOf "is_road" "is_road" (defArgs st_is_road) (defBody st_is_road) (defScope st_is_road) .none kV_is_road dc_is_road pm_is_road an_is_road cd_is_road ct_is_road, F_is_road := fun_mk l_is_road c_is_road k_is_road, g_is_road := PySem.W.mg_of X G g_is_road, a_first_wrong_road := a_first_wrong_road, fd_first_wrong_road := PySem.W.fnOf "first_wrong_road" "first_wrong_road" (defArgs st_first_wrong_road) (defBody st_first_wrong_road) (defScope st_first_wrong_road) .none kV_first_wrong_road dc_first_wrong_road pm_first_wrong_road an_first_wrong_road cd_first_wrong_road ct_first_wrong_road, F_first_wrong_road := fun_mk l_first_wrong_road c_first_wrong_road k_first_wrong_road, g_first_wrong_road := PySem.W.mg_of X G g_first_wrong_road, a_NetD_initD := a_NetD_initD, fd_NetD_initD := PySem.W.fnOf "__init__" "Net.__init__" (defArgs st_NetD_initD) (defBody st_NetD_initD) (defScope st_NetD_initD) .none kV_NetD_initD dc_NetD_initD pm_NetD_initD an_NetD_initD cd_NetD_initD ct_NetD_initD, F_NetD_initD := fun_mk l_NetD_initD c_NetD_initD k_NetD_initD, at_NetD_initD := at_NetD_initD, fn_NetD_initD := fn_NetD_initD, a_NetD_reprD := a_NetD_reprD, fd_NetD_reprD := PySem.W.fnOf "__repr__" "Net.__repr__" (defArgs st_NetD_reprD) (defBody st_NetD_reprD) (defScope st_NetD_reprD) .none kV_NetD_reprD dc_NetD_reprD pm_NetD_reprD an_NetD_reprD cd_NetD_reprD ct_NetD_reprD, F_NetD_reprD := fun_mk l_NetD_reprD c_NetD_reprD k_NetD_reprD, at_NetD_reprD := at_NetD_reprD, fn_NetD_reprD := fn_NetD_reprD, a_NetD_strD := a_NetD_strD, fd_NetD_strD := PySem.W.fnOf "__str__" "Net.__str__" (defArgs st_NetD_strD) (defBody st_NetD_strD) (defScope st_NetD_strD) .none kV_NetD_strD dc_NetD_strD pm_NetD_strD an_NetD_strD cd_NetD_strD ct_NetD_strD, F_NetD_strD := fun_mk l_NetD_strD c_NetD_strD k_NetD_strD, at_NetD_strD := at_NetD_strD, fn_NetD_strD := fn_NetD_strD, a_NetD_lenD := a_NetD_lenD, fd_NetD_lenD := PySem.W.fnOf "__len__" "Net.__len__" (defArgs st_NetD_lenD) (defBody st_NetD_lenD) (defScope st_NetD_lenD) .none kV_NetD_lenD dc_NetD_lenD pm_NetD_lenD an_NetD_lenD cd_NetD_lenD ct_NetD_lenD, F_NetD_lenD := fun_mk l_NetD_lenD c_NetD_lenD k_NetD_lenD, at_NetD_lenD := at_NetD_lenD, fn_NetD_lenD := fn_NetD_lenD, a_Net_roads := a_Net_roads, fd_Net_roads := PySem.W.fnOf "roads" "Net.roads" (defArgs st_Net_roads) (defBody st_Net_roads) (defScope st_Net_roads) .none kV_Net_roads dc_Net_roads pm_Net_roads an_Net_roads cd_Net_roads ct_Net_roads, F_Net_roads := fun_mk l_Net_roads c_Net_roads k_Net_roads, p_Net_roads := p_Net_roads, prop_Net_roads := ⟨pa_Net_roads, pg_Net_roads, pt_Net_roads, ⟨_, pr_Net_roads⟩⟩, a_Net_size := a_Net_size, fd_Net_size := PySem.W.fnOf "size" "Net.size" (defArgs st_Net_size) (defBody st_Net_size) (defScope st_Net_size) .none kV_Net_size dc_Net_size pm_Net_size an_Net_size cd_Net_size ct_Net_size, F_Net_size := fun_mk l_Net_size c_Net_size k_Net_size, p_Net_size := p_Net_size, prop_Net_size := ⟨pa_Net_size, pg_Net_size, pt_Net_size, ⟨_, pr_Net_size⟩⟩, a_size_in := a_size_in, fd_size_in := PySem.W.fnOf "size_in" "size_in" (defArgs st_size_in) (defBody st_size_in) (defScope st_size_in) .none kV_size_in dc_size_in pm_size_in an_size_in cd_size_in ct_size_in, F_size_in := fun_mk l_size_in c_size_in k_size_in, g_size_in := PySem.W.mg_of X G g_size_in, a_road_in := a_road_in, fd_road_in := PySem.W.fnOf "road_in" "road_in" (defArgs st_road_in) (defBody st_road_in) (defScope st_road_in) .none kV_road_in dc_road_in pm_road_in an_road_in cd_road_in ct_road_in, F_road_in := fun_mk l_road_in c_road_in k_road_in, g_road_in := PySem.W.mg_of X G g_road_in, a_Net_read := a_Net_read, fd_Net_read := PySem.W.fnOf "read" "Net.read" (defArgs st_Net_read) (defBody st_Net_read) (defScope st_Net_read) .none kV_Net_read dc_Net_read pm_Net_read an_Net_read cd_Net_read ct_Net_read, F_Net_read := fun_mk l_Net_read c_Net_read k_Net_read, p_Net_read := p_Net_read, sta_Net_read := ⟨zga, zrd, sa_Net_read, ⟨_, sr_Net_read⟩, k_Net_read⟩, a_NetD_eqD := a_NetD_eqD, fd_NetD_eqD := PySem.W.fnOf "__eq__" "Net.__eq__" (defArgs st_NetD_eqD) (defBody st_NetD_eqD) (defScope st_NetD_eqD) .none kV_NetD_eqD dc_NetD_eqD pm_NetD_eqD an_NetD_eqD cd_NetD_eqD ct_NetD_eqD, F_NetD_eqD := fun_mk l_NetD_eqD c_NetD_eqD k_NetD_eqD, at_NetD_eqD := at_NetD_eqD, fn_NetD_eqD := fn_NetD_eqD, a_NetD_boolD := a_NetD_boolD, fd_NetD_boolD := PySem.W.fnOf "__bool__" "Net.__bool__" (defArgs st_NetD_boolD) (defBody st_NetD_boolD) (defScope st_NetD_boolD) .none kV_NetD_boolD dc_NetD_boolD pm_NetD_boolD an_NetD_boolD cd_NetD_boolD ct_NetD_boolD, F_NetD_boolD := fun_mk l_NetD_boolD c_NetD_boolD k_NetD_boolD, at_NetD_boolD := at_NetD_boolD, fn_NetD_boolD := fn_NetD_boolD, a_need_place := a_need_place, fd_need_place := PySem.W.fnOf "need_place" "need_place" (defArgs st_need_place) (defBody st_need_place) (defScope st_need_place) .none kV_need_place dc_need_place pm_need_place an_need_place cd_need_place ct_need_place, F_need_place := fun_mk l_need_place c_need_place k_need_place, g_need_place := PySem.W.mg_of X G g_need_place, a_Net_roads_at := a_Net_roads_at, fd_Net_roads_at := PySem.W.fnOf "roads_at" "Net.roads_at" (defArgs st_Net_roads_at) (defBody st_Net_roads_at) (defScope st_Net_roads_at) .none kV_Net_roads_at dc_Net_roads_at pm_Net_roads_at an_Net_roads_at cd_Net_roads_at ct_Net_roads_at, F_Net_roads_at := fun_mk l_Net_roads_at c_Net_roads_at k_Net_roads_at, at_Net_roads_at := at_Net_roads_at, fn_Net_roads_at := fn_Net_roads_at, a_pair_of := a_pair_of, fd_pair_of := PySem.W.fnOf "pair_of" "pair_of" (defArgs st_pair_of) (defBody st_pair_of) (defScope st_pair_of) .none kV_pair_of dc_pair_of pm_pair_of an_pair_of cd_pair_of ct_pair_of, F_pair_of := fun_mk l_pair_of c_pair_of k_pair_of, g_pair_of := PySem.W.mg_of X G g_pair_of, a_Net_hue := a_Net_hue, fd_Net_hue := PySem.W.fnOf "hue" "Net.hue" (defArgs st_Net_hue) (defBody st_Net_hue) (defScope st_Net_hue) .none kV_Net_hue dc_Net_hue pm_Net_hue an_Net_hue cd_Net_hue ct_Net_hue, F_Net_hue := fun_mk l_Net_hue c_Net_hue k_Net_hue, at_Net_hue := at_Net_hue, fn_Net_hue := fn_Net_hue, a_l_right := a_l_right, fd_l_right := PySem.W.fnOf "_law_right" "_law_right" (defArgs st_l_right) (defBody st_l_right) (defScope st_l_right) .none kV_l_right dc_l_right pm_l_right an_l_right cd_l_right ct_l_right, F_l_right := fun_mk l_l_right c_l_right k_l_right, g_l_right := PySem.W.mg_of X G g_l_right, a_l_jar := a_l_jar, fd_l_jar := PySem.W.fnOf "_law_jar" "_law_jar" (defArgs st_l_jar) (defBody st_l_jar) (defScope st_l_jar) .none kV_l_jar dc_l_jar pm_l_jar an_l_jar cd_l_jar ct_l_jar, F_l_jar := fun_mk l_l_jar c_l_jar k_l_jar, g_l_jar := PySem.W.mg_of X G g_l_jar, a_law := fa, fd_law := PySem.W.fnOf "law" "law" (defArgs st_law) (defBody st_law) (defScope st_law) .none kV_law dc_law pm_law an_law cd_law ct_law, F_law := fun_mk l_law c_law k_law, g_law := PySem.W.mg_of X G g_law, g_Net := PySem.W.mg_of X G aN, ins := ⟨⟨zpg, zhd, zpo, zsa⟩, zha, zhn, zht, zhm⟩, makes := zmk, kpNet := zkp, ne_Net := zne, nf := List.forall_mem_cons.mpr ⟨nf_NoneType, List.forall_mem_cons.mpr ⟨nf_bool, List.forall_mem_cons.mpr ⟨nf_int, List.forall_mem_cons.mpr ⟨nf_str, List.forall_mem_cons.mpr ⟨nf_tuple, List.forall_mem_cons.mpr ⟨nf_list, List.forall_mem_cons.mpr ⟨nf_dict, fun _ z => nomatch z⟩⟩⟩⟩⟩⟩⟩, kit_C := List.forall_mem_cons.mpr ⟨kit_own zhd zty nf_NoneType, List.forall_mem_cons.mpr ⟨kit_own zhd zty nf_bool, List.forall_mem_cons.mpr ⟨kit_own zhd zty nf_int, List.forall_mem_cons.mpr ⟨kit_own zhd zty nf_str, List.forall_mem_cons.mpr ⟨kit_own zhd zty nf_tuple, List.forall_mem_cons.mpr ⟨kit_own zhd zty nf_list, List.forall_mem_cons.mpr ⟨kit_own zhd zty nf_dict, fun _ z => nomatch z⟩⟩⟩⟩⟩⟩⟩, c_DIGITS := ⟨tk_DIGITS, PySem.W.mg_of X G cc_DIGITS⟩, c_HUES := ⟨tk_HUES, PySem.W.mg_of X G cc_HUES⟩, c_MOST_PLACES := ⟨tk_MOST_PLACES, PySem.W.mg_of X G cc_MOST_PLACES⟩, na__hues := na__hues, na__roads := na__roads, na__size := na__size, n_abs := PySem.W.mg_none_of X G z_abs, n_all := PySem.W.mg_none_of X G z_all, n_bool := PySem.W.mg_none_of X G z_bool, n_divmod := PySem.W.mg_none_of X G z_divmod, n_enumerate := PySem.W.mg_none_of X G z_enumerate, n_int := PySem.W.mg_none_of X G z_int, n_isinstance := PySem.W.mg_none_of X G z_isinstance, n_len := PySem.W.mg_none_of X G z_len, n_list := PySem.W.mg_none_of X G z_list, n_max := PySem.W.mg_none_of X G z_max, n_min := PySem.W.mg_none_of X G z_min, n_range := PySem.W.mg_none_of X G z_range, n_repr := PySem.W.mg_none_of X G z_repr, n_str := PySem.W.mg_none_of X G z_str, n_tuple := PySem.W.mg_none_of X G z_tuple }
  exact ⟨T.fd_law, F_law T.aNet, fun s u => .of_eq rfl, fun ns h => law_holds T.aNet ns h, fun base => G_law T⟩
end Mp
open PySem PySem.W PyProof.Rows
set_option maxRecDepth 100000 in
set_option maxHeartbeats 0 in
theorem PySem.Challenge.cw_hueturns_k02_nets_made_and_told_holds : PySem.Challenge.rw_hueturns_k02_nets_made_and_told.Holds := by
  w_on; o_law; k_head; (case hw => w_witness2)
  k_fill
  refine Mp.walk_ofG (n := 63) (k := 25) (x := "_law_cells") (l := PySem.Challenge.rw_hueturns_k02_nets_made_and_told) rfl (by decide) rfl ⟨rfl, by decide, by decide⟩ (fun w h Y => PySem.W.kIn_of Y) ?F
  case F =>
    intro w mg fa h KX G hmg
    refine' Mp.all_mk KX G hmg ?aN ?g_l_dip ?l_l_dip ?c_l_dip ?k_l_dip ?g_l_one_of ?l_l_one_of ?c_l_one_of ?k_l_one_of ?g_l_roads ?l_l_roads ?c_l_roads ?k_l_roads ?g_l_hues ?l_l_hues ?c_l_hues ?k_l_hues ?g_l_text ?l_l_text ?c_l_text ?k_l_text ?g_is_integer ?l_is_integer ?c_is_integer ?k_is_integer ?g_is_integer_from ?l_is_integer_from ?c_is_integer_from ?k_is_integer_from ?g_is_size ?l_is_size ?c_is_size ?k_is_size ?g_is_place ?l_is_place ?c_is_place ?k_is_place ?g_is_hue ?l_is_hue ?c_is_hue ?k_is_hue ?g_is_road ?l_is_road ?c_is_road ?k_is_road ?g_first_wrong_road ?l_first_wrong_road ?c_first_wrong_road ?k_first_wrong_road ?at_NetD_initD ?fn_NetD_initD ?l_NetD_initD ?c_NetD_initD ?k_NetD_initD ?at_NetD_reprD ?fn_NetD_reprD ?l_NetD_reprD ?c_NetD_reprD ?k_NetD_reprD ?at_NetD_strD ?fn_NetD_strD ?l_NetD_strD ?c_NetD_strD ?k_NetD_strD ?at_NetD_lenD ?fn_NetD_lenD ?l_NetD_lenD ?c_NetD_lenD ?k_NetD_lenD ?pa_Net_roads ?pg_Net_roads ?pt_Net_roads ?pr_Net_roads ?l_Net_roads ?c_Net_roads ?k_Net_roads ?pa_Net_size ?pg_Net_size ?pt_Net_size ?pr_Net_size ?l_Net_size ?c_Net_size ?k_Net_size ?g_size_in ?l_size_in ?c_size_in ?k_size_in ?g_road_in ?l_road_in ?c_road_in ?k_road_in ?sa_Net_read ?sr_Net_read ?l_Net_read ?c_Net_read ?k_Net_read ?at_NetD_eqD ?fn_NetD_eqD ?l_NetD_eqD ?c_NetD_eqD ?k_NetD_eqD ?at_NetD_boolD ?fn_NetD_boolD ?l_NetD_boolD ?c_NetD_boolD ?k_NetD_boolD ?g_need_place ?l_need_place ?c_need_place ?k_need_place ?at_Net_roads_at ?fn_Net_roads_at ?l_Net_roads_at ?c_Net_roads_at ?k_Net_roads_at ?g_pair_of ?l_pair_of ?c_pair_of ?k_pair_of ?at_Net_hue ?fn_Net_hue ?l_Net_hue ?c_Net_hue ?k_Net_hue ?g_l_right ?l_l_right ?c_l_right ?k_l_right ?g_l_jar ?l_l_jar ?c_l_jar ?k_l_jar ?g_law ?l_law ?c_law ?k_law ?zga ?zrd ?zpg ?zhd ?zpo ?zsa ?zha ?zhn ?zht ?zhm ?zty ?zmk ?zkp ?zne ?nf_NoneType ?nf_bool ?nf_int ?nf_str ?nf_tuple ?nf_list ?nf_dict ?cc_DIGITS ?cc_HUES ?cc_MOST_PLACES ?na__hues ?na__roads ?na__size ?z_abs ?z_all ?z_bool ?z_divmod ?z_enumerate ?z_int ?z_isinstance ?z_len ?z_list ?z_max ?z_min ?z_range ?z_repr ?z_str ?z_tuple
    (case aN => k_is)
    (case g_l_dip => k_is)
    (case l_l_dip => k_is)
    (case c_l_dip => k_is)
    (case k_l_dip => k_is)
    (case g_l_one_of => k_is)
    (case l_l_one_of => k_is)
    (case c_l_one_of => k_is)
    (case k_l_one_of => k_is)
    (case g_l_roads => k_is)
    (case l_l_roads => k_is)
    (case c_l_roads => k_is)
    (case k_l_roads => k_is)
    (case g_l_hues => k_is)
    (case l_l_hues => k_is)
    (case c_l_hues => k_is)
    (case k_l_hues => k_is)
    (case g_l_text => k_is)
    (case l_l_text => k_is)
    (case c_l_text => k_is)
    (case k_l_text => k_is)
    (case g_is_integer => k_is)
    (case l_is_integer => k_is)
    (case c_is_integer => k_is)
    (case k_is_integer => k_is)
    (case g_is_integer_from => k_is)
    (case l_is_integer_from => k_is)
    (case c_is_integer_from => k_is)
    (case k_is_integer_from => k_is)
    (case g_is_size => k_is)
    (case l_is_size => k_is)
    (case c_is_size => k_is)
    (case k_is_size => k_is)
    (case g_is_place => k_is)
    (case l_is_place => k_is)
    (case c_is_place => k_is)
    (case k_is_place => k_is)
    (case g_is_hue => k_is)
    (case l_is_hue => k_is)
    (case c_is_hue => k_is)
    (case k_is_hue => k_is)
    (case g_is_road => k_is)
    (case l_is_road => k_is)
    (case c_is_road => k_is)
    (case k_is_road => k_is)
    (case g_first_wrong_road => k_is)
    (case l_first_wrong_road => k_is)
    (case c_first_wrong_road => k_is)
    (case k_first_wrong_road => k_is)
    (case at_NetD_initD => k_is)
    (case fn_NetD_initD => k_is)
    (case l_NetD_initD => k_is)
    (case c_NetD_initD => k_is)
    (case k_NetD_initD => k_is)
    (case at_NetD_reprD => k_is)
    (case fn_NetD_reprD => k_is)
    (case l_NetD_reprD => k_is)
    (case c_NetD_reprD => k_is)
    (case k_NetD_reprD => k_is)
    (case at_NetD_strD => k_is)
    (case fn_NetD_strD => k_is)
    (case l_NetD_strD => k_is)
    (case c_NetD_strD => k_is)
    (case k_NetD_strD => k_is)
    (case at_NetD_lenD => k_is)
    (case fn_NetD_lenD => k_is)
    (case l_NetD_lenD => k_is)
    (case c_NetD_lenD => k_is)
    (case k_NetD_lenD => k_is)
    (case pa_Net_roads => k_is)
    (case pg_Net_roads => k_is)
    (case pt_Net_roads => k_is)
    (case pr_Net_roads => k_is)
    (case l_Net_roads => k_is)
    (case c_Net_roads => k_is)
    (case k_Net_roads => k_is)
    (case pa_Net_size => k_is)
    (case pg_Net_size => k_is)
    (case pt_Net_size => k_is)
    (case pr_Net_size => k_is)
    (case l_Net_size => k_is)
    (case c_Net_size => k_is)
    (case k_Net_size => k_is)
    (case g_size_in => k_is)
    (case l_size_in => k_is)
    (case c_size_in => k_is)
    (case k_size_in => k_is)
    (case g_road_in => k_is)
    (case l_road_in => k_is)
    (case c_road_in => k_is)
    (case k_road_in => k_is)
    (case sa_Net_read => k_is)
    (case sr_Net_read => k_is)
    (case l_Net_read => k_is)
    (case c_Net_read => k_is)
    (case k_Net_read => k_is)
    (case at_NetD_eqD => k_is)
    (case fn_NetD_eqD => k_is)
    (case l_NetD_eqD => k_is)
    (case c_NetD_eqD => k_is)
    (case k_NetD_eqD => k_is)
    (case at_NetD_boolD => k_is)
    (case fn_NetD_boolD => k_is)
    (case l_NetD_boolD => k_is)
    (case c_NetD_boolD => k_is)
    (case k_NetD_boolD => k_is)
    (case g_need_place => k_is)
    (case l_need_place => k_is)
    (case c_need_place => k_is)
    (case k_need_place => k_is)
    (case at_Net_roads_at => k_is)
    (case fn_Net_roads_at => k_is)
    (case l_Net_roads_at => k_is)
    (case c_Net_roads_at => k_is)
    (case k_Net_roads_at => k_is)
    (case g_pair_of => k_is)
    (case l_pair_of => k_is)
    (case c_pair_of => k_is)
    (case k_pair_of => k_is)
    (case at_Net_hue => k_is)
    (case fn_Net_hue => k_is)
    (case l_Net_hue => k_is)
    (case c_Net_hue => k_is)
    (case k_Net_hue => k_is)
    (case g_l_right => k_is)
    (case l_l_right => k_is)
    (case c_l_right => k_is)
    (case k_l_right => k_is)
    (case g_l_jar => k_is)
    (case l_l_jar => k_is)
    (case c_l_jar => k_is)
    (case k_l_jar => k_is)
    (case g_law => k_is)
    (case l_law => k_is)
    (case c_law => k_is)
    (case k_law => k_is)
    (case zga => k_is)
    (case zrd => k_is)
    (case zpg => k_is)
    (case zhd => k_is)
    (case zpo => k_is)
    (case zsa => k_is)
    (case zha => k_is)
    (case zhn => k_is)
    (case zht => k_is)
    (case zhm => k_is)
    (case zty => k_is)
    (case zmk => k_is)
    (case zkp => k_is)
    (case zne => k_is)
    (case nf_NoneType => k_is)
    (case nf_bool => k_is)
    (case nf_int => k_is)
    (case nf_str => k_is)
    (case nf_tuple => k_is)
    (case nf_list => k_is)
    (case nf_dict => k_is)
    (case cc_DIGITS => k_is)
    (case cc_HUES => k_is)
    (case cc_MOST_PLACES => k_is)
    (case na__hues => k_is)
    (case na__roads => k_is)
    (case na__size => k_is)
    (case z_abs => k_is)
    (case z_all => k_is)
    (case z_bool => k_is)
    (case z_divmod => k_is)
    (case z_enumerate => k_is)
    (case z_int => k_is)
    (case z_isinstance => k_is)
    (case z_len => k_is)
    (case z_list => k_is)
    (case z_max => k_is)
    (case z_min => k_is)
    (case z_range => k_is)
    (case z_repr => k_is)
    (case z_str => k_is)
    (case z_tuple => k_is)
