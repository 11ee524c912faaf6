import PyProof.Rows.All
import Wide.All
import OpenK.AllK
import Wide.FinOn
import HandS.ForMost
import HandS.Walk
import HandS.AnyAll
import HandS.Conv
import HandS.More
import HandS.Style
import HandS.IsInst
import HandS.EndTab
import HandS.Exc
import HandS.ExcOwn
import HandS.ExcIs
import HandS.ExcValue
import HandS.WordsExc
import HandS.Zip
import HandS.Defaults
import HandS.Dict
import KE.GoesMore
import HandS.TupMul
import PyProof.Rows.SortShellAny
import PySem.Challenge.RW_fewterms_k01_terms
set_option Elab.async false
set_option linter.all false
set_option maxRecDepth 100000
set_option maxHeartbeats 4000000
/-! An error that outlives its clause: an object on the abstract heap. -/
namespace Fw
open PySem PySem.Spec PyProof.Rows L2
/-- a raised error of the class cls at a -/
def ExH (cls : Value) (d : Option Addr) (a : Addr) : HO := .ext fun h => ∃ (oe : Obj) (vs : Array Value), h.get? a = some oe ∧ Zc cls d oe ∧ oe.data = .fields vs
theorem exH_ok {P : Program} {w : World} {H : Hp} {h : Heap} {a : Addr} {cls : Value} {d : Option Addr} {oe : Obj} {vs : Array Value} (e : h.get? a = some oe) (z : Zc cls d oe) (k : oe.data = .fields vs) : ObjOk P w H h a (ExH cls d a) :=
  ⟨⟨oe, vs, e, z, k⟩, ⟨oe, e⟩, fun _ _ ⟨o, v, q, r⟩ k => ⟨o, v, k o q, r⟩⟩
section
variable {X : Cx} {pins : List (Addr × Obj)} {σ : L2.St} {H : Hp} {sI s' : Shared} {B : Heap}
/-- on the ground, the error tracked from here on -/
theorem landedT (I : Inv X pins σ H sI) (nb : ∀ b o, sI.heap.get? b = some o → b ∉ frs X.stack → B.get? b = some o) (sb : B.StaysIn s'.heap) (up : sI.heap.UpToSlots s'.heap) (eo : s'.os = sI.os) (bg : AllBare s'.gens)
    {a : Addr} {oe : Obj} {vs : Array Value} {cls : Value} {d : Option Addr} (na : sI.heap.get? a = none) (he : s'.heap.get? a = some oe) (hz : Zc cls d oe) (hd : oe.data = .fields vs) (hn : H a = none) : Inv X pins σ (upd H a (ExH cls d a)) s' := by
  have onF : ∀ b ∈ frs X.stack, ∀ o, sI.heap.get? b = some o → ∃ sl, s'.heap.get? b = some { o with slots := sl } := fun b hb o e => by
    obtain ⟨_, o2, e2, nd⟩ := I.stack.mem hb
    rw [e] at e2
    cases e2
    exact up b o e nd
  have ne : ∀ b o, sI.heap.get? b = some o → b ≠ a := fun b o e z => by
    rw [z, na] at e
    cases e
  have u : Un (frs X.stack) [] H (upd H a (ExH cls d a)) sI.heap s'.heap := {
    keep := fun b o e _ hb _ => sb b o (nb b o e hb)
    slot := fun b o e _ hb _ => onF b hb o e
    free := fun b o e n _ => by rw [upd_ne (ne b o e)]; exact n
    there := fun b o e _ => by
      by_cases hb : b ∈ frs X.stack
      · obtain ⟨sl, q⟩ := onF b hb o e
        exact ⟨_, q⟩
      · exact ⟨o, sb b o (nb b o e hb)⟩
    tups := fun b xs e => by rw [upd_ne (ne_of_none e hn)]; exact e
    frzs := fun b o u e => by rw [upd_ne (ne_of_none e hn)]; exact e
    tbls := fun b ps e => ⟨#[], by rw [upd_ne (ne_of_none e hn), e]; simp⟩ }
  have hok : HOk X.prog X.w (upd H a (ExH cls d a)) s'.heap := ((I.inGround nb).kept sb).laidN (fun _ _ e => e) hn (exH_ok he hz hd)
  have J := I.call (ch := []) (h' := s'.heap) (g' := s'.gens) (t' := s'.toks) (d' := s'.drawn) u hok bg (fun _ z => nomatch z)
  obtain ⟨b1, b2, b3, b4, b5⟩ := s'
  have e5 : b5 = sI.os := eo
  subst e5
  exact J
/-- into a clause's suite, nothing pinned -/
theorem toSuite (I : Inv X pins σ H sI) (a : Addr) : Inv (X.suite a (X.pn ++ pins)) [] σ H sI :=
  ⟨I.ok.suite _ _, I.os, I.bare, I.base, I.loc, I.cell, I.free, I.freeC, fun p hp => I.pin p (by rw [List.append_nil] at hp; exact hp), I.hok, I.len⟩
theorem ofSuite {a : Addr} {pn' : List (Addr × Obj)} (I : Inv (X.suite a (X.pn ++ pins)) pn' σ H sI) (ok : X.Ok) : Inv X pins σ H sI :=
  ⟨ok, I.os, I.bare, I.base, I.loc, I.cell, I.free, I.freeC, fun p hp => I.pin p (List.mem_append_left _ hp), I.hok, I.len⟩
end
/-- what the clause wants of the body's errors: caught, the error stands on the heap -/
def wAsT (K : PySem.W.Frag) (c : Value) (i : Nat) (ts : TS) (Wout : WX) (D : Ends) : WX := fun cls d σ H =>
  ∃ b, PySem.W.exmOne K cls c = some b ∧ (b = true → ∀ a, H a = none → ts { nx := fun σ' H' => D.nx (σ'.set i none) H', rt := D.rt, bk := fun σ' H' => D.bk (σ'.set i none) H', ct := fun σ' H' => D.ct (σ'.set i none) H' } (σ.set i (some (.ref a))) (upd H a (ExH cls d a))) ∧
    (b = false → Wout cls d σ H)
section
variable {X : Cx} {x n : Str} {c : Value} {i : Nat} {body suite : List Stmt} {b₀ : Stmt} {np pos pos' : Pos} {tb : WX → TS} {ts : TS} {Wout : WX}
theorem ps_try_asT (hs : X.stack = X.env :: X.outer) (hf : X.env.frame = some X.env.locals) (hN : X.N.Nodup) (hi : X.N[i]? = some n) (hln : X.env.kindOf n = some .local) (hc : Names X x c) (tk : Takes X Wout)
    (hb : ∀ (W : WX) (pn : List (Addr × Obj)) (xe : Value → Shared → Prop), Takes (X.tr pn xe) W → PassesOwn (model X.prog X.w) X.A X.env xe → PSs (X.tr pn xe) body (tb W)) (hsu : ∀ (a : Addr) (pn : List (Addr × Obj)), PSs (X.suite a pn) (b₀ :: suite) ts) :
    PS X (.Try body [.ExceptHandler (some (.Name x np)) (some n) (b₀ :: suite) pos'] [] [] pos) (fun D σ H => tb (wAsT X.K c i ts Wout D) D σ H) := by
  refine ⟨fun pins s σ H D I h => ?_⟩
  have okX := I.ok
  have frX : X.A.frames = some (X.env :: X.outer) := by rw [okX.frames, hs]
  have ln : Loc X.env.scope n := Or.inl hln
  refine wpAny_Try_except (wpAny_mono ((hb (wAsT X.K c i ts Wout D) (X.pn ++ pins) (fun e s1 => wpAny (model X.prog X.w) X.A (noteFrame e X.env) (fun _ s2 => wpAny (model X.prog X.w) X.A (setFlight e none)
    (fun _ s3 => wpAny (model X.prog X.w) X.A (handleBy e X.env [.ExceptHandler (some (.Name x np)) (some n) (b₀ :: suite) pos']) (SP X pins D) X.xe s3) X.xe s2) X.xe s1) (fun u s1 hx => ?_) PassesOwn.looking).run [] s σ H D (I.toTry _) h) (fun f s1 h1 => ?_) fun _ _ z => z)
  · obtain ⟨a, B, sI, pins1, σ1, H1, cls, d, rfl, J0, nb, up, sky, na, eo, bg, b, hb1, yes, no⟩ := hx
    have J : Inv X pins σ1 H1 sI := Inv.ofTry J0 okX
    have sky1 : Sky B (X.env :: X.outer) a (Zc cls d) X.env.locals s1.heap := by rw [← hs]; exact sky
    show wpAny (model X.prog X.w) X.A (noteFrame (.ref a) X.env) _ _ _
    refine Sky.land Zc.steady frX hf sky1 fun h3 fl3 up3 => ?_
    have J3 : Inv X pins σ1 H1 { s1 with heap := h3 } := J.landed nb fl3.1 (up.trans up3) eo bg
    obtain ⟨o3, v3, e3, z3, k3⟩ := HandSPX.FlyingZ.there fl3
    have nfr : a ∉ frs (X.env :: X.outer) := fun hm => by
      obtain ⟨_, o2, e2, nd⟩ := fl3.2.2.1.mem hm
      rw [e3] at e2
      cases e2
      exact nd _ k3
    have nI : sI.heap.get? a = none := by
      cases q : sI.heap.get? a with
      | none => rfl
      | some o =>
        have z := nb a o q (by rw [hs]; exact nfr)
        rw [fl3.2.1] at z
        cases z
    refine wpAny_handleBy_cons (codeAny_handlers_test ?_) (by intro q; cases q)
    have LT : PySem.W.Looks (model X.prog X.w) h3 (typeOf (.ref a)) cls := fun A Q E s k q => wpAny_typeOf_ref (k _ _ e3) (by rw [z3.1]; exact q)
    have LM := PySem.W.exm_one (M := model X.prog X.w) J3.kIn LT hb1
    have S3 := toSuite J3 a
    have rd : ∀ {Q : Value → Shared → Prop} {E : Value → Shared → Prop}, Q c { s1 with heap := h3 } → wpAny (model X.prog X.w) (X.A.mark (some (.ref a))) (eval (.Name x np) X.env) Q E { s1 with heap := h3 } := fun {Q E} q => by
      obtain ⟨hg, hq, hm | ⟨hm, hv, hnn⟩⟩ := hc
      · exact ld_glob (X := X.suite a (X.pn ++ pins)) S3 hg hm q hq
      · exact ld_blt (X := X.suite a (X.pn ++ pins)) S3 hg hm hv q hnn hq
    refine rd (LM.here ?_)
    cases b with
    | true =>
      refine codeAny_handlers_suite_as (HandSPX.lands_againZ fl3 fun h4 fl4 up4 => ?_)
      obtain ⟨o4, v4, e4, z4, k4⟩ := HandSPX.FlyingZ.there fl4
      have J4 : Inv X pins σ1 (upd H1 a (ExH cls d a)) { s1 with heap := h4 } := landedT (s' := { s1 with heap := h4 }) J nb fl4.1 ((up.trans up3).trans up4) eo bg nI e4 z4 k4 na
      refine store_ok (X := X.suite a (X.pn ++ pins)) (v := .ref a) (toSuite J4 a) hN hi ln rfl (fun s5 S5 => ?_) (.inr hln)
      refine wpAny_mono ((hsu a (X.pn ++ pins)).run [] s5 _ _ _ S5 (yes rfl a na)) (fun f s6 h6 => ?_) fun _ _ z => False.elim z
      have fin : ∀ {σ6 : L2.St} {H6 : Hp} {Q : Shared → Prop}, Inv (X.suite a (X.pn ++ pins)) [] σ6 H6 s6 → (∀ s7, Inv X pins (σ6.set i none) H6 s7 → Q s7) → wpAny (model X.prog X.w) X.A (do bindName X.env n .none; unbindBehindTheSuite X.env n pos') (fun _ s7 => Q s7) X.xe s6 :=
        fun {σ6 H6 Q} S6 q => gone_ok (ofSuite S6 okX) hN hi hln q
      cases f with
      | next =>
        obtain ⟨σ6, H6, S6, q6⟩ := h6
        exact fin S6 fun s7 J7 => ⟨_, _, J7, q6⟩
      | brk =>
        obtain ⟨σ6, H6, S6, q6⟩ := h6
        exact fin S6 fun s7 J7 => ⟨_, _, J7, q6⟩
      | cont =>
        obtain ⟨σ6, H6, S6, q6⟩ := h6
        exact fin S6 fun s7 J7 => ⟨_, _, J7, q6⟩
      | ret u =>
        obtain ⟨v6, σ6, H6, S6, r6, q6⟩ := h6
        exact fin S6 fun s7 J7 => ⟨_, _, _, J7, r6, q6⟩
    | false =>
      show wpAny _ X.A (handleBy (.ref a) X.env []) _ _ _
      refine wpAny_handleBy_nil ?_
      obtain ⟨k1, k2, k3', oe, vs, T1, oT, ts', he, hz, hd, hv1, hr⟩ := id fl3
      have again : wpAny (model X.prog X.w) X.A (setFlight (.ref a) X.env.frame) (fun _ s4 => wpAny (model X.prog X.w) X.A (throw (.ref a) : Sem Flow) (SP X pins D) X.xe s4) X.xe { s1 with heap := h3 } := by
        rw [hf]
        exact HandSPX.setFlight_upZ fl3 fun h4 hh4 up4 => wpAny_throw (tk _ _ ⟨a, B, sI, pins, σ1, H1, cls, d, rfl, J, nb, (up.trans up3).trans up4, .inr (.inr (by rw [hs]; exact hh4)), na, eo, bg, no rfl⟩)
      unfold PySem.passOn
      refine wpAny_bind (wpAny_field he hd hv1 ?_)
      rw [if_neg (show ¬ ((Value.ref T1 == Value.none) = true) from by simp)]
      first | exact wpAny_bind (wpAny_pure (wpAny_bind again)) | exact wpAny_bind again
  · cases f with
    | next =>
      obtain ⟨σ1, H1, J, q⟩ := h1
      exact wpAny_execs_nil ⟨σ1, H1, Inv.ofTry J I.ok, q⟩
    | brk =>
      obtain ⟨σ1, H1, J, q⟩ := h1
      exact ⟨σ1, H1, Inv.ofTry J I.ok, q⟩
    | cont =>
      obtain ⟨σ1, H1, J, q⟩ := h1
      exact ⟨σ1, H1, Inv.ofTry J I.ok, q⟩
    | ret u =>
      obtain ⟨v, σ1, H1, J, r, q⟩ := h1
      exact ⟨v, σ1, H1, Inv.ofTry J I.ok, r, q⟩
end
/-! ### isinstance of an error, by its class -/
def rIsX (K : PySem.W.Frag) : List V → Hp → VK → Prop := fun xs H Q => ∃ (a D : Addr) (c : V) (cv : Value) (b : Bool), xs = [.ref a, c] ∧ H a = some (ExH (.ref D) none a) ∧ ExcC K D ∧ (∀ u, RelV c u → u = cv) ∧ PySem.W.kitOne K (.ref D) cv = some b ∧ Q (.bl b) H
theorem call_isX {X : Cx} : CallR X (.builtin "isinstance") (rIsX X.K) := by
  intro pins s σ H xs us Q I r h
  obtain ⟨a, D, c, cv, b, rfl, hH, C, hcv, e, q⟩ := h
  cases r with
  | cons rx rr =>
    cases rr with
    | cons rt rr =>
      cases rr
      cases rx
      have ec := hcv _ rt
      subst ec
      obtain ⟨⟨oe, vs, hget, hz, hv⟩, _, _⟩ := I.hok a _ hH
      have J : PySem.W.InstAt s.heap a oe D none := by
        obtain ⟨oc, od, oda, osl⟩ := oe
        obtain ⟨h1, h2⟩ := hz
        dsimp only at h1 h2 hv
        subst h1 h2 hv
        exact ⟨hget, rfl, rfl, trivial⟩
      exact PySem.W.kia_one (PySem.W.handS_kitx_exc C.hg C.hk C.hs C.hd C.ha C.hn C.ht C.hm) I.kIn J e (fun z => nomatch z) fun tk => ⟨.bl b, H, I.kept (t' := tk) fun _ _ z => z, rfl, q⟩
end Fw
/-! Data beside the abstract heap: what a value is worth, frozen or borrowed; the programs' defs as functions on data. -/
namespace Fw
open PySem PySem.Spec PyProof.Rows L2
/-- a text by its signs -/
def tx (s : List Nat) : Str := ⟨s.toArray⟩
theorem tx_len (s : List Nat) : (tx s).length = s.length := by simp [tx, Str.length]
theorem tx_list (s : List Nat) : (tx s).cps.toList = s := by simp [tx]
theorem tx_inj {a b : List Nat} (h : tx a = tx b) : a = b := by
  have := congrArg (fun s : Str => s.cps.toList) h
  simpa [tx] using this
theorem tx_app (a b : List Nat) : tx a ++ tx b = tx (a ++ b) := by
  show Str.append (tx a) (tx b) = _
  simp [Str.append, tx]
inductive D where
  | non | bl (b : Bool) | int (i : Int) | str (s : List Nat) | lst (xs : List D) | tup (xs : List D) | ty (n : String)
  | ins (c : Addr) (ns : List Str) (ds : List D)
  | exn (c : Addr) (ns : List Str) (ds : List D)
  | emp | cls (c : Addr)
  | slf (a c : Addr) (ns : List Str) (ds : List D)
  deriving Inhabited
section
variable (K : PySem.W.Frag)
mutual
def Rp (H : Hp) : D → V → Prop
  | .non, v => v = .non
  | .bl b, v => v = .bl b
  | .int i, v => v = .int i
  | .str s, v => v = .str (tx s)
  | .ty n, v => v = .ty n
  | .lst xs, v => ∃ a vs, v = .ref a ∧ SqL K H a vs ∧ RpL H xs vs
  | .tup xs, v => ∃ a vs, v = .ref a ∧ SqT K H a vs ∧ RpL H xs vs
  | .ins c ns ds, v => ∃ a dx vs, v = .ref a ∧ H a = some (.ins c dx (ns.zip vs)) ∧ ns.length = ds.length ∧ RpL H ds vs
  | .exn c ns ds, v => ∃ a d, v = .ref a ∧ H a = some (ExH (.ref c) d a) ∧ ((d = none ∧ ns = []) ∨ ∃ dd vs, ns ≠ [] ∧ d = some dd ∧ H dd = some (.xd (ns.zip vs)) ∧ ns.length = ds.length ∧ RpL H ds vs)
  | .emp, v => ∃ a, v = .ref a ∧ H a = some (.dK [])
  | .cls c, v => v = .ref c
  | .slf a c ns ds, v => v = .ref a ∧ ∃ dx vs, H a = some (.ins c dx (ns.zip vs)) ∧ ns.length = ds.length ∧ RpL H ds vs
def RpL (H : Hp) : List D → List V → Prop
  | [], vs => vs = []
  | d :: ds, vs => ∃ v r, vs = v :: r ∧ Rp H d v ∧ RpL H ds r
end
end
/-- heaps that grow -/
def Sub (H H' : Hp) : Prop := ∀ a o, H a = some o → H' a = some o
theorem Sub.refl (H : Hp) : Sub H H := fun _ _ h => h
theorem Sub.trans {H H1 H2 : Hp} (a : Sub H H1) (b : Sub H1 H2) : Sub H H2 := fun x o h => b x o (a x o h)
theorem Sub.new {H : Hp} {p : Addr} {o : HO} (h : H p = none) : Sub H (upd H p o) := fun a u e => by
  rw [upd_ne (ne_of_none e h)]; exact e
theorem Sub.rd {H H' : Hp} {a : Addr} {u : HO} (e : Sub H H') (h : Rd H a u) : Rd H' a u := by
  rcases h with h | ⟨o, h⟩
  · exact Or.inl (e a _ h)
  · exact Or.inr ⟨o, e a _ h⟩
section
variable {K : PySem.W.Frag}
theorem Sub.l {H H' : Hp} {a : Addr} {xs : List V} (e : Sub H H') (h : SqL K H a xs) : SqL K H' a xs := by
  rcases h with h | h
  · exact Or.inl (e.rd h)
  · exact Or.inr h
theorem Sub.t {H H' : Hp} {a : Addr} {xs : List V} (e : Sub H H') (h : SqT K H a xs) : SqT K H' a xs := by
  rcases h with h | h
  · exact Or.inl (e.rd h)
  · exact Or.inr h
mutual
theorem Rp.mono {H H' : Hp} (e : Sub H H') : ∀ (d : D) {v : V}, Rp K H d v → Rp K H' d v
  | .non, v, h => by simpa [Rp] using h
  | .bl b, v, h => by simpa [Rp] using h
  | .int i, v, h => by simpa [Rp] using h
  | .str s, v, h => by simpa [Rp] using h
  | .ty n, v, h => by simpa [Rp] using h
  | .lst xs, v, h => by
    rw [Rp] at h ⊢
    obtain ⟨a, vs, h1, h2, h3⟩ := h
    exact ⟨a, vs, h1, e.l h2, RpL.mono e xs h3⟩
  | .tup xs, v, h => by
    rw [Rp] at h ⊢
    obtain ⟨a, vs, h1, h2, h3⟩ := h
    exact ⟨a, vs, h1, e.t h2, RpL.mono e xs h3⟩
  | .ins c ns ds, v, h => by
    rw [Rp] at h ⊢
    obtain ⟨a, dx, vs, h1, h2, h3, h4⟩ := h
    exact ⟨a, dx, vs, h1, e _ _ h2, h3, RpL.mono e ds h4⟩
  | .exn c ns ds, v, h => by
    rw [Rp] at h ⊢
    obtain ⟨a, d, h1, h2, h3⟩ := h
    refine ⟨a, d, h1, e _ _ h2, h3.imp id fun ⟨dd, vs, k0, k1, k2, k3, k4⟩ => ⟨dd, vs, k0, k1, e _ _ k2, k3, RpL.mono e ds k4⟩⟩
  | .emp, v, h => by
    rw [Rp] at h ⊢
    obtain ⟨a, h1, h2⟩ := h
    exact ⟨a, h1, e _ _ h2⟩
  | .cls c, v, h => by simpa [Rp] using h
  | .slf a c ns ds, v, h => by
    rw [Rp] at h ⊢
    obtain ⟨h1, dx, vs, h2, h3, h4⟩ := h
    exact ⟨h1, dx, vs, e _ _ h2, h3, RpL.mono e ds h4⟩
theorem RpL.mono {H H' : Hp} (e : Sub H H') : ∀ (ds : List D) {vs : List V}, RpL K H ds vs → RpL K H' ds vs
  | [], vs, h => by simpa [RpL] using h
  | d :: ds, vs, h => by
    rw [RpL] at h ⊢
    obtain ⟨v, r, h1, h2, h3⟩ := h
    exact ⟨v, r, h1, Rp.mono e d h2, RpL.mono e ds h3⟩
end
theorem RpL.nil {H : Hp} : RpL K H [] [] := by rw [RpL]
theorem RpL.cons {H : Hp} {d : D} {ds : List D} {v : V} {vs : List V} (h : Rp K H d v) (r : RpL K H ds vs) : RpL K H (d :: ds) (v :: vs) := by
  rw [RpL]; exact ⟨v, vs, rfl, h, r⟩
theorem RpL.app {H : Hp} : ∀ {ds es : List D} {vs us : List V}, RpL K H ds vs → RpL K H es us → RpL K H (ds ++ es) (vs ++ us)
  | [], es, vs, us, h, r => by
    rw [RpL] at h; subst h; exact r
  | d :: ds, es, vs, us, h, r => by
    rw [RpL] at h
    obtain ⟨v, rr, h1, h2, h3⟩ := h
    subst h1
    exact RpL.cons h2 (RpL.app h3 r)
theorem RpL.len {H : Hp} : ∀ {ds : List D} {vs : List V}, RpL K H ds vs → ds.length = vs.length
  | [], vs, h => by rw [RpL] at h; subst h; rfl
  | d :: ds, vs, h => by
    rw [RpL] at h
    obtain ⟨v, r, h1, h2, h3⟩ := h
    subst h1
    simp [RpL.len h3]
theorem RpL.get {H : Hp} : ∀ {ds : List D} {vs : List V} {i : Nat} {d : D}, RpL K H ds vs → ds[i]? = some d → ∃ v, vs[i]? = some v ∧ Rp K H d v
  | [], vs, i, d, h, e => by simp at e
  | d :: ds, vs, 0, d', h, e => by
    rw [RpL] at h
    obtain ⟨v, r, h1, h2, h3⟩ := h
    simp at e; subst e; subst h1
    exact ⟨v, rfl, h2⟩
  | d :: ds, vs, i + 1, d', h, e => by
    rw [RpL] at h
    obtain ⟨v, r, h1, h2, h3⟩ := h
    subst h1
    obtain ⟨u, h4, h5⟩ := RpL.get h3 (by simpa using e)
    exact ⟨u, by simpa using h4, h5⟩
theorem RpL.getV {H : Hp} : ∀ {ds : List D} {vs : List V} {i : Nat} {v : V}, RpL K H ds vs → vs[i]? = some v → ∃ d, ds[i]? = some d ∧ Rp K H d v
  | [], vs, i, v, h, e => by rw [RpL] at h; subst h; simp at e
  | d :: ds, vs, 0, v', h, e => by
    rw [RpL] at h
    obtain ⟨v, r, h1, h2, h3⟩ := h
    subst h1; simp at e; subst e
    exact ⟨d, rfl, h2⟩
  | d :: ds, vs, i + 1, v', h, e => by
    rw [RpL] at h
    obtain ⟨v, r, h1, h2, h3⟩ := h
    subst h1
    obtain ⟨u, h4, h5⟩ := RpL.getV h3 (by simpa using e)
    exact ⟨u, by simpa using h4, h5⟩
theorem RpL.drop {H : Hp} : ∀ {ds : List D} {vs : List V} (n : Nat), RpL K H ds vs → RpL K H (ds.drop n) (vs.drop n)
  | ds, vs, 0, h => h
  | [], vs, n + 1, h => by rw [RpL] at h; subst h; exact RpL.nil
  | d :: ds, vs, n + 1, h => by
    rw [RpL] at h
    obtain ⟨v, r, h1, h2, h3⟩ := h
    subst h1
    exact RpL.drop n h3
theorem RpL.take {H : Hp} : ∀ {ds : List D} {vs : List V} (n : Nat), RpL K H ds vs → RpL K H (ds.take n) (vs.take n)
  | ds, vs, 0, h => by simp; exact RpL.nil
  | [], vs, n + 1, h => by rw [RpL] at h; subst h; exact RpL.nil
  | d :: ds, vs, n + 1, h => by
    rw [RpL] at h
    obtain ⟨v, r, h1, h2, h3⟩ := h
    subst h1
    exact RpL.cons h2 (RpL.take n h3)
theorem RpL.set {H : Hp} : ∀ {ds : List D} {vs : List V} (n : Nat) {d : D} {v : V}, RpL K H ds vs → Rp K H d v → RpL K H (ds.set n d) (vs.set n v)
  | [], vs, n, d, v, h, _ => by rw [RpL] at h; subst h; exact RpL.nil
  | _ :: ds, vs, 0, d, v, h, hd => by
    rw [RpL] at h
    obtain ⟨v', r, h1, h2, h3⟩ := h
    subst h1
    exact RpL.cons hd h3
  | _ :: ds, vs, n + 1, d, v, h, hd => by
    rw [RpL] at h
    obtain ⟨v', r, h1, h2, h3⟩ := h
    subst h1
    exact RpL.cons h2 (RpL.set n h3 hd)
theorem RpL.eraseIdx {H : Hp} : ∀ {ds : List D} {vs : List V} (n : Nat), RpL K H ds vs → RpL K H (ds.eraseIdx n) (vs.eraseIdx n)
  | [], vs, n, h => by rw [RpL] at h; subst h; exact RpL.nil
  | _ :: ds, vs, 0, h => by
    rw [RpL] at h
    obtain ⟨v', r, h1, h2, h3⟩ := h
    subst h1
    exact h3
  | _ :: ds, vs, n + 1, h => by
    rw [RpL] at h
    obtain ⟨v', r, h1, h2, h3⟩ := h
    subst h1
    exact RpL.cons h2 (RpL.eraseIdx n h3)
theorem RpL.rev {H : Hp} : ∀ {ds : List D} {vs : List V}, RpL K H ds vs → RpL K H ds.reverse vs.reverse
  | [], vs, h => by rw [RpL] at h; subst h; exact RpL.nil
  | d :: ds, vs, h => by
    rw [RpL] at h
    obtain ⟨v, r, h1, h2, h3⟩ := h
    subst h1
    rw [List.reverse_cons, List.reverse_cons]
    exact RpL.app (RpL.rev h3) (RpL.cons h2 RpL.nil)
end
/-- no object within -/
def flat : D → Bool
  | .non => true
  | .bl _ => true
  | .int _ => true
  | .str _ => true
  | .ty _ => true
  | .cls _ => true
  | _ => false
theorem Rp.flat {K : PySem.W.Frag} {H H' : Hp} {d : D} {v : V} (f : flat d = true) (h : Rp K H d v) : Rp K H' d v := by
  cases d <;> simp_all [Fw.flat, Rp]
theorem RpL.flat {K : PySem.W.Frag} {H H' : Hp} : ∀ {ds : List D} {vs : List V}, ds.all Fw.flat = true → RpL K H ds vs → RpL K H' ds vs
  | [], vs, f, h => by rw [RpL] at h; subst h; exact RpL.nil
  | d :: ds, vs, f, h => by
    rw [RpL] at h
    obtain ⟨v, r, h1, h2, h3⟩ := h
    subst h1
    rw [List.all_cons, Bool.and_eq_true] at f
    exact RpL.cons (h2.flat f.1) (RpL.flat f.2 h3)
/-- F: the part of H that stays as it is; T: the tables -/
structure Ok (T : List Addr) (F H : Hp) : Prop where
  sub : Sub F H
  tab : ∀ P ∈ T, GxR.TabG H P
  ntab : ∀ P ∈ T, F P = none
structure Le (T : List Addr) (F H F' H' : Hp) : Prop where
  f : Sub F F'
  h : ∀ a o, a ∉ T → H a = some o → H' a = some o
  n : ∀ a, F a = none → H a ≠ none → F' a = none
  ok : Ok T F' H'
section
variable {T : List Addr} {F H F' H' F'' H'' : Hp}
theorem tab_ne {H : Hp} {P : Addr} (t : GxR.TabG H P) : H P ≠ none := by
  obtain ⟨ps, h, _⟩ := t
  rw [h]; simp
theorem Ok.nt (ok : Ok T F H) {p : Addr} (h : H p = none) : p ∉ T := fun m => tab_ne (ok.tab p m) h
theorem Ok.nf (ok : Ok T F H) {p : Addr} (h : H p = none) : F p = none := by
  cases e : F p with
  | none => rfl
  | some o => rw [ok.sub _ _ e] at h; cases h
theorem Ok.nT (ok : Ok T F H) {p : Addr} {o : HO} (h : F p = some o) : p ∉ T := fun m => by rw [ok.ntab p m] at h; cases h
theorem tab_upd {P p : Addr} {o : HO} (t : GxR.TabG H P) (h : H p = none) : GxR.TabG (upd H p o) P := by
  obtain ⟨ps, h1, h2⟩ := t
  exact ⟨ps, by rw [upd_ne (ne_of_none h1 h)]; exact h1, h2⟩
theorem Ok.new (ok : Ok T F H) {p : Addr} {o : HO} (h : H p = none) : Ok T (upd F p o) (upd H p o) where
  sub := fun a u e => by
    by_cases z : a = p
    · subst z; rw [upd_same] at e ⊢; exact e
    · rw [upd_ne z] at e ⊢; exact ok.sub _ _ e
  tab := fun P m => tab_upd (ok.tab P m) h
  ntab := fun P m => by
    rw [upd_ne (show P ≠ p from fun z => ok.nt h (by rw [← z]; exact m))]; exact ok.ntab P m
theorem Ok.newH (ok : Ok T F H) {p : Addr} {o : HO} (h : H p = none) : Ok T F (upd H p o) where
  sub := fun a u e => (Sub.new h) a u (ok.sub _ _ e)
  tab := fun P m => tab_upd (ok.tab P m) h
  ntab := ok.ntab
theorem Ok.frz (ok : Ok T F H) {p : Addr} {o : HO} (h : H p = some o) (hp : p ∉ T) : Ok T (upd F p o) H where
  sub := fun a u e => by
    by_cases z : a = p
    · subst z; rw [upd_same] at e; rw [h]; exact e
    · rw [upd_ne z] at e; exact ok.sub _ _ e
  tab := ok.tab
  ntab := fun P m => by
    rw [upd_ne (show P ≠ p from fun z => hp (by rw [← z]; exact m))]; exact ok.ntab P m
/-- an object that is not of F changes -/
theorem Ok.mut (ok : Ok T F H) {p : Addr} {o : HO} (hf : F p = none) (hp : p ∉ T) : Ok T F (upd H p o) where
  sub := fun a u e => by
    rw [upd_ne (show a ≠ p from fun z => by rw [z, hf] at e; cases e)]; exact ok.sub _ _ e
  tab := fun P m => by
    obtain ⟨ps, h1, h2⟩ := ok.tab P m
    exact ⟨ps, by rw [upd_ne (show P ≠ p from fun z => hp (by rw [← z]; exact m))]; exact h1, h2⟩
  ntab := ok.ntab
theorem Le.refl (ok : Ok T F H) : Le T F H F H := ⟨Sub.refl _, fun _ _ _ h => h, fun _ h _ => h, ok⟩
theorem Le.trans (a : Le T F H F' H') (b : Le T F' H' F'' H'') : Le T F H F'' H'' where
  f := a.f.trans b.f
  h := fun x o n h => b.h x o n (a.h x o n h)
  n := fun x h1 h2 => by
    by_cases m : x ∈ T
    · exact b.ok.ntab x m
    · refine b.n x (a.n x h1 h2) ?_
      cases e : H x with
      | none => exact absurd e h2
      | some o => rw [a.h x o m e]; simp
  ok := b.ok
theorem Le.new (ok : Ok T F H) {p : Addr} {o : HO} (h : H p = none) : Le T F H (upd F p o) (upd H p o) where
  f := Sub.new (ok.nf h)
  h := fun a u _ e => Sub.new h a u e
  n := fun a h1 h2 => by
    rw [upd_ne (show a ≠ p from fun z => h2 (by rw [z]; exact h))]; exact h1
  ok := ok.new h
theorem Le.newH (ok : Ok T F H) {p : Addr} {o : HO} (h : H p = none) : Le T F H F (upd H p o) where
  f := Sub.refl _
  h := fun a u _ e => Sub.new h a u e
  n := fun a h1 _ => h1
  ok := ok.newH h
/-- what was new since H is frozen -/
theorem Le.frz (l : Le T F H F' H') {p : Addr} {o : HO} (h0 : H p = none) (h : H' p = some o) (hf : F' p = none) (hp : p ∉ T) : Le T F H (upd F' p o) H' where
  f := l.f.trans (Sub.new hf)
  h := l.h
  n := fun a h1 h2 => by
    rw [upd_ne (show a ≠ p from fun z => h2 (by rw [z]; exact h0))]; exact l.n a h1 h2
  ok := l.ok.frz h hp
/-- what was new since H changes -/
theorem Le.mut (l : Le T F H F' H') {p : Addr} {o : HO} (h0 : H p = none) (hf : F' p = none) (hp : p ∉ T) : Le T F H F' (upd H' p o) where
  f := l.f
  h := fun a u m e => by
    rw [upd_ne (ne_of_none e h0)]; exact l.h a u m e
  n := l.n
  ok := l.ok.mut hf hp
theorem sqL_nt {K : PySem.W.Frag} {P : Addr} {vs : List V} (h : GxR.TabG H P) (e : Rd H P (.lst vs)) : False := by
  obtain ⟨ps, h1, _⟩ := h
  rcases e with e | ⟨o, e⟩ <;> rw [h1] at e <;> cases e
theorem sqT_nt {P : Addr} {vs : List V} (h : GxR.TabG H P) (e : Rd H P (.tup vs)) : False := by
  obtain ⟨ps, h1, _⟩ := h
  rcases e with e | ⟨o, e⟩ <;> rw [h1] at e <;> cases e
end
section
variable {K : PySem.W.Frag} {T : List Addr} {F H F' H' : Hp}
theorem Le.rd (l : Le T F H F' H') (t : ∀ P ∈ T, GxR.TabG H P) {a : Addr} {u : HO} (nu : ∀ ps, u ≠ .tbl ps) (h : Rd H a u) : Rd H' a u := by
  have nT : a ∉ T := fun m => by
    obtain ⟨ps, h1, _⟩ := t a m
    rcases h with e | ⟨o, e⟩
    · rw [h1] at e; exact nu ps (Option.some.inj e).symm
    · rw [h1] at e; cases e
  rcases h with e | ⟨o, e⟩
  · exact .inl (l.h _ _ nT e)
  · exact .inr ⟨o, l.h _ _ nT e⟩
theorem Le.l (l : Le T F H F' H') (t : ∀ P ∈ T, GxR.TabG H P) {a : Addr} {vs : List V} (h : SqL K H a vs) : SqL K H' a vs := by
  rcases h with h | h
  · exact .inl (l.rd t (fun _ z => by cases z) h)
  · exact .inr h
theorem Le.t (l : Le T F H F' H') (t : ∀ P ∈ T, GxR.TabG H P) {a : Addr} {vs : List V} (h : SqT K H a vs) : SqT K H' a vs := by
  rcases h with h | h
  · exact .inl (l.rd t (fun _ z => by cases z) h)
  · exact .inr h
mutual
theorem Le.rp (l : Le T F H F' H') (t : ∀ P ∈ T, GxR.TabG H P) : ∀ (d : D) {v : V}, Rp K H d v → Rp K H' d v
  | .non, v, h => by simpa [Rp] using h
  | .bl b, v, h => by simpa [Rp] using h
  | .int i, v, h => by simpa [Rp] using h
  | .str s, v, h => by simpa [Rp] using h
  | .ty n, v, h => by simpa [Rp] using h
  | .lst xs, v, h => by
    rw [Rp] at h ⊢
    obtain ⟨a, vs, h1, h2, h3⟩ := h
    exact ⟨a, vs, h1, l.l t h2, Le.rpl l t xs h3⟩
  | .tup xs, v, h => by
    rw [Rp] at h ⊢
    obtain ⟨a, vs, h1, h2, h3⟩ := h
    exact ⟨a, vs, h1, l.t t h2, Le.rpl l t xs h3⟩
  | .ins c ns ds, v, h => by
    rw [Rp] at h ⊢
    obtain ⟨a, dx, vs, h1, h2, h3, h4⟩ := h
    refine ⟨a, dx, vs, h1, l.h _ _ (fun m => ?_) h2, h3, Le.rpl l t ds h4⟩
    obtain ⟨ps, q, _⟩ := t a m
    rw [q] at h2; cases h2
  | .exn c ns ds, v, h => by
    rw [Rp] at h ⊢
    have nt : ∀ {b : Addr} {o : HO}, H b = some o → (∀ ps, o ≠ .tbl ps) → b ∉ T := fun {b o} e ne m => by
      obtain ⟨ps, q, _⟩ := t b m
      rw [q] at e
      exact ne ps (Option.some.inj e).symm
    obtain ⟨a, d, h1, h2, h3⟩ := h
    refine ⟨a, d, h1, l.h _ _ (nt h2 fun _ z => by cases z) h2, h3.imp id fun ⟨dd, vs, k0, k1, k2, k3, k4⟩ => ⟨dd, vs, k0, k1, l.h _ _ (nt k2 fun _ z => by cases z) k2, k3, Le.rpl l t ds k4⟩⟩
  | .emp, v, h => by
    rw [Rp] at h ⊢
    obtain ⟨a, h1, h2⟩ := h
    refine ⟨a, h1, l.h _ _ (fun m => ?_) h2⟩
    obtain ⟨ps, q, _⟩ := t a m
    rw [q] at h2; cases h2
  | .cls c, v, h => by simpa [Rp] using h
  | .slf a c ns ds, v, h => by
    rw [Rp] at h ⊢
    obtain ⟨h1, dx, vs, h2, h3, h4⟩ := h
    refine ⟨h1, dx, vs, l.h _ _ (fun m => ?_) h2, h3, Le.rpl l t ds h4⟩
    obtain ⟨ps, q, _⟩ := t a m
    rw [q] at h2; cases h2
theorem Le.rpl (l : Le T F H F' H') (t : ∀ P ∈ T, GxR.TabG H P) : ∀ (ds : List D) {vs : List V}, RpL K H ds vs → RpL K H' ds vs
  | [], vs, h => by simpa [RpL] using h
  | d :: ds, vs, h => by
    rw [RpL] at h ⊢
    obtain ⟨v, r, h1, h2, h3⟩ := h
    exact ⟨v, r, h1, Le.rp l t d h2, Le.rpl l t ds h3⟩
end
end
end Fw
namespace Fw
open PySem PySem.Spec PyProof.Rows L2
/-- what an expression gives: frozen; of the callers; a new list; a list of one's own that may change -/
inductive R where
  | val (d : D) | brw (d : D) | new (xs : List D) | bor (xs : List D)
def R.dat : R → D
  | .val d => d
  | .brw d => d
  | .new xs => .lst xs
  | .bor xs => .lst xs
/-- a new list kept as it is -/
def R.fz : R → R
  | .new xs => .val (.lst xs)
  | r => r
theorem R.fz_dat (r : R) : r.fz.dat = r.dat := by cases r <;> rfl
inductive O (α : Type) where
  | ok (a : α) | exc (c : Addr) (fs : Option (List Str × List D)) | no
def O.bind {α β : Type} (o : O α) (f : α → O β) : O β := match o with
  | .ok a => f a
  | .exc c fs => .exc c fs
  | .no => .no
def O.of {α : Type} : Option α → O α
  | some a => .ok a
  | none => .no
@[simp] theorem O.bind_ok {α β : Type} (a : α) (f : α → O β) : (O.ok a).bind f = f a := rfl
@[simp] theorem O.bind_exc {α β : Type} (c) (fs) (f : α → O β) : (O.exc c fs : O α).bind f = .exc c fs := rfl
@[simp] theorem O.bind_no {α β : Type} (f : α → O β) : (O.no : O α).bind f = .no := rfl
@[simp] theorem O.of_some {α : Type} (a : α) : O.of (some a) = .ok a := rfl
@[simp] theorem O.of_none {α : Type} : O.of (none : Option α) = .no := rfl
inductive Sl where
  | no | val (d : D) | brw (d : D) | own (xs : List D) | own2 (xss : List (List D))
  deriving Inhabited
abbrev Env := List Sl
theorem refs_inj : ∀ {ps qs : List Addr}, ps.map V.ref = qs.map V.ref → ps = qs
  | [], [], _ => rfl
  | [], q :: qs, h => by cases h
  | p :: ps, [], h => by cases h
  | p :: ps, q :: qs, h => by
    rw [List.map_cons, List.map_cons] at h
    injection h with h1 h2
    cases h1
    rw [refs_inj h2]
/-- what may be read at H0 may be read at H -/
structure Up (K : PySem.W.Frag) (H0 H : Hp) : Prop where
  rp : ∀ {d : D} {v : V}, Rp K H0 d v → Rp K H d v
  l : ∀ {p : Addr} {vs : List V}, SqL K H0 p vs → SqL K H p vs
  t : ∀ {p : Addr} {vs : List V}, SqT K H0 p vs → SqT K H p vs
section
variable (K : PySem.W.Frag) (T : List Addr)
/-- a new list of new lists -/
def Own2 (H0 F H : Hp) (p : Addr) (ps : List Addr) (xss : List (List D)) : Prop := H0 p = none ∧ F p = none ∧ p ∉ T ∧ H p = some (.lst (ps.map V.ref)) ∧ p ∉ ps ∧ ps.Nodup ∧ ps.length = xss.length ∧
  ∀ (k : Nat) (q : Addr), ps[k]? = some q → H0 q = none ∧ F q = none ∧ q ∉ T ∧ ∃ (vs : List V) (xs : List D), xss[k]? = some xs ∧ H q = some (.lst vs) ∧ RpL K F xs vs
structure EnvOk (H0 F H : Hp) (σ : L2.St) (es : Env) : Prop where
  len : σ.length = es.length
  val : ∀ (i : Nat) d, es[i]? = some (.val d) → ∃ v, σ[i]? = some (some v) ∧ Rp K F d v
  brw : ∀ (i : Nat) d, es[i]? = some (.brw d) → ∃ v, σ[i]? = some (some v) ∧ Rp K H0 d v
  own : ∀ (i : Nat) xs, es[i]? = some (.own xs) → ∃ p vs, σ[i]? = some (some (V.ref p)) ∧ H0 p = none ∧ F p = none ∧ p ∉ T ∧ H p = some (.lst vs) ∧ RpL K F xs vs
  uni : ∀ (i j : Nat) xs ys p, es[i]? = some (.own xs) → es[j]? = some (.own ys) → σ[i]? = some (some (V.ref p)) → σ[j]? = some (some (V.ref p)) → i = j
  two : ∀ (i : Nat) xss, es[i]? = some (.own2 xss) → ∃ p ps, σ[i]? = some (some (V.ref p)) ∧ Own2 K T H0 F H p ps xss ∧ (∀ (j : Nat) xs q, es[j]? = some (.own xs) → σ[j]? = some (some (V.ref q)) → q ≠ p ∧ q ∉ ps) ∧ ∀ (j : Nat) yss, es[j]? = some (.own2 yss) → j = i
/-- from the entry (F0, H0) to (F, H), the slots as the data says -/
structure StOk (F0 H0 F H : Hp) (σ : L2.St) (es : Env) : Prop where
  ok0 : Ok T F0 H0
  le : Le T F0 H0 F H
  env : EnvOk K T H0 F H σ es
def Rr (H0 H F' H' : Hp) (v : V) : R → Prop
  | .val d => Rp K F' d v
  | .brw d => Rp K H0 d v
  | .new xs => ∃ p vs, v = .ref p ∧ H p = none ∧ F' p = none ∧ p ∉ T ∧ H' p = some (.lst vs) ∧ RpL K F' xs vs
  | .bor xs => ∃ p vs, v = .ref p ∧ F' p = none ∧ p ∉ T ∧ H' p = some (.lst vs) ∧ RpL K F' xs vs
/-- the same, a new list being frozen already -/
def Rq (H0 F' H' : Hp) (v : V) : R → Prop
  | .val d => Rp K F' d v
  | .brw d => Rp K H0 d v
  | .new xs => False
  | .bor xs => ∃ p vs, v = .ref p ∧ F' p = none ∧ p ∉ T ∧ H' p = some (.lst vs) ∧ RpL K F' xs vs
def RqL (H0 F' H' : Hp) : List R → List V → Prop
  | [], vs => vs = []
  | r :: rs, vs => ∃ v t, vs = v :: t ∧ Rq K T H0 F' H' v r ∧ RqL H0 F' H' rs t
/-- an exception by its data -/
def XOk (H : Hp) (c : Addr) (fs : Option (List Str × List D)) (cls : Value) (d : Option Addr) : Prop :=
  cls = .ref c ∧ match fs with
    | none => d = none
    | some (ns, ds) => ∃ dd vs, d = some dd ∧ H dd = some (.xd (ns.zip vs)) ∧ ns.length = ds.length ∧ ds.all flat = true ∧ RpL K H ds vs
end
section
variable {K : PySem.W.Frag} {T : List Addr} {F0 H0 F H F' H' F'' H'' : Hp} {σ : L2.St} {es : Env} {v : V} {r : R}
theorem StOk.ok (h : StOk K T F0 H0 F H σ es) : Ok T F H := h.le.ok
theorem Own2.step {p : Addr} {ps : List Addr} {xss : List (List D)} (o : Own2 K T H0 F H p ps xss) (l : Le T F H F' H') : Own2 K T H0 F' H' p ps xss := by
  obtain ⟨h1, h2, h3, h4, h5, h6, h7, h8⟩ := o
  refine ⟨h1, l.n p h2 (by rw [h4]; simp), h3, l.h p _ h3 h4, h5, h6, h7, fun k q hk => ?_⟩
  obtain ⟨g1, g2, g3, vs, xs, g4, g5, g6⟩ := h8 k q hk
  exact ⟨g1, l.n q g2 (by rw [g5]; simp), g3, vs, xs, g4, l.h q _ g3 g5, g6.mono l.f⟩
theorem StOk.step (h : StOk K T F0 H0 F H σ es) (l : Le T F H F' H') : StOk K T F0 H0 F' H' σ es where
  ok0 := h.ok0
  le := h.le.trans l
  env := {
    len := h.env.len
    val := fun i d e => by
      obtain ⟨v, h1, h2⟩ := h.env.val i d e
      exact ⟨v, h1, h2.mono l.f⟩
    brw := h.env.brw
    own := fun i xs e => by
      obtain ⟨p, vs, h1, h2, h3, h4, h5, h6⟩ := h.env.own i xs e
      exact ⟨p, vs, h1, h2, l.n p h3 (by rw [h5]; simp), h4, l.h p _ h4 h5, h6.mono l.f⟩
    uni := h.env.uni
    two := fun i xss e => by
      obtain ⟨p, ps, h1, h2, h3, h4⟩ := h.env.two i xss e
      exact ⟨p, ps, h1, h2.step l, h3, h4⟩ }
theorem StOk.up (h : StOk K T F0 H0 F H σ es) : Up K H0 H := ⟨fun q => h.le.rp h.ok0.tab _ q, fun q => h.le.l h.ok0.tab q, fun q => h.le.t h.ok0.tab q⟩
theorem Rr.step (q : Rr K T H0 H F' H' v r) (l : Le T F' H' F'' H'') : Rr K T H0 H F'' H'' v r := by
  cases r with
  | val d => exact q.mono l.f
  | brw d => exact q
  | new xs =>
    obtain ⟨p, vs, h1, h2, h3, h4, h5, h6⟩ := q
    exact ⟨p, vs, h1, h2, l.n p h3 (by rw [h5]; simp), h4, l.h p _ h4 h5, h6.mono l.f⟩
  | bor xs =>
    obtain ⟨p, vs, h1, h3, h4, h5, h6⟩ := q
    exact ⟨p, vs, h1, l.n p h3 (by rw [h5]; simp), h4, l.h p _ h4 h5, h6.mono l.f⟩
theorem Rq.step (q : Rq K T H0 F' H' v r) (l : Le T F' H' F'' H'') : Rq K T H0 F'' H'' v r := by
  cases r with
  | val d => exact q.mono l.f
  | brw d => exact q
  | new xs => exact q.elim
  | bor xs =>
    obtain ⟨p, vs, h1, h3, h4, h5, h6⟩ := q
    exact ⟨p, vs, h1, l.n p h3 (by rw [h5]; simp), h4, l.h p _ h4 h5, h6.mono l.f⟩
theorem RqL.step : ∀ {rs : List R} {vs : List V}, RqL K T H0 F' H' rs vs → Le T F' H' F'' H'' → RqL K T H0 F'' H'' rs vs
  | [], vs, h, l => h
  | r :: rs, vs, h, l => by
    obtain ⟨v, t, h1, h2, h3⟩ := h
    exact ⟨v, t, h1, h2.step l, RqL.step h3 l⟩
/-- a new list is frozen -/
theorem Rr.fz (q : Rr K T H0 H F' H' v r) (l : Le T F H F' H') : ∃ F2, Le T F H F2 H' ∧ Sub F' F2 ∧ Rq K T H0 F2 H' v r.fz := by
  cases r with
  | val d => exact ⟨F', l, Sub.refl _, q⟩
  | brw d => exact ⟨F', l, Sub.refl _, q⟩
  | bor xs => exact ⟨F', l, Sub.refl _, q⟩
  | new xs =>
    obtain ⟨p, vs, h1, h2, h3, h4, h5, h6⟩ := q
    refine ⟨upd F' p (.lst vs), l.frz h2 h5 h3 h4, Sub.new h3, ?_⟩
    show Rp K _ (.lst xs) v
    rw [Rp]
    exact ⟨p, vs, h1, .inl (.inl upd_same), h6.mono (Sub.new h3)⟩
theorem Rq.toH (q : Rq K T H0 F' H' v r) (ok : Ok T F' H') (up : Up K H0 H') : Rp K H' r.dat v := by
  cases r with
  | val d => exact q.mono ok.sub
  | brw d => exact up.rp q
  | new xs => exact q.elim
  | bor xs =>
    obtain ⟨p, vs, h1, h3, h4, h5, h6⟩ := q
    show Rp K _ (.lst xs) v
    rw [Rp]
    exact ⟨p, vs, h1, .inl (.inl h5), h6.mono ok.sub⟩
theorem RqL.toH (ok : Ok T F' H') (up : Up K H0 H') : ∀ {rs : List R} {vs : List V}, RqL K T H0 F' H' rs vs → RpL K H' (rs.map R.dat) vs
  | [], vs, h => by cases h; exact RpL.nil
  | r :: rs, vs, h => by
    obtain ⟨v, t, h1, h2, h3⟩ := h
    subst h1
    exact RpL.cons (h2.toH ok up) (RqL.toH ok up h3)
/-- of the callers: what holds no object is kept -/
def nrm (d : D) : R := if flat d then .val d else .brw d
theorem rr_nrm {H1 F1 H2 : Hp} {d : D} {v : V} (h : Rp K H0 d v) : Rr K T H0 H1 F1 H2 v (nrm d) := by
  unfold nrm
  by_cases f : flat d = true
  · rw [if_pos f]; exact Rp.flat f h
  · rw [if_neg f]; exact h
theorem rq_nrm {F1 H2 : Hp} {d : D} {v : V} (h : Rp K H0 d v) : Rq K T H0 F1 H2 v (nrm d) := by
  unfold nrm
  by_cases f : flat d = true
  · rw [if_pos f]; exact Rp.flat f h
  · rw [if_neg f]; exact h
/-- what can be kept -/
def R.sto : R → Option D
  | .val d => some d
  | .brw d => if flat d then some d else none
  | .new xs => some (.lst xs)
  | .bor _ => none
theorem Rq.sto (q : Rq K T H0 F' H' v r) {d : D} (e : r.sto = some d) : Rp K F' d v := by
  cases r with
  | val d' => cases e; exact q
  | brw d' =>
    simp only [R.sto] at e
    split at e
    · rename_i f
      cases e
      exact Rp.flat f q
    · cases e
  | new xs => exact q.elim
  | bor xs => cases e
/-- the items of a list or a tuple, to be kept -/
def R.itm : R → Option (List D)
  | .val (.lst xs) => some xs
  | .val (.tup xs) => some xs
  | .bor xs => some xs
  | .brw (.lst xs) => if xs.all flat then some xs else none
  | .brw (.tup xs) => if xs.all flat then some xs else none
  | _ => none
theorem Rq.itm (q : Rq K T H0 F' H' v r) (ok : Ok T F' H') (up : Up K H0 H') {xs : List D} (e : r.itm = some xs) :
    ∃ p vs, v = .ref p ∧ (SqL K H' p vs ∨ SqT K H' p vs) ∧ RpL K F' xs vs := by
  cases r with
  | val d =>
    cases d <;> simp only [R.itm] at e <;> try cases e
    · rw [Rq, Rp] at q
      obtain ⟨a, vs, h1, h2, h3⟩ := q
      exact ⟨a, vs, h1, .inl (ok.sub.l h2), h3⟩
    · rw [Rq, Rp] at q
      obtain ⟨a, vs, h1, h2, h3⟩ := q
      exact ⟨a, vs, h1, .inr (ok.sub.t h2), h3⟩
  | brw d =>
    cases d <;> simp only [R.itm] at e <;> try cases e
    · split at e
      · rename_i f
        cases e
        have z := up.rp q
        rw [Rp] at z
        obtain ⟨a, vs, h1, h2, h3⟩ := z
        exact ⟨a, vs, h1, .inl h2, h3.flat f⟩
      · cases e
    · split at e
      · rename_i f
        cases e
        have z := up.rp q
        rw [Rp] at z
        obtain ⟨a, vs, h1, h2, h3⟩ := z
        exact ⟨a, vs, h1, .inr h2, h3.flat f⟩
      · cases e
  | new xs => exact q.elim
  | bor xs =>
    simp only [R.itm] at e
    cases e
    obtain ⟨p, vs, h1, h3, h4, h5, h6⟩ := q
    exact ⟨p, vs, h1, .inl (.inl (.inl h5)), h6⟩
end
/-! ### readings -/
section
variable (K : PySem.W.Frag) (T : List Addr) (W : WX)
/-- what follows an outcome: rel, how the value is the data's -/
def PO {α β : Type} (F H : Hp) (σ : L2.St) (rel : Hp → Hp → β → α → Prop) (Q : β → Hp → Prop) : O α → Prop
  | .ok r => ∀ v F' H', Le T F H F' H' → rel F' H' v r → Q v H'
  | .exc c fs => ∀ cls d F' H', Le T F H F' H' → XOk K H' c fs cls d → W cls d σ H'
  | .no => False
def tD (f : Env → O R) : TE := fun σ H Q => ∃ F0 H0 F es, StOk K T F0 H0 F H σ es ∧ PO K T W F H σ (Rr K T H0 H) Q (f es)
def tT (f : Env → O Bool) : TT := fun σ H Q => ∃ F0 H0 F es, StOk K T F0 H0 F H σ es ∧ PO K T W F H σ (fun _ _ b a => b = a) Q (f es)
def tDA (f : Env → O (List R)) : TA := fun σ H Q => ∃ F0 H0 F es, StOk K T F0 H0 F H σ es ∧ PO K T W F H σ (fun F' H' vs rs => RqL K T H0 F' H' rs vs) Q (f es)
end
section
variable {K : PySem.W.Frag} {T : List Addr} {W : WX} {F0 H0 F H F1 H1 : Hp} {σ : L2.St} {es : Env}
/-- new since H1 is new since H -/
theorem Rr.back {F' H' : Hp} {v : V} {r : R} (l : Le T F H F1 H1) (q : Rr K T H0 H1 F' H' v r) : Rr K T H0 H F' H' v r := by
  cases r with
  | val d => exact q
  | brw d => exact q
  | bor xs => exact q
  | new xs =>
    obtain ⟨p, vs, h1, h2, h3, h4, h5, h6⟩ := q
    refine ⟨p, vs, h1, ?_, h3, h4, h5, h6⟩
    cases e : H p with
    | none => rfl
    | some o => rw [l.h p o h4 e] at h2; cases h2
theorem PO.step {α β : Type} {rel rel' : Hp → Hp → β → α → Prop} {Q : β → Hp → Prop} {o : O α} (h : PO K T W F H σ rel Q o) (l : Le T F H F1 H1) (hr : ∀ F' H' v a, rel' F' H' v a → rel F' H' v a) : PO K T W F1 H1 σ rel' Q o := by
  cases o with
  | ok r => exact fun v F' H' l' q => h v F' H' (l.trans l') (hr _ _ _ _ q)
  | exc c fs => exact fun cls d F' H' l' q => h cls d F' H' (l.trans l') q
  | no => exact h
/-- a value first, then the rest -/
theorem po_seq {α β : Type} {rel rel' : Hp → Hp → β → α → Prop} {Q : β → Hp → Prop} {Q' : VK} {o : O R} {g : R → O α} (st : StOk K T F0 H0 F H σ es) (h : PO K T W F H σ rel Q (o.bind g))
    (hr : ∀ F1 H1, Le T F H F1 H1 → ∀ F' H' v a, rel' F' H' v a → rel F' H' v a)
    (k : ∀ a v F1 H1, o = .ok a → StOk K T F0 H0 F1 H1 σ es → Le T F H F1 H1 → Rq K T H0 F1 H1 v a.fz → PO K T W F1 H1 σ rel' Q (g a) → Q' v H1) : PO K T W F H σ (Rr K T H0 H) Q' o := by
  cases o with
  | ok a =>
    intro v F1 H1 l q
    obtain ⟨F2, l2, _, q2⟩ := q.fz l
    exact k a v F2 H1 rfl (st.step l2) l2 q2 (PO.step h l2 (hr F2 H1 l2))
  | exc c fs => exact h
  | no => exact h
/-- the same where the rest gives a value -/
theorem pr_seq {Q : VK} {Q' : VK} {o : O R} {g : R → O R} (st : StOk K T F0 H0 F H σ es) (h : PO K T W F H σ (Rr K T H0 H) Q (o.bind g))
    (k : ∀ a v F1 H1, o = .ok a → StOk K T F0 H0 F1 H1 σ es → Le T F H F1 H1 → Rq K T H0 F1 H1 v a.fz → PO K T W F1 H1 σ (Rr K T H0 H1) Q (g a) → Q' v H1) : PO K T W F H σ (Rr K T H0 H) Q' o := by
  cases o with
  | ok a =>
    intro v F1 H1 l q
    obtain ⟨F2, l2, _, q2⟩ := q.fz l
    exact k a v F2 H1 rfl (st.step l2) l2 q2 (PO.step h l2 fun _ _ _ _ => Rr.back l2)
  | exc c fs => exact h
  | no => exact h
/-- a test first -/
theorem pt_seq {Q : VK} {Q' : Bool → Hp → Prop} {o : O Bool} {g : Bool → O R} (st : StOk K T F0 H0 F H σ es) (h : PO K T W F H σ (Rr K T H0 H) Q (o.bind g))
    (k : ∀ b F1 H1, o = .ok b → StOk K T F0 H0 F1 H1 σ es → Le T F H F1 H1 → PO K T W F1 H1 σ (Rr K T H0 H1) Q (g b) → Q' b H1) : PO K T W F H σ (fun _ _ b a => b = a) Q' o := by
  cases o with
  | ok a =>
    intro v F1 H1 l q
    subst q
    exact k v F1 H1 rfl (st.step l) l (PO.step h l fun _ _ _ _ => Rr.back l)
  | exc c fs => exact h
  | no => exact h
/-- arguments first -/
theorem pa_seq {Q : VK} {Q' : List V → Hp → Prop} {o : O (List R)} {g : List R → O R} (st : StOk K T F0 H0 F H σ es) (h : PO K T W F H σ (Rr K T H0 H) Q (o.bind g))
    (k : ∀ rs vs F1 H1, o = .ok rs → StOk K T F0 H0 F1 H1 σ es → Le T F H F1 H1 → RqL K T H0 F1 H1 rs vs → PO K T W F1 H1 σ (Rr K T H0 H1) Q (g rs) → Q' vs H1) : PO K T W F H σ (fun F' H' vs rs => RqL K T H0 F' H' rs vs) Q' o := by
  cases o with
  | ok a =>
    intro v F1 H1 l q
    exact k a v F1 H1 rfl (st.step l) l q (PO.step h l fun _ _ _ _ => Rr.back l)
  | exc c fs => exact h
  | no => exact h
theorem StOk.rq (st : StOk K T F0 H0 F H σ es) {v : V} {r : R} (q : Rq K T H0 F H v r) : Rp K H r.dat v := q.toH st.ok st.up
end
/-- the rules' words: an expression is worth f -/
def DE (X : Cx) (T : List Addr) (W : WX) (e : Expr) (f : Env → O R) : Prop := PE X e (tD X.K T W f)
def DT (X : Cx) (T : List Addr) (W : WX) (e : Expr) (f : Env → O Bool) : Prop := PT X e (tT X.K T W f)
def DW (X : Cx) (T : List Addr) (W : WX) (e : Expr) (f : Env → O Bool) : Prop := PW X e (tT X.K T W f)
def DA (X : Cx) (T : List Addr) (W : WX) (es : List Expr) (f : Env → O (List R)) : Prop := PA X es (tDA X.K T W f)
theorem pe_weak {X : Cx} {e : Expr} {t t' : TE} (h : PE X e t) (w : ∀ σ H Q, t' σ H Q → t σ H Q) : PE X e t' := ⟨fun pins s σ H Q I q => h.run pins s σ H Q I (w σ H Q q)⟩
theorem pt_weak {X : Cx} {e : Expr} {t t' : TT} (h : PT X e t) (w : ∀ σ H Q, t' σ H Q → t σ H Q) : PT X e t' := ⟨fun pins s σ H Q I q => h.run pins s σ H Q I (w σ H Q q)⟩
theorem pw_weak {X : Cx} {e : Expr} {t t' : TT} (h : PW X e t) (w : ∀ σ H Q, t' σ H Q → t σ H Q) : PW X e t' := ⟨fun whole pins s σ H Q I q => h.run whole pins s σ H Q I (w σ H Q q)⟩
theorem pa_weak {X : Cx} {e : List Expr} {t t' : TA} (h : PA X e t) (w : ∀ σ H Q, t' σ H Q → t σ H Q) : PA X e t' := ⟨fun pos pins s σ H Q I q => h.run pos pins s σ H Q I (w σ H Q q)⟩
theorem ps_weak {X : Cx} {e : Stmt} {t t' : TS} (h : PS X e t) (w : ∀ D σ H, t' D σ H → t D σ H) : PS X e t' := ⟨fun pins s σ H D I q => h.run pins s σ H D I (w D σ H q)⟩
theorem pss_weak {X : Cx} {e : List Stmt} {t t' : TS} (h : PSs X e t) (w : ∀ D σ H, t' D σ H → t D σ H) : PSs X e t' := ⟨fun pins s σ H D I q => h.run pins s σ H D I (w D σ H q)⟩
theorem pi_weak {X : Cx} {tg e : Expr} {t t' : TI} (h : PI X tg e t) (w : ∀ σ H Q, t' σ H Q → t σ H Q) : PI X tg e t' := ⟨fun pins s σ H Q I q => h.run pins s σ H Q I (w σ H Q q)⟩
end Fw
namespace Fw
open PySem PySem.Spec PyProof.Rows L2
section
variable {X : Cx} {T : List Addr} {W : WX} {a b c e : Expr} {fa fb fc : Env → O R} {pos : Pos}
/-! ### names, constants -/
def fVar (i : Nat) : Env → O R := fun es => match es[i]? with
  | some (.val d) => .ok (.val d)
  | some (.brw d) => .ok (nrm d)
  | some (.own xs) => .ok (.bor xs)
  | _ => .no
theorem StOk.var {K : PySem.W.Frag} {F0 H0 F H : Hp} {σ : L2.St} {es : Env} (st : StOk K T F0 H0 F H σ es) {i : Nat} {r : R} (h : fVar i es = .ok r) : ∃ v, σ[i]? = some (some v) ∧ Rr K T H0 H F H v r := by
  unfold fVar at h
  split at h
  · rename_i d e
    cases h
    exact st.env.val i d e
  · rename_i d e
    cases h
    obtain ⟨v, h1, h2⟩ := st.env.brw i d e
    exact ⟨v, h1, rr_nrm h2⟩
  · rename_i xs e
    cases h
    obtain ⟨p, vs, h1, h2, h3, h4, h5, h6⟩ := st.env.own i xs e
    exact ⟨.ref p, h1, p, vs, rfl, h3, h4, h5, h6⟩
  · cases h
theorem de_var (i : Nat) {x : Str} {pos : Pos} (hN : X.N[i]? = some x := by rfl) (hv : Vis X.env.scope x := by first | exact Or.inl rfl | exact Or.inr (Or.inl rfl) | exact Or.inr (Or.inr rfl)) (hd : (x == ("__debug__" : Str)) = false := by decide)
    (hcd : (x == ("__classdict__" : Str)) = false := by decide) : DE X T W (.Name x pos) (fVar i) := by
  refine pe_weak (pv i hN hv hd hcd) fun σ H Q ⟨F0, H0, F, es, st, h⟩ => ?_
  cases hf : fVar i es with
  | ok r =>
    rw [hf] at h
    obtain ⟨v, h1, h2⟩ := st.var hf
    exact ⟨v, h1, h v F H (Le.refl st.ok) h2⟩
  | exc c fs =>
    unfold fVar at hf
    split at hf <;> cases hf
  | no => rw [hf] at h; exact h.elim
def fC (d : D) : Env → O R := fun _ => .ok (.val d)
theorem de_c {v : V} {d : D} (h : PE X e (tC v)) (hr : ∀ F, Rp X.K F d v) : DE X T W e (fC d) :=
  pe_weak h fun σ H Q ⟨F0, H0, F, es, st, q⟩ => q v F H (Le.refl st.ok) (hr F)
theorem de_int {i j pos} : DE X T W (.Constant (.int i) j pos) (fC (.int i)) := de_c pe_int fun F => by rw [Rp]
theorem de_bl {b j pos} : DE X T W (.Constant (.bool b) j pos) (fC (.bl b)) := de_c pe_bl fun F => by rw [Rp]
theorem de_non {j pos} : DE X T W (.Constant .none j pos) (fC .non) := de_c pe_non fun F => by rw [Rp]
theorem de_str (s : List Nat) {x j pos} (h : x = tx s := by decide +kernel) : DE X T W (.Constant (.str x) j pos) (fC (.str s)) := de_c pe_str fun F => by rw [Rp, h]
theorem de_glob {x : Str} {v : V} {u : Value} {d : D} {pos : Pos} (hg : Gl X x) (hm : X.mg x = some u) (r : RelV v u) (hr : ∀ F, Rp X.K F d v) (hd : (x == ("__debug__" : Str)) = false := by decide) : DE X T W (.Name x pos) (fC d) := de_c (pe_glob hg hm r hd) hr
/-- a name of the module that holds a text -/
theorem de_gstr (s : List Nat) {x : Str} {pos : Pos} (h : ∃ t, X.mg x = some (.str (tx s) t)) (hg : Gl X x := by rfl) (hd : (x == ("__debug__" : Str)) = false := by decide) : DE X T W (.Name x pos) (fC (.str s)) := by
  obtain ⟨t, hm⟩ := h
  exact de_glob hg hm (v := .str (tx s)) ⟨t, rfl⟩ (fun F => by rw [Rp]) hd
theorem de_gint (i : Int) {x : Str} {pos : Pos} (h : ∃ t, X.mg x = some (.int i t)) (hg : Gl X x := by rfl) (hd : (x == ("__debug__" : Str)) = false := by decide) : DE X T W (.Name x pos) (fC (.int i)) := by
  obtain ⟨t, hm⟩ := h
  exact de_glob hg hm (v := .int i) ⟨t, rfl⟩ (fun F => by rw [Rp]) hd
theorem de_bltn {x : Str} {n : String} {pos : Pos} (hm : X.mg x = none) (hv : bootBuiltins x = some (.type n)) (hg : Gl X x := by rfl) (hn : x ≠ "__name__" := by decide) (hd : (x == ("__debug__" : Str)) = false := by decide) : DE X T W (.Name x pos) (fC (.ty n)) :=
  de_c (pe_bltn hg hm hv (v := .ty n) rfl hn hd) fun F => by rw [Rp]
/-! ### operators -/
def fBin (d : R → R → Option R) (fa fb : Env → O R) : Env → O R := fun es => (fa es).bind fun a => (fb es).bind fun b => O.of (d a.fz b.fz)
def OpD (K : PySem.W.Frag) (T : List Addr) (r : R2) (d : R → R → Option R) : Prop :=
  ∀ (H0 F H : Hp) (x y : V) (a b c : R) (Q : VK), Ok T F H → Up K H0 H → Rq K T H0 F H x a → Rq K T H0 F H y b → d a b = some c →
    (∀ v F' H', Le T F H F' H' → Rr K T H0 H F' H' v c → Q v H') → r x y H Q
/-- the reading of two operands -/
theorem bin_weak {K : PySem.W.Frag} {r : R2} {d : R → R → Option R} (hd : OpD K T r d) {σ : L2.St} {H : Hp} {Q : VK} (h : tD K T W (fBin d fa fb) σ H Q) : tOp r (tD K T W fa) (tD K T W fb) σ H Q := by
  obtain ⟨F0, H0, F, es, st, h⟩ := h
  refine ⟨F0, H0, F, es, st, pr_seq st h fun a x F1 H1 _ st1 l1 q1 h1 => ?_⟩
  refine ⟨F0, H0, F1, es, st1, pr_seq st1 h1 fun b y F2 H2 _ st2 l2 q2 h2 => ?_⟩
  cases hc : d a.fz b.fz with
  | none => rw [hc] at h2; exact h2.elim
  | some c =>
    rw [hc] at h2
    exact hd H0 F2 H2 x y _ _ c Q st2.ok st2.up (q1.step l2) q2 hc h2
theorem de_bin {op : Operator} {r : R2} {d : R → R → Option R} (ho : OpR X (binaryOp op) r) (hd : OpD X.K T r d) (ha : DE X T W a fa) (hb : DE X T W b fb) : DE X T W (.BinOp a op b pos) (fBin d fa fb) :=
  pe_weak (pe_op ho ha hb) fun σ H Q h => bin_weak hd h
theorem de_cmp {op : CmpOp} {r : R2} {d : R → R → Option R} (ho : OpR X (compareOp op) r) (hd : OpD X.K T r d) (ha : DE X T W a fa) (hb : DE X T W b fb) (hm : behindInMarks op b = false := by first | exact nomark _ | rfl | with_unfolding_all rfl) : DE X T W (.Compare a [op] [b] pos) (fBin d fa fb) :=
  pe_weak (pe_cmpR ho ha hb hm) fun σ H Q h => bin_weak hd h
theorem de_ix {r : R2} {d : R → R → Option R} (ho : IxR X r) (hd : OpD X.K T r d) (ha : DE X T W a fa) (hb : DE X T W b fb) (hs : PlainIx b := by exact fun _ _ => rfl) : DE X T W (.Subscript a b pos) (fBin d fa fb) :=
  pe_weak (pe_ix ho ha hb hs) fun σ H Q h => bin_weak hd h
/-! ### tests -/
def R.tst : R → O Bool
  | .val (.bl b) => .ok b
  | _ => .no
def fTest (f : Env → O R) : Env → O Bool := fun es => (f es).bind fun r => r.fz.tst
theorem test_weak {K : PySem.W.Frag} {f : Env → O R} {σ : L2.St} {H : Hp} {Q : Bool → Hp → Prop} (h : tT K T W (fTest f) σ H Q) : tTest (tD K T W f) σ H Q := by
  obtain ⟨F0, H0, F, es, st, h⟩ := h
  refine ⟨F0, H0, F, es, st, ?_⟩
  refine po_seq (rel' := fun _ _ b a => b = a) st h (fun _ _ _ _ _ _ _ z => z) fun a v F1 H1 _ st1 l1 q1 h1 => ?_
  cases ha : a.fz.tst with
  | no => rw [ha] at h1; exact h1.elim
  | exc c fs =>
    unfold R.tst at ha
    split at ha <;> cases ha
  | ok k =>
    rw [ha] at h1
    refine ⟨k, ?_, h1 k F1 H1 (Le.refl st1.ok) rfl⟩
    unfold R.tst at ha
    split at ha
    · rename_i e
      cases ha
      rw [e, Rq, Rp] at q1
      exact q1
    · cases ha
theorem dt_cmp {op : CmpOp} {r : R2} {d : R → R → Option R} (ho : OpR X (compareOp op) r) (hd : OpD X.K T r d) (ha : DE X T W a fa) (hb : DE X T W b fb) (hm : behindInMarks op b = false := by first | exact nomark _ | rfl | with_unfolding_all rfl) : DT X T W (.Compare a [op] [b] pos) (fTest (fBin d fa fb)) :=
  pt_weak (pt_cmpR ho ha hb hm) fun σ H Q h => by
    have q := test_weak (K := X.K) h
    unfold tTest at q ⊢
    exact bin_weak hd q
theorem dt_val {f : Env → O R} (h : DE X T W e f) (he : ∀ whole, isTrue e X.env whole = (do let v ← whole; standAt e.pos; holding [v] (truthy v)) := by intro _; rfl) : DT X T W e (fTest f) :=
  pt_weak (pt_val h he) fun σ H Q q => test_weak q
def fNot (f : Env → O Bool) : Env → O Bool := fun es => (f es).bind fun b => .ok (!b)
theorem dt_not {f : Env → O Bool} (h : DT X T W a f) : DT X T W (.UnaryOp .Not a pos) (fNot f) :=
  pt_weak (pt_not h) fun σ H Q ⟨F0, H0, F, es, st, q⟩ => ⟨F0, H0, F, es, st, by
    unfold fNot at q
    cases hf : f es with
    | ok b =>
      rw [hf] at q
      exact fun v F' H' l z => by
        subst z
        exact q _ F' H' l rfl
    | exc c fs => rw [hf] at q; exact q
    | no => rw [hf] at q; exact q⟩
def fAnd (f g : Env → O Bool) : Env → O Bool := fun es => (f es).bind fun b => if b then g es else .ok false
def fOr (f g : Env → O Bool) : Env → O Bool := fun es => (f es).bind fun b => if b then .ok true else g es
variable {f g : Env → O Bool} {rest : List Expr}
theorem and_weak {K : PySem.W.Frag} {σ : L2.St} {H : Hp} {Q : Bool → Hp → Prop} (q : tT K T W (fAnd f g) σ H Q) : tAnd (tT K T W f) (tT K T W g) σ H Q := by
  obtain ⟨F0, H0, F, es, st, q⟩ := q
  refine ⟨F0, H0, F, es, st, ?_⟩
  unfold fAnd at q
  cases hf : f es with
  | ok b =>
    rw [hf] at q
    intro v F' H' l z
    subst z
    cases v with
    | true => exact ⟨F0, H0, F', es, st.step l, PO.step q l fun _ _ _ _ z => z⟩
    | false => exact q false F' H' l rfl
  | exc c fs => rw [hf] at q; exact q
  | no => rw [hf] at q; exact q
theorem or_weak {K : PySem.W.Frag} {σ : L2.St} {H : Hp} {Q : Bool → Hp → Prop} (q : tT K T W (fOr f g) σ H Q) : tOr (tT K T W f) (tT K T W g) σ H Q := by
  obtain ⟨F0, H0, F, es, st, q⟩ := q
  refine ⟨F0, H0, F, es, st, ?_⟩
  unfold fOr at q
  cases hf : f es with
  | ok b =>
    rw [hf] at q
    intro v F' H' l z
    subst z
    cases v with
    | true => exact q true F' H' l rfl
    | false => exact ⟨F0, H0, F', es, st.step l, PO.step q l fun _ _ _ _ z => z⟩
  | exc c fs => rw [hf] at q; exact q
  | no => rw [hf] at q; exact q
theorem dw_and1 (h : DT X T W a f) : DW X T W (.BoolOp .And [a] pos) f := pw_and1 h
theorem dw_or1 (h : DT X T W a f) : DW X T W (.BoolOp .Or [a] pos) f := pw_or1 h
theorem dw_and (h : DT X T W a f) (r : DW X T W (.BoolOp .And (b :: rest) pos) g) : DW X T W (.BoolOp .And (a :: b :: rest) pos) (fAnd f g) := pw_weak (pw_and h r) fun σ H Q q => and_weak q
theorem dw_or (h : DT X T W a f) (r : DW X T W (.BoolOp .Or (b :: rest) pos) g) : DW X T W (.BoolOp .Or (a :: b :: rest) pos) (fOr f g) := pw_weak (pw_or h r) fun σ H Q q => or_weak q
theorem dt_w (h : DW X T W e f) : DT X T W e f := PW.pt h
/-! ### and, or, not as values -/
def R.bv : R → O Bool := R.tst
def fAndV (fa fb : Env → O R) : Env → O R := fun es => (fa es).bind fun r => r.fz.tst.bind fun b => if b then fb es else .ok (.val (.bl false))
def fOrV (fa fb : Env → O R) : Env → O R := fun es => (fa es).bind fun r => r.fz.tst.bind fun b => if b then .ok (.val (.bl true)) else fb es
def fNotV (fa : Env → O R) : Env → O R := fun es => (fa es).bind fun r => r.fz.tst.bind fun b => .ok (.val (.bl (!b)))
theorem tst_ok {K : PySem.W.Frag} {H0 F H : Hp} {v : V} {r : R} {k : Bool} (q : Rq K T H0 F H v r) (h : r.tst = .ok k) : v = .bl k := by
  unfold R.tst at h
  split at h
  · cases h; rw [Rq, Rp] at q; exact q
  · cases h
theorem tst_exc {r : R} {c fs} (h : r.tst = .exc c fs) : False := by
  unfold R.tst at h
  split at h <;> cases h
theorem de_one {op} {f : Env → O R} (h : DE X T W a f) : DE X T W (.BoolOp op [a] pos) f := pe_one h
theorem de_and (ha : DE X T W a fa) (hb : DE X T W (.BoolOp .And (b :: rest) pos) fb) : DE X T W (.BoolOp .And (a :: b :: rest) pos) (fAndV fa fb) :=
  pe_weak (pe_and ha hb) fun σ H Q ⟨F0, H0, F, es, st, h⟩ => ⟨F0, H0, F, es, st, pr_seq st h fun a x F1 H1 _ st1 l1 q1 h1 => by
    cases hk : a.fz.tst with
    | ok k =>
      rw [hk] at h1
      refine ⟨k, tst_ok q1 hk, ?_⟩
      cases k with
      | true => exact ⟨F0, H0, F1, es, st1, h1⟩
      | false => exact h1 _ F1 H1 (Le.refl st1.ok) (by rw [Rr, Rp])
    | exc c fs => exact (tst_exc hk).elim
    | no => rw [hk] at h1; exact h1.elim⟩
theorem de_or (ha : DE X T W a fa) (hb : DE X T W (.BoolOp .Or (b :: rest) pos) fb) : DE X T W (.BoolOp .Or (a :: b :: rest) pos) (fOrV fa fb) :=
  pe_weak (pe_or ha hb) fun σ H Q ⟨F0, H0, F, es, st, h⟩ => ⟨F0, H0, F, es, st, pr_seq st h fun a x F1 H1 _ st1 l1 q1 h1 => by
    cases hk : a.fz.tst with
    | ok k =>
      rw [hk] at h1
      refine ⟨k, tst_ok q1 hk, ?_⟩
      cases k with
      | true => exact h1 _ F1 H1 (Le.refl st1.ok) (by rw [Rr, Rp])
      | false => exact ⟨F0, H0, F1, es, st1, h1⟩
    | exc c fs => exact (tst_exc hk).elim
    | no => rw [hk] at h1; exact h1.elim⟩
theorem de_not (ha : DE X T W a fa) : DE X T W (.UnaryOp .Not a pos) (fNotV fa) :=
  pe_weak (pe_not ha) fun σ H Q ⟨F0, H0, F, es, st, h⟩ => ⟨F0, H0, F, es, st, pr_seq st h fun a x F1 H1 _ st1 l1 q1 h1 => by
    cases hk : a.fz.tst with
    | ok k =>
      rw [hk] at h1
      exact ⟨k, tst_ok q1 hk, h1 _ F1 H1 (Le.refl st1.ok) (by rw [Rr, Rp])⟩
    | exc c fs => exact (tst_exc hk).elim
    | no => rw [hk] at h1; exact h1.elim⟩
/-! ### a if t else b -/
def fIf (t : Env → O Bool) (fa fb : Env → O R) : Env → O R := fun es => (t es).bind fun c => if c then fa es else fb es
theorem de_if (ht : DT X T W c f) (ha : DE X T W a fa) (hb : DE X T W b fb) : DE X T W (.IfExp c a b pos) (fIf f fa fb) :=
  pe_weak (pe_ifExp ht ha hb) fun σ H Q ⟨F0, H0, F, es, st, h⟩ => ⟨F0, H0, F, es, st, pt_seq st h fun k F1 H1 _ st1 l1 h1 => by
    cases k with
    | true => exact ⟨F0, H0, F1, es, st1, h1⟩
    | false => exact ⟨F0, H0, F1, es, st1, h1⟩⟩
/-! ### unary minus -/
def fNeg (fa : Env → O R) : Env → O R := fun es => (fa es).bind fun r => match r with
  | .val (.int i) => .ok (.val (.int (-i)))
  | _ => .no
theorem de_neg (ha : DE X T W a fa) : DE X T W (.UnaryOp .USub a pos) (fNeg fa) :=
  pe_weak (pe_un un_neg ha) fun σ H Q ⟨F0, H0, F, es, st, h⟩ => ⟨F0, H0, F, es, st, pr_seq st h fun r x F1 H1 _ st1 l1 q1 h1 => by
    split at h1
    · rename_i i _
      have q2 : Rq X.K T H0 F1 H1 x (.val (.int i)) := q1
      rw [Rq, Rp] at q2
      exact ⟨i, q2, h1 _ F1 H1 (Le.refl st1.ok) (by rw [Rr, Rp])⟩
    · exact h1.elim⟩
/-! ### displays -/
def fNil : Env → O (List R) := fun _ => .ok []
def fCons (fa : Env → O R) (fr : Env → O (List R)) : Env → O (List R) := fun es => (fa es).bind fun a => (fr es).bind fun r => .ok (a.fz :: r)
theorem da_nil : DA X T W [] fNil := pa_weak pa_nil fun σ H Q ⟨F0, H0, F, es, st, h⟩ => h [] F H (Le.refl st.ok) rfl
theorem da_cons {e : Expr} {es : List Expr} {fr : Env → O (List R)} (ha : DE X T W e fa) (hr : DA X T W es fr) (hst : starEach (e :: es) X.env = (false, eval e X.env) :: starEach es X.env := by rfl) : DA X T W (e :: es) (fCons fa fr) :=
  pa_weak (pa_cons ha hr hst) fun σ H Q ⟨F0, H0, F, es, st, h⟩ => by
    refine ⟨F0, H0, F, es, st, po_seq (rel' := fun F' H' vs rs => RqL X.K T H0 F' H' rs vs) st h (fun _ _ _ _ _ _ _ z => z) fun a x F1 H1 _ st1 l1 q1 h1 => ?_⟩
    refine ⟨F0, H0, F1, es, st1, ?_⟩
    cases hf : fr es with
    | ok r =>
      rw [hf] at h1
      exact fun vs F' H' l q => h1 (x :: vs) F' H' l ⟨x, vs, rfl, q1.step l, q⟩
    | exc c fs => rw [hf] at h1; exact h1
    | no => rw [hf] at h1; exact h1
def stoL : List R → Option (List D)
  | [] => some []
  | r :: rs => match r.sto, stoL rs with
    | some d, some ds => some (d :: ds)
    | _, _ => none
theorem stoL_ok {K : PySem.W.Frag} {H0 F H : Hp} : ∀ {rs : List R} {vs : List V} {ds : List D}, RqL K T H0 F H rs vs → stoL rs = some ds → RpL K F ds vs
  | [], vs, ds, h, e => by cases h; cases e; exact RpL.nil
  | r :: rs, vs, ds, h, e => by
    obtain ⟨v, t, h1, h2, h3⟩ := h
    subst h1
    unfold stoL at e
    split at e
    · rename_i d es e1 e2
      cases e
      exact RpL.cons (h2.sto e1) (stoL_ok h3 e2)
    · cases e
theorem RqL.len {K : PySem.W.Frag} {H0 F H : Hp} : ∀ {rs : List R} {vs : List V}, RqL K T H0 F H rs vs → rs.length = vs.length
  | [], vs, h => by cases h; rfl
  | r :: rs, vs, h => by
    obtain ⟨v, t, h1, h2, h3⟩ := h
    subst h1
    simp [RqL.len h3]
def fLst (fr : Env → O (List R)) : Env → O R := fun es => (fr es).bind fun rs => match stoL rs with
  | some ds => if ds.length ≤ 100000 then .ok (.new ds) else .no
  | none => .no
def fTup (fr : Env → O (List R)) : Env → O R := fun es => (fr es).bind fun rs => match stoL rs with
  | some ds => if ds.length ≤ 100000 then .ok (.val (.tup ds)) else .no
  | none => .no
theorem sz {n : Nat} (h : n ≤ 100000) : n ≤ sizeLine := Nat.le_trans h (by decide)
theorem szl {n : Nat} (h : n < 100000) : n < sizeLine := Nat.lt_of_lt_of_le h (by decide)
/-- a new list at p -/
theorem rr_new {K : PySem.W.Frag} {F0 H0 F H : Hp} {σ : L2.St} {es : Env} (st : StOk K T F0 H0 F H σ es) {p : Addr} (hp : H p = none) {ds : List D} {vs : List V} (h : RpL K F ds vs) : Rr K T H0 H F (upd H p (.lst vs)) (.ref p) (.new ds) :=
  ⟨p, vs, rfl, hp, st.ok.nf hp, st.ok.nt hp, upd_same, h⟩
theorem rp_tup {K : PySem.W.Frag} {F : Hp} {p : Addr} (hp : F p = none) {ds : List D} {vs : List V} (h : RpL K F ds vs) : Rp K (upd F p (.tup vs)) (.tup ds) (.ref p) := by
  rw [Rp]; exact ⟨p, vs, rfl, .inl (.inl upd_same), h.mono (Sub.new hp)⟩
theorem rp_lst {K : PySem.W.Frag} {F : Hp} {p : Addr} (hp : F p = none) {ds : List D} {vs : List V} (h : RpL K F ds vs) : Rp K (upd F p (.lst vs)) (.lst ds) (.ref p) := by
  rw [Rp]; exact ⟨p, vs, rfl, .inl (.inl upd_same), h.mono (Sub.new hp)⟩
theorem de_lst {es : List Expr} {fr : Env → O (List R)} (h : DA X T W es fr) (hn : es.length ≤ 30 := by decide) : DE X T W (.List es pos) (fLst fr) :=
  pe_weak (pe_lst h) fun σ H Q ⟨F0, H0, F, es, st, h⟩ => ⟨F0, H0, F, es, st, pa_seq st h fun rs vs F1 H1 _ st1 l1 q1 h1 => by
    cases hs : stoL rs with
    | none => rw [hs] at h1; exact h1.elim
    | some ds =>
      rw [hs] at h1
      have z := stoL_ok q1 hs
      simp only at h1
      split at h1
      · rename_i hl
        refine ⟨by rw [← z.len]; exact sz hl, fun p hp => ?_⟩
        exact h1 _ F1 _ (Le.newH st1.ok hp) (rr_new st1 hp z)
      · exact h1.elim⟩
theorem de_tup {es : List Expr} {k : Nat} {fr : Env → O (List R)} (h : DA X T W es fr) : DE X T W (.Tuple es k pos) (fTup fr) :=
  pe_weak (pe_tup h) fun σ H Q ⟨F0, H0, F, es, st, h⟩ => ⟨F0, H0, F, es, st, pa_seq st h fun rs vs F1 H1 _ st1 l1 q1 h1 => by
    cases hs : stoL rs with
    | none => rw [hs] at h1; exact h1.elim
    | some ds =>
      rw [hs] at h1
      have z := stoL_ok q1 hs
      simp only at h1
      split at h1
      · rename_i hl
        refine ⟨by rw [← z.len]; exact sz hl, fun p hp => ?_⟩
        exact h1 _ _ _ (Le.new st1.ok hp) (rp_tup (st1.ok.nf hp) z)
      · exact h1.elim⟩
end
end Fw
namespace Fw
open PySem PySem.Spec PyProof.Rows L2
section
variable {X : Cx} {T : List Addr} {K : PySem.W.Frag}
/-! ### whole numbers -/
def i2 (C : Int → Int → Bool) (f : Int → Int → D) : R → R → Option R
  | .val (.int i), .val (.int j) => if C i j then some (.val (f i j)) else none
  | _, _ => none
theorem i2_ok {C : Int → Int → Bool} {f : Int → Int → D} {a b c : R} (h : i2 C f a b = some c) : ∃ i j, a = .val (.int i) ∧ b = .val (.int j) ∧ C i j = true ∧ c = .val (f i j) := by
  unfold i2 at h
  split at h
  · split at h
    · rename_i i j hc
      cases h
      exact ⟨i, j, rfl, rfl, hc, rfl⟩
    · cases h
  · cases h
theorem rq_int {H0 F H : Hp} {v : V} {i : Int} (q : Rq K T H0 F H v (.val (.int i))) : v = .int i := by
  rw [Rq, Rp] at q; exact q
theorem rq_str {H0 F H : Hp} {v : V} {s : List Nat} (q : Rq K T H0 F H v (.val (.str s))) : v = .str (tx s) := by
  rw [Rq, Rp] at q; exact q
theorem rq_bl {H0 F H : Hp} {v : V} {s : Bool} (q : Rq K T H0 F H v (.val (.bl s))) : v = .bl s := by
  rw [Rq, Rp] at q; exact q
theorem opd_I {P : Int → Int → Prop} {C : Int → Int → Bool} {g : Int → Int → V} {f : Int → Int → D} (hc : ∀ i j, C i j = true → P i j) (hg : ∀ i j F, Rp K F (f i j) (g i j)) : OpD K T (rI P g) (i2 C f) :=
  fun H0 F H x y a b c Q ok up q1 q2 h k => by
    obtain ⟨i, j, rfl, rfl, h1, rfl⟩ := i2_ok h
    exact ⟨i, j, rq_int q1, rq_int q2, hc i j h1, k _ F H (Le.refl ok) (hg i j F)⟩
theorem opd_I0 {g : Int → Int → V} {f : Int → Int → D} (hg : ∀ i j F, Rp K F (f i j) (g i j)) : OpD K T (rI0 g) (i2 (fun _ _ => true) f) :=
  fun H0 F H x y a b c Q ok up q1 q2 h k => by
    obtain ⟨i, j, rfl, rfl, h1, rfl⟩ := i2_ok h
    exact ⟨i, j, rq_int q1, rq_int q2, k _ F H (Le.refl ok) (hg i j F)⟩
def mulC (i j : Int) : Bool := decide ((-(2 ^ 64) < i ∧ i < 2 ^ 64) ∨ (-(2 ^ 64) < j ∧ j < 2 ^ 64))
def divC (_ j : Int) : Bool := decide (0 < j ∧ j < 1073741824)
def modC (_ j : Int) : Bool := decide (0 < j)
def shlC (i j : Int) : Bool := decide (0 ≤ j ∧ j ≤ 1000000 ∧ i.natAbs < 2 ^ 64)
def shrC (_ j : Int) : Bool := decide (0 ≤ j)
def dSub := i2 (fun _ _ => true) fun i j => .int (i - j)
def dDiv := i2 divC fun i j => .int (i / j)
def dMod := i2 modC fun i j => .int (i % j)
def dShl := i2 shlC fun i j => .int (i * 2 ^ j.toNat)
def dShr := i2 shrC fun i j => .int (i / 2 ^ j.toNat)
def dAnd := i2 (fun _ _ => true) fun i j => .int (Builtin.bitAnd i j)
def dOr := i2 (fun _ _ => true) fun i j => .int (Builtin.bitOr i j)
def dXor := i2 (fun _ _ => true) fun i j => .int (Builtin.bitXor i j)
def dLt := i2 (fun _ _ => true) fun i j => .bl (decide (i < j))
def dLe := i2 (fun _ _ => true) fun i j => .bl (decide (i ≤ j))
def dGt := i2 (fun _ _ => true) fun i j => .bl (decide (j < i))
def dGe := i2 (fun _ _ => true) fun i j => .bl (decide (j ≤ i))
theorem od_sub : OpD K T (rI0 fun i j => .int (i - j)) dSub := opd_I0 fun _ _ _ => by rw [Rp]
theorem od_div : OpD K T (rI CDiv fun i j => .int (i / j)) dDiv := opd_I (fun i j h => by first | exact of_decide_eq_true h | (simpa [divC, modC, shlC, shrC, mulC, CDiv, CPow, CMul] using h)) fun _ _ _ => by rw [Rp]
theorem od_mod : OpD K T (rI (fun _ j => 0 < j) fun i j => .int (i % j)) dMod := opd_I (fun i j h => by first | exact of_decide_eq_true h | (simpa [divC, modC, shlC, shrC, mulC, CDiv, CPow, CMul] using h)) fun _ _ _ => by rw [Rp]
theorem od_shl : OpD K T (rI CPow fun i j => .int (i * 2 ^ j.toNat)) dShl := opd_I (fun i j h => by first | exact of_decide_eq_true h | (simpa [divC, modC, shlC, shrC, mulC, CDiv, CPow, CMul] using h)) fun _ _ _ => by rw [Rp]
theorem od_shr : OpD K T (rI (fun _ j => 0 ≤ j) fun i j => .int (i / 2 ^ j.toNat)) dShr := opd_I (fun i j h => by first | exact of_decide_eq_true h | (simpa [divC, modC, shlC, shrC, mulC, CDiv, CPow, CMul] using h)) fun _ _ _ => by rw [Rp]
theorem od_and : OpD K T (rI0 fun i j => .int (Builtin.bitAnd i j)) dAnd := opd_I0 fun _ _ _ => by rw [Rp]
theorem od_or : OpD K T (rI0 fun i j => .int (Builtin.bitOr i j)) dOr := opd_I0 fun _ _ _ => by rw [Rp]
theorem od_xor : OpD K T (rI0 fun i j => .int (Builtin.bitXor i j)) dXor := opd_I0 fun _ _ _ => by rw [Rp]
theorem od_lt : OpD K T (rI0 fun i j => .bl (decide (i < j))) dLt := opd_I0 fun _ _ _ => by rw [Rp]
theorem od_le : OpD K T (rI0 fun i j => .bl (decide (i ≤ j))) dLe := opd_I0 fun _ _ _ => by rw [Rp]
theorem od_gt : OpD K T (rI0 fun i j => .bl (decide (j < i))) dGt := opd_I0 fun _ _ _ => by rw [Rp]
theorem od_ge : OpD K T (rI0 fun i j => .bl (decide (j ≤ i))) dGe := opd_I0 fun _ _ _ => by rw [Rp]
theorem OpD.or {r r' : R2} {d : R → R → Option R} (h : ∀ H0 F H x y a b c Q, Ok T F H → Up K H0 H → Rq K T H0 F H x a → Rq K T H0 F H y b → d a b = some c →
    (∀ v F' H', Le T F H F' H' → Rr K T H0 H F' H' v c → Q v H') → r x y H Q ∨ r' x y H Q) : OpD K T (fun x y H Q => r x y H Q ∨ r' x y H Q) d := h
/-! ### list + list, any that may be read -/
def rCatL (K : PySem.W.Frag) : R2 := fun x y H Q => ∃ l b xs zs, x = .ref l ∧ y = .ref b ∧ SqL K H l xs ∧ SqL K H b zs ∧ xs.length + zs.length ≤ sizeLine ∧ ∀ p, H p = none → Q (.ref p) (upd H p (.lst (xs ++ zs)))
theorem op_catL : OpR X (binaryOp .Add) (rCatL X.K) := by
  intro pins s σ H x y v u Q I rx ry h
  obtain ⟨l, b, xs, zs, rfl, rfl, hl, hb, hz, q⟩ := h
  cases rx
  cases ry
  obtain ⟨is1, r1, ⟨o1, m1, g1, e1, e2, e3⟩, _⟩ := I.list hl
  obtain ⟨is2, r2, ⟨o2, m2, g2, f1, f2, f3⟩, _⟩ := I.list hb
  obtain ⟨c1, d1, t1, s1⟩ := o1
  obtain ⟨c2, d2, t2, s2⟩ := o2
  simp only at e1 e2 e3 f1 f2 f3
  subst e1 e2 e3 f1 f2 f3
  have n1 := r1.length
  have n2 := r2.length
  have e : is1.toArray ++ is2.toArray = (is1 ++ is2).toArray := by simp
  refine concat_meets ⟨_, g1, rfl⟩ ⟨_, g2, rfl⟩ noFill_list_add seq_list_add PySem.F.slot_list_add PySem.F.entry_list_add (PySem.F.args_list_add_2 _ _)
    (list_addW l b is1.toArray is2.toArray m1 m2 _ _ s1 s2 (by simp only [List.size_toArray]; omega)) ⟨g1, g2, ?_⟩
  rw [e]
  exact ⟨.ref _, _, I.lnew (t' := s.toks) (r1.append r2) (by rw [List.length_append]; omega), rfl, q _ I.fresh⟩
/-- + -/
def R.itmL : R → Option (List D)
  | .val (.lst xs) => some xs
  | .bor xs => some xs
  | .brw (.lst xs) => if xs.all flat then some xs else none
  | _ => none
theorem Rq.itmL {H0 F' H' : Hp} {v : V} {r : R} (q : Rq K T H0 F' H' v r) (ok : Ok T F' H') (up : Up K H0 H') {xs : List D} (e : r.itmL = some xs) :
    ∃ p vs, v = .ref p ∧ SqL K H' p vs ∧ RpL K F' xs vs := by
  cases r with
  | val d =>
    cases d <;> simp only [R.itmL] at e <;> try cases e
    · rw [Rq, Rp] at q
      obtain ⟨a, vs, h1, h2, h3⟩ := q
      exact ⟨a, vs, h1, ok.sub.l h2, h3⟩
  | brw d =>
    cases d <;> simp only [R.itmL] at e <;> try cases e
    · split at e
      · rename_i f
        cases e
        have z := up.rp q
        rw [Rp] at z
        obtain ⟨a, vs, h1, h2, h3⟩ := z
        exact ⟨a, vs, h1, h2, h3.flat f⟩
      · cases e
  | new xs => exact q.elim
  | bor xs =>
    simp only [R.itmL] at e
    cases e
    obtain ⟨p, vs, h1, h3, h4, h5, h6⟩ := q
    exact ⟨p, vs, h1, .inl (.inl h5), h6⟩
def catR (a b : R) : Option R := match a.itmL, b.itmL with
  | some xs, some ys => if xs.length + ys.length ≤ 100000 then some (.new (xs ++ ys)) else none
  | _, _ => none
def dAdd : R → R → Option R
  | .val (.int i), .val (.int j) => some (.val (.int (i + j)))
  | .val (.str s), .val (.str t) => if s.length + t.length ≤ 100000 then some (.val (.str (s ++ t))) else none
  | a, b => catR a b
def rAddA (K : PySem.W.Frag) : R2 := fun x y H Q => (rI0 fun i j => .int (i + j)) x y H Q ∨ ((fun x y H Q => ∃ i j, x = V.str i ∧ y = V.str j ∧ i.length + j.length ≤ sizeLine ∧ Q (.str (i ++ j)) H : R2) x y H Q ∨ rCatL K x y H Q)
theorem op_addA : OpR X (binaryOp .Add) (rAddA X.K) := OpR.or op_add (OpR.or op_add_str op_catL)
/-- a new list laid -/
theorem rr_lst {H0 F H : Hp} (ok : Ok T F H) {p : Addr} (hp : H p = none) {ds : List D} {vs : List V} (h : RpL K F ds vs) : Rr K T H0 H F (upd H p (.lst vs)) (.ref p) (.new ds) :=
  ⟨p, vs, rfl, hp, ok.nf hp, ok.nt hp, upd_same, h⟩
theorem od_add : OpD K T (rAddA K) dAdd := fun H0 F H x y a b c Q ok up q1 q2 h k => by
  unfold dAdd at h
  split at h
  · cases h
    exact .inl ⟨_, _, rq_int q1, rq_int q2, k _ F H (Le.refl ok) (by rw [Rr, Rp])⟩
  · split at h
    · rename_i s t hl
      cases h
      refine .inr (.inl ⟨_, _, rq_str q1, rq_str q2, by rw [tx_len, tx_len]; exact sz hl, ?_⟩)
      rw [tx_app]
      exact k _ F H (Le.refl ok) (by rw [Rr, Rp])
    · cases h
  · unfold catR at h
    split at h
    · rename_i xs ys e1 e2
      split at h
      · rename_i hl
        cases h
        obtain ⟨p, vs, rfl, s1, r1⟩ := q1.itmL ok up e1
        obtain ⟨p2, vs2, rfl, s2, r2⟩ := q2.itmL ok up e2
        refine .inr (.inr ⟨p, p2, vs, vs2, rfl, rfl, s1, s2, by rw [← r1.len, ← r2.len]; exact sz hl, fun p hp => ?_⟩)
        exact k _ F _ (Le.newH ok hp) (rr_lst ok hp (r1.app r2))
      · cases h
    · cases h
/-! ### * : ints, texts -/
def dMul : R → R → Option R := i2 mulC fun i j => .int (i * j)
theorem od_mul : OpD K T (rI CMul fun i j => .int (i * j)) dMul := opd_I (fun i j h => by simpa [mulC, CMul] using h) fun _ _ _ => by rw [Rp]
end
end Fw
namespace Fw
open PySem PySem.Spec PyProof.Rows L2
/-! ### == of data -/
mutual
def deq : D → D → Bool
  | .non, .non => true
  | .bl a, .bl b => a == b
  | .bl a, .int j => (if a then 1 else 0) == j
  | .int i, .bl b => i == (if b then 1 else 0)
  | .int i, .int j => i == j
  | .str s, .str t => s == t
  | .lst xs, .lst ys => deqL xs ys
  | .tup xs, .tup ys => deqL xs ys
  | _, _ => false
def deqL : List D → List D → Bool
  | [], [] => true
  | x :: xs, y :: ys => deq x y && deqL xs ys
  | _, _ => false
end
mutual
def py : D → PyData
  | .non => .none
  | .bl b => .bool b
  | .int i => .int i
  | .str s => .str (tx s)
  | .lst xs => .list (pyL xs)
  | .tup xs => .tuple (pyL xs)
  | .ty _ => .none
  | .ins _ _ _ => .none
  | .exn _ _ _ => .none
  | .emp => .none
  | .slf _ _ _ _ => .none
  | .cls _ => .none
def pyL : List D → List PyData
  | [] => []
  | d :: ds => py d :: pyL ds
end
/-- plain data, at most n deep, the signs of a text as they can be -/
def shp : Nat → D → Bool
  | _, .non => true
  | _, .bl _ => true
  | _, .int _ => true
  | _, .str s => s.all fun c => decide (c < 1114112)
  | n + 1, .lst xs => xs.all (shp n)
  | n + 1, .tup xs => xs.all (shp n)
  | _, _ => false
theorem tx_beq (s t : List Nat) : (tx s == tx t) = (s == t) := by
  by_cases h : s = t
  · subst h; simp
  · have h2 : tx s ≠ tx t := fun z => h (tx_inj z)
    rw [beq_eq_false_iff_ne.mpr h, beq_eq_false_iff_ne.mpr h2]
mutual
theorem eqv_deq : ∀ (n m : Nat) (a b : D), shp n a = true → shp m b = true → PyData.eqv (py a) (py b) = deq a b
  | n, m, .lst xs, .lst ys, h1, h2 => by
    cases n with
    | zero => simp [shp] at h1
    | succ n =>
      cases m with
      | zero => simp [shp] at h2
      | succ m =>
        simp only [shp] at h1 h2
        simp only [py, PyData.eqv, deq]
        exact eqvL_deq n m xs ys h1 h2
  | n, m, .tup xs, .tup ys, h1, h2 => by
    cases n with
    | zero => simp [shp] at h1
    | succ n =>
      cases m with
      | zero => simp [shp] at h2
      | succ m =>
        simp only [shp] at h1 h2
        simp only [py, PyData.eqv, deq]
        exact eqvL_deq n m xs ys h1 h2
  | n, m, .non, b, h1, h2 => by cases b <;> simp_all [py, PyData.eqv, deq, shp]
  | n, m, .bl x, b, h1, h2 => by cases b <;> simp_all [py, PyData.eqv, deq, shp]
  | n, m, .int x, b, h1, h2 => by cases b <;> simp_all [py, PyData.eqv, deq, shp]
  | n, m, .str x, b, h1, h2 => by cases b <;> simp_all [py, PyData.eqv, deq, shp, tx_beq]
  | n, m, .lst x, .non, h1, h2 => by simp_all [py, PyData.eqv, deq, shp]
  | n, m, .lst x, .bl _, h1, h2 => by simp_all [py, PyData.eqv, deq, shp]
  | n, m, .lst x, .int _, h1, h2 => by simp_all [py, PyData.eqv, deq, shp]
  | n, m, .lst x, .str _, h1, h2 => by simp_all [py, PyData.eqv, deq, shp]
  | n, m, .lst x, .tup _, h1, h2 => by simp_all [py, PyData.eqv, deq, shp]
  | n, m, .tup x, .non, h1, h2 => by simp_all [py, PyData.eqv, deq, shp]
  | n, m, .tup x, .bl _, h1, h2 => by simp_all [py, PyData.eqv, deq, shp]
  | n, m, .tup x, .int _, h1, h2 => by simp_all [py, PyData.eqv, deq, shp]
  | n, m, .tup x, .str _, h1, h2 => by simp_all [py, PyData.eqv, deq, shp]
  | n, m, .tup x, .lst _, h1, h2 => by simp_all [py, PyData.eqv, deq, shp]
  | n, m, .lst x, .ty _, h1, h2 => by cases m <;> simp [shp] at h2
  | n, m, .lst x, .ins _ _ _, h1, h2 => by cases m <;> simp [shp] at h2
  | n, m, .lst x, .exn _ _ _, h1, h2 => by cases m <;> simp [shp] at h2
  | n, m, .lst x, .emp, h1, h2 => by cases m <;> simp [shp] at h2
  | n, m, .lst x, .slf _ _ _ _, h1, h2 => by cases m <;> simp [shp] at h2
  | n, m, .lst x, .cls _, h1, h2 => by cases m <;> simp [shp] at h2
  | n, m, .tup x, .ty _, h1, h2 => by cases m <;> simp [shp] at h2
  | n, m, .tup x, .ins _ _ _, h1, h2 => by cases m <;> simp [shp] at h2
  | n, m, .tup x, .exn _ _ _, h1, h2 => by cases m <;> simp [shp] at h2
  | n, m, .tup x, .emp, h1, h2 => by cases m <;> simp [shp] at h2
  | n, m, .tup x, .slf _ _ _ _, h1, h2 => by cases m <;> simp [shp] at h2
  | n, m, .tup x, .cls _, h1, h2 => by cases m <;> simp [shp] at h2
  | n, m, .ty _, b, h1, h2 => by cases n <;> simp [shp] at h1
  | n, m, .ins _ _ _, b, h1, h2 => by cases n <;> simp [shp] at h1
  | n, m, .exn _ _ _, b, h1, h2 => by cases n <;> simp [shp] at h1
  | n, m, .emp, b, h1, h2 => by cases n <;> simp [shp] at h1
  | n, m, .slf _ _ _ _, b, h1, h2 => by cases n <;> simp [shp] at h1
  | n, m, .cls _, b, h1, h2 => by cases n <;> simp [shp] at h1
theorem eqvL_deq : ∀ (n m : Nat) (xs ys : List D), xs.all (shp n) = true → ys.all (shp m) = true → PyData.eqvAll (pyL xs) (pyL ys) = deqL xs ys
  | n, m, [], [], _, _ => by simp [pyL, PyData.eqvAll, deqL]
  | n, m, [], y :: ys, _, _ => by simp [pyL, PyData.eqvAll, deqL]
  | n, m, x :: xs, [], _, _ => by simp [pyL, PyData.eqvAll, deqL]
  | n, m, x :: xs, y :: ys, h1, h2 => by
    rw [List.all_cons, Bool.and_eq_true] at h1 h2
    simp only [pyL, PyData.eqvAll, deqL]
    rw [eqv_deq n m x y h1.1 h2.1, eqvL_deq n m xs ys h1.2 h2.2]
end
mutual
theorem shp_lay : ∀ (n : Nat) (a : D), shp n a = true → (py a).canLay0 = true ∧ (py a).depth ≤ n
  | n, .lst xs, h => by
    cases n with
    | zero => simp [shp] at h
    | succ n =>
      simp only [shp] at h
      have := shpL_lay n xs h
      simp only [py, PyData.canLay0, PyData.depth]
      exact ⟨this.1, by omega⟩
  | n, .tup xs, h => by
    cases n with
    | zero => simp [shp] at h
    | succ n =>
      simp only [shp] at h
      have := shpL_lay n xs h
      simp only [py, PyData.canLay0, PyData.depth]
      exact ⟨this.1, by omega⟩
  | n, .non, h => by simp [py, PyData.canLay0, PyData.depth]
  | n, .bl _, h => by simp [py, PyData.canLay0, PyData.depth]
  | n, .int _, h => by simp [py, PyData.canLay0, PyData.depth]
  | n, .str s, h => by
    have h' : (s.all fun c => decide (c < 1114112)) = true := by cases n <;> simpa only [shp] using h
    simp only [py, PyData.canLay0, PyData.depth]
    refine ⟨?_, Nat.zero_le _⟩
    show (tx s).cps.all (· < 0x110000) = true
    rw [tx]
    simpa using h'
  | n, .ty _, h => by cases n <;> simp [shp] at h
  | n, .ins _ _ _, h => by cases n <;> simp [shp] at h
  | n, .exn _ _ _, h => by cases n <;> simp [shp] at h
  | n, .emp, h => by cases n <;> simp [shp] at h
  | n, .slf _ _ _ _, h => by cases n <;> simp [shp] at h
  | n, .cls _, h => by cases n <;> simp [shp] at h
theorem shpL_lay : ∀ (n : Nat) (xs : List D), xs.all (shp n) = true → PyData.canLayAll0 (pyL xs) = true ∧ PyData.depthAll (pyL xs) ≤ n
  | n, [], _ => by simp [pyL, PyData.canLayAll0, PyData.depthAll]
  | n, x :: xs, h => by
    rw [List.all_cons, Bool.and_eq_true] at h
    have h1 := shp_lay n x h.1
    have h2 := shpL_lay n xs h.2
    simp only [pyL, PyData.canLayAll0, PyData.depthAll]
    exact ⟨by rw [h1.1, h2.1]; rfl, by omega⟩
end
theorem shp_shaped {a : D} (h : shp 60 a = true) : SeqAt.shaped (py a) = true := by
  have := shp_lay 60 a h
  unfold SeqAt.shaped
  rw [this.1, Bool.true_and]
  exact decide_eq_true (by omega)
mutual
theorem rp_dp {K : PySem.W.Frag} {H : Hp} : ∀ (n : Nat) (d : D) {v : V}, shp n d = true → Rp K H d v → Dp K H v (py d)
  | n, .non, v, _, h => by rw [Rp] at h; subst h; simp only [py]; exact .non
  | n, .bl b, v, _, h => by rw [Rp] at h; subst h; simp only [py]; exact .bl b
  | n, .int i, v, _, h => by rw [Rp] at h; subst h; simp only [py]; exact .int i
  | n, .str s, v, _, h => by rw [Rp] at h; subst h; simp only [py]; exact .str _
  | n, .lst xs, v, hs, h => by
    rw [Rp] at h
    obtain ⟨a, vs, rfl, h2, h3⟩ := h
    cases n with
    | zero => simp [shp] at hs
    | succ n =>
      simp only [shp] at hs
      simp only [py]
      exact .lst h2 (rpl_dp n xs hs h3)
  | n, .tup xs, v, hs, h => by
    rw [Rp] at h
    obtain ⟨a, vs, rfl, h2, h3⟩ := h
    cases n with
    | zero => simp [shp] at hs
    | succ n =>
      simp only [shp] at hs
      simp only [py]
      exact .tup h2 (rpl_dp n xs hs h3)
  | n, .ty _, v, hs, h => by cases n <;> simp [shp] at hs
  | n, .ins _ _ _, v, hs, h => by cases n <;> simp [shp] at hs
  | n, .exn _ _ _, v, hs, h => by cases n <;> simp [shp] at hs
  | n, .emp, v, hs, h => by cases n <;> simp [shp] at hs
  | n, .slf _ _ _ _, v, hs, h => by cases n <;> simp [shp] at hs
  | n, .cls _, v, hs, h => by cases n <;> simp [shp] at hs
theorem rpl_dp {K : PySem.W.Frag} {H : Hp} : ∀ (n : Nat) (ds : List D) {vs : List V}, ds.all (shp n) = true → RpL K H ds vs → DpAll K H vs (pyL ds)
  | n, [], vs, _, h => by rw [RpL] at h; subst h; simp only [pyL]; exact .nil
  | n, d :: ds, vs, hs, h => by
    rw [RpL] at h
    obtain ⟨v, r, rfl, h2, h3⟩ := h
    rw [List.all_cons, Bool.and_eq_true] at hs
    simp only [pyL]
    exact .cons (rp_dp n d hs.1 h2) (rpl_dp n ds hs.2 h3)
end
section
variable {X : Cx} {T : List Addr} {K : PySem.W.Frag}
def dEq (a b : R) : Option R := if shp 60 a.dat && shp 60 b.dat then some (.val (.bl (deq a.dat b.dat))) else none
def dNe (a b : R) : Option R := if shp 60 a.dat && shp 60 b.dat then some (.val (.bl (!deq a.dat b.dat))) else none
theorem od_eq : OpD K T (rEqD K) dEq := fun H0 F H x y a b c Q ok up q1 q2 h k => by
  unfold dEq at h
  split at h
  · rename_i e
    rw [Bool.and_eq_true] at e
    cases h
    refine ⟨py a.dat, py b.dat, rp_dp 60 _ e.1 (q1.toH ok up), rp_dp 60 _ e.2 (q2.toH ok up), shp_shaped e.1, shp_shaped e.2, ?_⟩
    rw [eqv_deq 60 60 _ _ e.1 e.2]
    exact k _ F H (Le.refl ok) (by rw [Rr, Rp])
  · cases h
theorem od_ne : OpD K T (rNeD K) dNe := fun H0 F H x y a b c Q ok up q1 q2 h k => by
  unfold dNe at h
  split at h
  · rename_i e
    rw [Bool.and_eq_true] at e
    cases h
    refine ⟨py a.dat, py b.dat, rp_dp 60 _ e.1 (q1.toH ok up), rp_dp 60 _ e.2 (q2.toH ok up), shp_shaped e.1, shp_shaped e.2, ?_⟩
    rw [eqv_deq 60 60 _ _ e.1 e.2]
    exact k _ F H (Le.refl ok) (by rw [Rr, Rp])
  · cases h
/-! ### in -/
def plainF : D → Bool
  | .non => true
  | .bl _ => true
  | .int _ => true
  | .str _ => true
  | _ => false
theorem flatV_of {H : Hp} {d : D} {v : V} (f : plainF d = true) (h : Rp K H d v) : flatV v = true := by
  cases d <;> simp [plainF] at f <;> (rw [Rp] at h; subst h; rfl)
theorem eqV_of {H : Hp} {d e : D} {v u : V} (f : plainF d = true) (g : plainF e = true) (h : Rp K H d v) (h' : Rp K H e u) : eqV v u = deq d e := by
  cases d <;> simp [plainF] at f <;> cases e <;> simp [plainF] at g <;> (rw [Rp] at h; rw [Rp] at h'; subst h h'; simp [eqV, deq, tx_beq])
theorem flatVs_of {H : Hp} : ∀ {ds : List D} {vs : List V}, ds.all plainF = true → RpL K H ds vs → vs.all flatV = true
  | [], vs, _, h => by rw [RpL] at h; subst h; rfl
  | d :: ds, vs, f, h => by
    rw [RpL] at h
    obtain ⟨v, r, rfl, h2, h3⟩ := h
    rw [List.all_cons, Bool.and_eq_true] at f ⊢
    exact ⟨flatV_of f.1 h2, flatVs_of f.2 h3⟩
theorem inV_of {H : Hp} {e : D} {u : V} (g : plainF e = true) (h' : Rp K H e u) : ∀ {ds : List D} {vs : List V}, ds.all plainF = true → RpL K H ds vs → inV u vs = ds.any fun d => deq d e
  | [], vs, _, h => by rw [RpL] at h; subst h; rfl
  | d :: ds, vs, f, h => by
    rw [RpL] at h
    obtain ⟨v, r, rfl, h2, h3⟩ := h
    rw [List.all_cons, Bool.and_eq_true] at f
    show (eqV v u || inV u r) = _
    rw [List.any_cons, eqV_of f.1 g h2 h', inV_of g h' f.2 h3]
def itmD : D → Option (List D)
  | .lst xs => some xs
  | .tup xs => some xs
  | _ => none
def dIn (a b : R) : Option R := match itmD b.dat with
  | some ds => if plainF a.dat && ds.all plainF then some (.val (.bl (ds.any fun d => deq d a.dat))) else none
  | none => none
def dNin (a b : R) : Option R := match itmD b.dat with
  | some ds => if plainF a.dat && ds.all plainF then some (.val (.bl (!ds.any fun d => deq d a.dat))) else none
  | none => none
theorem itmD_ok {H : Hp} {d : D} {v : V} {ds : List D} (h : Rp K H d v) (e : itmD d = some ds) : ∃ p vs, v = .ref p ∧ (SqL K H p vs ∨ SqT K H p vs) ∧ RpL K H ds vs := by
  cases d <;> simp only [itmD] at e <;> cases e
  · rw [Rp] at h
    obtain ⟨a, vs, h1, h2, h3⟩ := h
    exact ⟨a, vs, h1, .inl h2, h3⟩
  · rw [Rp] at h
    obtain ⟨a, vs, h1, h2, h3⟩ := h
    exact ⟨a, vs, h1, .inr h2, h3⟩
theorem od_in : OpD K T (rIn K false) dIn := fun H0 F H x y a b c Q ok up q1 q2 h k => by
  unfold dIn at h
  split at h
  · rename_i ds e
    split at h
    · rename_i f
      rw [Bool.and_eq_true] at f
      cases h
      obtain ⟨p, vs, rfl, h1, h2⟩ := itmD_ok (q2.toH ok up) e
      have q := q1.toH ok up
      refine ⟨p, vs, rfl, h1, flatV_of f.1 q, flatVs_of f.2 h2, ?_⟩
      rw [if_neg Bool.false_ne_true, inV_of f.1 q f.2 h2]
      exact k _ F H (Le.refl ok) (by rw [Rr, Rp])
    · cases h
  · cases h
theorem od_nin : OpD K T (rIn K true) dNin := fun H0 F H x y a b c Q ok up q1 q2 h k => by
  unfold dNin at h
  split at h
  · rename_i ds e
    split at h
    · rename_i f
      rw [Bool.and_eq_true] at f
      cases h
      obtain ⟨p, vs, rfl, h1, h2⟩ := itmD_ok (q2.toH ok up) e
      have q := q1.toH ok up
      refine ⟨p, vs, rfl, h1, flatV_of f.1 q, flatVs_of f.2 h2, ?_⟩
      rw [if_pos rfl, inV_of f.1 q f.2 h2]
      exact k _ F H (Le.refl ok) (by rw [Rr, Rp])
    · cases h
  · cases h
/-! ### is -/
def isNonD : D → Bool
  | .non => true
  | _ => false
def isB (a b : R) : Option Bool := match a.dat, b.dat with
  | .bl x, .bl y => some (decide (x = y))
  | .ty m, .ty n => some (decide (m = n))
  | x, .non => some (isNonD x)
  | _, _ => none
def dIs (a b : R) : Option R := (isB a b).map fun k => .val (.bl k)
def dNis (a b : R) : Option R := (isB a b).map fun k => .val (.bl (!k))
def rIsA : R2 := fun x y H Q => rIsB x y H Q ∨ ((fun x y H Q => ∃ m n, x = V.ty m ∧ y = V.ty n ∧ Q (.bl (decide (m = n))) H : R2) x y H Q ∨ (fun x y H Q => y = V.non ∧ Q (.bl (decide (x = .non))) H : R2) x y H Q)
def rNisA : R2 := fun x y H Q => rNotB x y H Q ∨ ((fun x y H Q => ∃ m n, x = V.ty m ∧ y = V.ty n ∧ Q (.bl (!decide (m = n))) H : R2) x y H Q ∨ (fun x y H Q => y = V.non ∧ Q (.bl (!decide (x = .non))) H : R2) x y H Q)
theorem op_isA : OpR X (compareOp .Is) rIsA := OpR.or op_isBl (OpR.or op_isTy op_isN)
theorem op_nisA : OpR X (compareOp .IsNot) rNisA := OpR.or op_notBl (OpR.or op_isNotTy op_notN)
theorem isNon_of {H : Hp} {d : D} {v : V} (h : Rp K H d v) : decide (v = .non) = isNonD d := by
  cases d <;> rw [Rp] at h <;> first | (subst h; rfl) | (obtain ⟨a, vs, rfl, _⟩ := h; rfl) | (obtain ⟨a, dx, vs, rfl, _⟩ := h; rfl) | (obtain ⟨a, d, rfl, _⟩ := h; rfl) | (obtain ⟨a, rfl, _⟩ := h; rfl) | (obtain ⟨rfl, _⟩ := h; rfl)
theorem isA_ok {H0 F H : Hp} {x y : V} {a b : R} {k : Bool} (ok : Ok T F H) (up : Up K H0 H) (q1 : Rq K T H0 F H x a) (q2 : Rq K T H0 F H y b) (h : isB a b = some k) :
    (∃ i j, x = .bl i ∧ y = .bl j ∧ decide (i = j) = k) ∨ (∃ m n, x = .ty m ∧ y = .ty n ∧ decide (m = n) = k) ∨ (y = .non ∧ decide (x = .non) = k) := by
  have z1 := q1.toH ok up
  have z2 := q2.toH ok up
  unfold isB at h
  split at h
  · rename_i e1 e2
    rw [e1, Rp] at z1; rw [e2, Rp] at z2
    exact .inl ⟨_, _, z1, z2, Option.some.inj h⟩
  · rename_i e1 e2
    rw [e1, Rp] at z1; rw [e2, Rp] at z2
    exact .inr (.inl ⟨_, _, z1, z2, Option.some.inj h⟩)
  · rename_i e2
    rw [e2, Rp] at z2
    exact .inr (.inr ⟨z2, (isNon_of z1).trans (Option.some.inj h)⟩)
  · cases h
theorem od_is : OpD K T rIsA dIs := fun H0 F H x y a b c Q ok up q1 q2 h k => by
  unfold dIs at h
  cases e : isB a b with
  | none => rw [e] at h; cases h
  | some z =>
    rw [e] at h
    cases h
    have w := k (.bl z) F H (Le.refl ok) (by rw [Rr, Rp])
    rcases isA_ok ok up q1 q2 e with ⟨i, j, h1, h2, h3⟩ | ⟨m, n, h1, h2, h3⟩ | ⟨h1, h2⟩
    · exact .inl ⟨i, j, h1, h2, by rw [h3]; exact w⟩
    · exact .inr (.inl ⟨m, n, h1, h2, by rw [h3]; exact w⟩)
    · exact .inr (.inr ⟨h1, by rw [h2]; exact w⟩)
theorem od_nis : OpD K T rNisA dNis := fun H0 F H x y a b c Q ok up q1 q2 h k => by
  unfold dNis at h
  cases e : isB a b with
  | none => rw [e] at h; cases h
  | some z =>
    rw [e] at h
    cases h
    have w := k (.bl (!z)) F H (Le.refl ok) (by rw [Rr, Rp])
    rcases isA_ok ok up q1 q2 e with ⟨i, j, h1, h2, h3⟩ | ⟨m, n, h1, h2, h3⟩ | ⟨h1, h2⟩
    · exact .inl ⟨i, j, h1, h2, by rw [h3]; exact w⟩
    · exact .inr (.inl ⟨m, n, h1, h2, by rw [h3]; exact w⟩)
    · exact .inr (.inr ⟨h1, by rw [h2]; exact w⟩)
/-! ### subscripts -/
theorem atI_len {H : Hp} {ds : List D} {vs : List V} {i : Int} {d : D} (h : RpL K H ds vs) (e : atI ds i = some d) : ∃ v, atI vs i = some v ∧ Rp K H d v := by
  unfold atI at e ⊢
  rw [← h.len]
  cases hk : ixN ds.length i with
  | none => rw [hk] at e; cases e
  | some j =>
    rw [hk] at e
    exact h.get e
def atR (i : Int) : R → Option R
  | .val (.lst xs) => (atI xs i).map .val
  | .val (.tup xs) => (atI xs i).map .val
  | .bor xs => (atI xs i).map .val
  | .brw (.lst xs) => (atI xs i).map nrm
  | .brw (.tup xs) => (atI xs i).map nrm
  | .val (.str s) => if s.length ≤ 100000 then (atI s i).map fun c => .val (.str [c]) else none
  | _ => none
def dIx : R → R → Option R
  | a, .val (.int i) => atR i a
  | _, _ => none
theorem od_ix : OpD K T (rIx K) dIx := fun H0 F H x y a b c Q ok up q1 q2 h k => by
  unfold dIx at h
  split at h
  · rename_i i
    have ey := rq_int q2
    unfold atR at h
    split at h
    · rename_i xs
      cases e : atI xs i with
      | none => rw [e] at h; cases h
      | some d =>
        rw [e] at h; cases h
        rw [Rq, Rp] at q1
        obtain ⟨p, vs, h1, h2, h3⟩ := q1
        obtain ⟨v, h4, h5⟩ := atI_len h3 e
        exact .inl ⟨p, vs, i, v, h1, ey, ok.sub.l h2, h4, k _ F H (Le.refl ok) h5⟩
    · rename_i xs
      cases e : atI xs i with
      | none => rw [e] at h; cases h
      | some d =>
        rw [e] at h; cases h
        rw [Rq, Rp] at q1
        obtain ⟨p, vs, h1, h2, h3⟩ := q1
        obtain ⟨v, h4, h5⟩ := atI_len h3 e
        exact .inr (.inl ⟨p, vs, i, v, h1, ey, ok.sub.t h2, h4, k _ F H (Le.refl ok) h5⟩)
    · rename_i xs
      cases e : atI xs i with
      | none => rw [e] at h; cases h
      | some d =>
        rw [e] at h; cases h
        obtain ⟨p, vs, h1, _, _, h2, h3⟩ := q1
        obtain ⟨v, h4, h5⟩ := atI_len h3 e
        exact .inl ⟨p, vs, i, v, h1, ey, .inl (.inl h2), h4, k _ F H (Le.refl ok) h5⟩
    · rename_i xs
      cases e : atI xs i with
      | none => rw [e] at h; cases h
      | some d =>
        rw [e] at h; cases h
        rw [Rq, Rp] at q1
        obtain ⟨p, vs, h1, h2, h3⟩ := q1
        obtain ⟨v, h4, h5⟩ := atI_len h3 e
        refine .inl ⟨p, vs, i, v, h1, ey, up.l h2, h4, k _ F H (Le.refl ok) (rr_nrm h5)⟩
    · rename_i xs
      cases e : atI xs i with
      | none => rw [e] at h; cases h
      | some d =>
        rw [e] at h; cases h
        rw [Rq, Rp] at q1
        obtain ⟨p, vs, h1, h2, h3⟩ := q1
        obtain ⟨v, h4, h5⟩ := atI_len h3 e
        refine .inr (.inl ⟨p, vs, i, v, h1, ey, up.t h2, h4, k _ F H (Le.refl ok) (rr_nrm h5)⟩)
    · rename_i s
      split at h
      · rename_i hl
        cases e : atI s i with
        | none => rw [e] at h; cases h
        | some d =>
          rw [e] at h; cases h
          refine .inr (.inr ⟨tx s, i, d, rq_str q1, ey, by rw [tx_len]; exact sz hl, by rw [tx_list]; exact e, ?_⟩)
          exact k _ F H (Le.refl ok) (by rw [Rr, Rp]; rfl)
      · cases h
    · cases h
  · cases h
end
end Fw
namespace Fw
open PySem PySem.Spec PyProof.Rows L2
section
variable {X : Cx} {T : List Addr} {W : WX} {K : PySem.W.Frag} {a b e o : Expr} {fa fb : Env → O R} {es : List Expr} {pos p2 apos : Pos} {x name : Str}
/-! ### slices -/
def fPart (f : Env → O R) : Env → O (Option Int) := fun es => (f es).bind fun r => match r with
  | .val (.int i) => .ok (some i)
  | _ => .no
def fNoPart : Env → O (Option Int) := fun _ => .ok none
def tDO (K : PySem.W.Frag) (T : List Addr) (W : WX) (f : Env → O (Option Int)) : TO := fun σ H Q => ∃ F0 H0 F es, StOk K T F0 H0 F H σ es ∧ PO K T W F H σ (fun _ _ b a => b = a) Q (f es)
def DO (X : Cx) (T : List Addr) (W : WX) (e : Option Expr) (f : Env → O (Option Int)) : Prop := L2.PO X e (tDO X.K T W f)
theorem po_weak {e : Option Expr} {t t' : TO} (h : L2.PO X e t) (w : ∀ σ H Q, t' σ H Q → t σ H Q) : L2.PO X e t' := ⟨fun pins s σ H Q I q => h.run pins s σ H Q I (w σ H Q q)⟩
theorem do_none : DO X T W none fNoPart := po_weak po_none fun σ H Q ⟨F0, H0, F, es, st, h⟩ => h none F H (Le.refl st.ok) rfl
theorem do_some (h : DE X T W e fa) : DO X T W (some e) (fPart fa) := po_weak (po_some h) fun σ H Q ⟨F0, H0, F, es, st, h⟩ => by
  refine ⟨F0, H0, F, es, st, po_seq (rel' := fun _ _ b a => b = a) st h (fun _ _ _ _ _ _ _ z => z) fun r v F1 H1 _ st1 l1 q1 h1 => ?_⟩
  split at h1
  · rename_i i _
    exact ⟨i, rq_int (T := T) (H0 := H0) (F := F1) (H := H1) q1, h1 _ F1 H1 (Le.refl st1.ok) rfl⟩
  · exact h1.elim
def cutL {α : Type} (xs : List α) (lo hi : Option Int) : List α := (xs.drop (HT.sIx xs.length 0 lo)).take (HT.sIx xs.length xs.length hi - HT.sIx xs.length 0 lo)
theorem cutL_rp {H : Hp} {ds : List D} {vs : List V} (h : RpL K H ds vs) (lo hi : Option Int) : RpL K H (cutL ds lo hi) (cutV vs lo hi) := by
  unfold cutL cutV
  rw [h.len]
  exact (h.drop _).take _
theorem cutS_tx (s : List Nat) (lo hi : Option Int) : cutS (tx s) lo hi = tx (cutL s lo hi) := by
  unfold cutS cutL
  rw [tx_list, tx_len]; rfl
def dSl (r : R) (lo hi : Option Int) : Option R := match r with
  | .val (.str s) => if s.length ≤ 100000 then some (.val (.str (cutL s lo hi))) else none
  | r => (r.itmL).map fun xs => .new (cutL xs lo hi)
def rSlQ (K : PySem.W.Frag) : V → Option Int → Option Int → Hp → VK → Prop := fun x lo hi H Q => rSlL K x lo hi H Q ∨ rSlS x lo hi H Q
theorem sl_q : SlR X (rSlQ X.K) := SlR.or sl_list sl_str
def fSl (fa : Env → O R) (lo hi : Env → O (Option Int)) : Env → O R := fun es => (fa es).bind fun r => (lo es).bind fun l => (hi es).bind fun h => O.of (dSl r.fz l h)
/-- a part first -/
theorem po_part {F0 H0 F H : Hp} {σ : L2.St} {es : Env} {Q : VK} {Q' : Option Int → Hp → Prop} {o : O (Option Int)} {g : Option Int → O R} (st : StOk K T F0 H0 F H σ es) (h : PO K T W F H σ (Rr K T H0 H) Q (o.bind g))
    (k : ∀ b F1 H1, o = .ok b → StOk K T F0 H0 F1 H1 σ es → Le T F H F1 H1 → PO K T W F1 H1 σ (Rr K T H0 H1) Q (g b) → Q' b H1) : PO K T W F H σ (fun _ _ b a => b = a) Q' o := by
  cases o with
  | ok a =>
    intro v F1 H1 l q
    subst q
    exact k v F1 H1 rfl (st.step l) l (PO.step h l fun _ _ _ _ => Rr.back l)
  | exc c fs => exact h
  | no => exact h
theorem de_slice {lo hi : Option Expr} {fl fh : Env → O (Option Int)} (ha : DE X T W e fa) (hl : DO X T W lo fl) (hh : DO X T W hi fh) : DE X T W (.Subscript e (.Slice lo hi none p2) pos) (fSl fa fl fh) :=
  pe_weak (pe_slice sl_q ha hl hh) fun σ H Q ⟨F0, H0, F, es, st, h⟩ => by
    refine ⟨F0, H0, F, es, st, pr_seq st h fun r v F1 H1 _ st1 l1 q1 h1 => ?_⟩
    refine ⟨F0, H0, F1, es, st1, po_part st1 h1 fun lo F2 H2 _ st2 l2 h2 => ?_⟩
    refine ⟨F0, H0, F2, es, st2, po_part st2 h2 fun hi F3 H3 _ st3 l3 h3 => ?_⟩
    have q := (q1.step l2).step l3
    cases hd : dSl r.fz lo hi with
    | none => rw [hd] at h3; exact h3.elim
    | some c =>
      rw [hd] at h3
      generalize r.fz = r' at hd q
      unfold dSl at hd
      split at hd
      · rename_i s
        split at hd
        · rename_i hz
          cases hd
          refine .inr ⟨_, rq_str q, by rw [tx_len]; exact sz hz, ?_⟩
          rw [cutS_tx]
          exact h3 _ F3 H3 (Le.refl st3.ok) (by rw [Rr, Rp])
        · cases hd
      · cases e : r'.itmL with
        | none => rw [e] at hd; cases hd
        | some xs =>
          rw [e] at hd
          cases hd
          obtain ⟨p, vs, rfl, s1, r1⟩ := q.itmL st3.ok st3.up e
          refine .inl ⟨p, vs, rfl, s1, fun z hz => ?_⟩
          exact h3 _ F3 _ (Le.newH st3.ok hz) (rr_lst st3.ok hz (cutL_rp r1 lo hi))
/-- xs[::-1] -/
def fRev (fa : Env → O R) : Env → O R := fun es => (fa es).bind fun r => match r.fz.itmL with
  | some xs => .ok (.new xs.reverse)
  | none => .no
theorem de_rev {k : Nat} {p1 p2 p3 : Pos} (ha : DE X T W e fa) : DE X T W (.Subscript e (.Slice none none (some (.UnaryOp .USub (.Constant (.int 1) k p1) p2)) p3) pos) (fRev fa) :=
  pe_weak (pe_revL ha) fun σ H Q ⟨F0, H0, F, es, st, h⟩ => by
    refine ⟨F0, H0, F, es, st, pr_seq st h fun r v F1 H1 _ st1 l1 q1 h1 => ?_⟩
    split at h1
    · rename_i xs e
      obtain ⟨p, vs, rfl, s1, r1⟩ := q1.itmL st1.ok st1.up e
      refine ⟨p, vs, rfl, s1, fun z hz => ?_⟩
      exact h1 _ F1 _ (Le.newH st1.ok hz) (rr_lst st1.ok hz r1.rev)
    · exact h1.elim
/-! ### defs -/
/-- a def by what it is on data -/
def spD (K : PySem.W.Frag) (T : List Addr) (n : Nat) (g : List D → O R) : Sp := fun vs H Q E => ∃ F ds, vs.length = n ∧ Ok T F H ∧ RpL K H ds vs ∧ match g ds with
  | .ok (.val d) => ∀ v F' H', Le T F H F' H' → Rr K T H H F' H' v (.val d) → Q v H'
  | .ok (.new xs) => ∀ v F' H', Le T F H F' H' → Rr K T H H F' H' v (.new xs) → Q v H'
  | .exc c fs => ∀ cls d F' H', Le T F H F' H' → XOk K H' c fs cls d → E cls d H'
  | _ => False
def fCall (g : List D → O R) (fr : Env → O (List R)) : Env → O R := fun es => (fr es).bind fun rs => match g (rs.map R.dat) with
  | .ok (.val d) => .ok (.val d)
  | .ok (.new xs) => .ok (.new xs)
  | .exc c fs => .exc c fs
  | _ => .no
/-- a def's call, from its promise; Ec: what is wanted of an exception -/
theorem call_weak {n : Nat} {g : List D → O R} {fr : Env → O (List R)} {Ec : L2.St → XK} {σ : L2.St} {H : Hp} {Q : VK} (hx : ∀ cls d H', W cls d σ H' → Ec σ cls d H') (hn : ∀ es rs, fr es = .ok rs → rs.length = n)
    (h : tD K T W (fCall g fr) σ H Q) : tDA K T W fr σ H fun vs H1 => spD K T n g vs H1 Q (Ec σ) := by
  obtain ⟨F0, H0, F, es, st, h⟩ := h
  refine ⟨F0, H0, F, es, st, pa_seq st h fun rs vs F1 H1 hrs st1 l1 q1 h1 => ?_⟩
  refine ⟨F1, rs.map R.dat, by rw [← q1.len]; exact hn es rs hrs, st1.ok, q1.toH st1.ok st1.up, ?_⟩
  cases hg : g (rs.map R.dat) with
  | no => rw [hg] at h1; exact h1
  | exc c fs =>
    rw [hg] at h1
    exact fun cls d F' H' l q => hx cls d H' (h1 cls d F' H' l q)
  | ok r =>
    rw [hg] at h1
    cases r with
    | val d => exact fun v F' H' l q => h1 v F' H' l q
    | new xs => exact fun v F' H' l q => h1 v F' H' l q
    | brw d => exact h1
    | bor xs => exact h1
/-- how many arguments -/
theorem fCons_len {fa : Env → O R} {fr : Env → O (List R)} {n : Nat} (h : ∀ es rs, fr es = .ok rs → rs.length = n) : ∀ es rs, fCons fa fr es = .ok rs → rs.length = n + 1 := by
  intro es rs e
  unfold fCons at e
  cases ha : fa es with
  | ok r =>
    rw [ha] at e
    cases hr : fr es with
    | ok l =>
      rw [hr] at e
      cases e
      show l.length + 1 = n + 1
      rw [h es l hr]
    | exc c fs => rw [hr] at e; cases e
    | no => rw [hr] at e; cases e
  | exc c fs => rw [ha] at e; cases e
  | no => rw [ha] at e; cases e
theorem fNil_len : ∀ es rs, fNil es = .ok rs → rs.length = 0 := by
  intro es rs e
  cases e
  rfl
/-- a call where nothing is raised -/
def fCall0 (g : List D → O R) (fr : Env → O (List R)) : Env → O R := fun es => (fr es).bind fun rs => match g (rs.map R.dat) with
  | .ok (.val d) => .ok (.val d)
  | .ok (.new xs) => .ok (.new xs)
  | _ => .no
theorem call0_weak {n : Nat} {g : List D → O R} {fr : Env → O (List R)} {Ec : XK} {σ : L2.St} {H : Hp} {Q : VK} (hn : ∀ es rs, fr es = .ok rs → rs.length = n)
    (h : tD K T W (fCall0 g fr) σ H Q) : tDA K T W fr σ H fun vs H1 => spD K T n g vs H1 Q Ec := by
  obtain ⟨F0, H0, F, es, st, h⟩ := h
  refine ⟨F0, H0, F, es, st, pa_seq st h fun rs vs F1 H1 hrs st1 l1 q1 h1 => ?_⟩
  refine ⟨F1, rs.map R.dat, by rw [← q1.len]; exact hn es rs hrs, st1.ok, q1.toH st1.ok st1.up, ?_⟩
  cases hg : g (rs.map R.dat) with
  | no => rw [hg] at h1; exact h1
  | exc c fs => rw [hg] at h1; exact h1.elim
  | ok r =>
    rw [hg] at h1
    cases r with
    | val d => exact fun v F' H' l q => h1 v F' H' l q
    | new xs => exact fun v F' H' l q => h1 v F' H' l q
    | brw d => exact h1
    | bor xs => exact h1
/-- f(..), nothing raised -/
theorem de_call {CX : CXT} {Ec : XK} {k n : Nat} {f : Addr} {fd : FuncData} {ps : List Str} {g : List D → O R} {fr : Env → O (List R)} {pos p : Pos} (F : FnOk X.prog X.w X.K X.mg X.base CX k f fd ps (spD X.K T n g)) (hx : Passes CX X Ec) (hr : Room k X.A) (hm : X.mg x = some (.ref f))
    (hk : PySem.W.keepIn X.K (.ref f) = true) (hb : Binds X.K fd ps []) (ha : DA X T W (e :: es) fr) (hn : ∀ es rs, fr es = .ok rs → rs.length = n) (hg : Gl X x := by rfl) (hdb : (x == ("__debug__" : Str)) = false := by decide)
    (he : starEach (e :: es) X.env = (false, eval e X.env) :: starEach es X.env := by rfl) (hpl : (backTo pos (starEach es X.env)).any (·.1) = false := by rfl) : DE X T W (.Call (.Name x p) (e :: es) [] pos) (fCall0 g fr) :=
  pe_weak (pe_call F hr hg hm hk hb .nil hx ha hdb he hpl) fun σ H Q h => by
    show tDA _ _ _ _ _ _ _
    have z := call0_weak (n := n) (Ec := Ec) hn h
    obtain ⟨F0, H0, F, es, st, z⟩ := z
    refine ⟨F0, H0, F, es, st, ?_⟩
    cases ho : fr es with
    | no => rw [ho] at z; exact z
    | exc c fs => rw [ho] at z; exact z
    | ok rs =>
      rw [ho] at z
      intro vs F' H' l q
      rw [List.append_nil]
      exact z vs F' H' l q
/-! ### built-ins by values -/
def CallD (K : PySem.W.Frag) (T : List Addr) (r : List V → Hp → VK → Prop) (d : List R → Option R) : Prop :=
  ∀ (H0 F H : Hp) (vs : List V) (rs : List R) (c : R) (Q : VK), Ok T F H → Up K H0 H → RqL K T H0 F H rs vs → d rs = some c → (∀ v F' H', Le T F H F' H' → Rr K T H0 H F' H' v c → Q v H') → r vs H Q
def fBi (d : List R → Option R) (fr : Env → O (List R)) : Env → O R := fun es => (fr es).bind fun rs => O.of (d rs)
theorem bi_weak {r : List V → Hp → VK → Prop} {d : List R → Option R} {fr : Env → O (List R)} (hd : CallD K T r d) {σ : L2.St} {H : Hp} {Q : VK} (h : tD K T W (fBi d fr) σ H Q) : tCB r (tDA K T W fr) σ H Q := by
  obtain ⟨F0, H0, F, es, st, h⟩ := h
  refine ⟨F0, H0, F, es, st, pa_seq st h fun rs vs F1 H1 _ st1 l1 q1 h1 => ?_⟩
  cases hc : d rs with
  | none => rw [hc] at h1; exact h1.elim
  | some c =>
    rw [hc] at h1
    exact hd H0 F1 H1 vs rs c Q st1.ok st1.up q1 hc h1
theorem de_bi {id : String} {r : List V → Hp → VK → Prop} {d : List R → Option R} {fr : Env → O (List R)} {pos p : Pos} (hc : CallR X (.builtin id) r) (hd : CallD X.K T r d) (hm : X.mg x = none) (hv : bootBuiltins x = some (.builtin id)) (ha : DA X T W (e :: es) fr)
    (hg : Gl X x := by rfl) (hn : x ≠ "__name__" := by decide) (hdb : (x == ("__debug__" : Str)) = false := by decide) (he : starEach (e :: es) X.env = (false, eval e X.env) :: starEach es X.env := by rfl) (hpl : (backTo pos (starEach es X.env)).any (·.1) = false := by rfl) :
    DE X T W (.Call (.Name x p) (e :: es) [] pos) (fBi d fr) := pe_weak (pe_callB hc hg hm hv ha hn hdb he hpl) fun σ H Q h => bi_weak hd h
theorem de_biT {ty : String} {r : List V → Hp → VK → Prop} {d : List R → Option R} {fr : Env → O (List R)} {pos p : Pos} (hc : CallR X (.type ty) r) (hd : CallD X.K T r d) (hm : X.mg x = none) (hv : bootBuiltins x = some (.type ty)) (ha : DA X T W (e :: es) fr)
    (hg : Gl X x := by rfl) (hn : x ≠ "__name__" := by decide) (hdb : (x == ("__debug__" : Str)) = false := by decide) (he : starEach (e :: es) X.env = (false, eval e X.env) :: starEach es X.env := by rfl) (hpl : (backTo pos (starEach es X.env)).any (·.1) = false := by rfl) :
    DE X T W (.Call (.Name x p) (e :: es) [] pos) (fBi d fr) := pe_weak (pe_callTy hc hg hm hv ha hn hdb he hpl) fun σ H Q h => bi_weak hd h
end
end Fw
namespace Fw
open PySem PySem.Spec PyProof.Rows L2
section
variable {X : Cx} {T : List Addr} {W : WX} {K : PySem.W.Frag}
theorem rql1 {H0 F H : Hp} {r : R} {vs : List V} (q : RqL K T H0 F H [r] vs) : ∃ v, vs = [v] ∧ Rq K T H0 F H v r := by
  obtain ⟨v, t, h1, h2, h3⟩ := q
  cases h3
  exact ⟨v, h1, h2⟩
theorem rql2 {H0 F H : Hp} {r u : R} {vs : List V} (q : RqL K T H0 F H [r, u] vs) : ∃ v w, vs = [v, w] ∧ Rq K T H0 F H v r ∧ Rq K T H0 F H w u := by
  obtain ⟨v, t, h1, h2, h3⟩ := q
  obtain ⟨w, rfl, h4⟩ := rql1 h3
  exact ⟨v, w, h1, h2, h4⟩
/-! ### len -/
def lenD : D → Option Int
  | .str s => if s.length ≤ 100000 then some s.length else none
  | .lst xs => some xs.length
  | .tup xs => some xs.length
  | _ => none
def dLen : List R → Option R
  | [r] => (lenD r.dat).map fun n => .val (.int n)
  | _ => none
theorem cd_len : CallD K T (fun xs H Q => ∃ x n, xs = [x] ∧ LenV K x H n ∧ Q (.int n) H) dLen := fun H0 F H vs rs c Q ok up q h k => by
  unfold dLen at h
  split at h
  · rename_i r
    obtain ⟨v, rfl, q1⟩ := rql1 q
    have z := q1.toH ok up
    cases e : lenD r.dat with
    | none => rw [e] at h; cases h
    | some n =>
      rw [e] at h
      cases h
      have w := k (.int n) F H (Le.refl ok) (by rw [Rr, Rp])
      unfold lenD at e
      split at e
      · rename_i s es
        split at e
        · rename_i hl
          cases e
          rw [es, Rp] at z
          subst z
          exact ⟨_, s.length, rfl, ⟨by rw [tx_len]; exact sz hl, (tx_len s).symm⟩, w⟩
        · cases e
      · rename_i s es
        cases e
        rw [es, Rp] at z
        obtain ⟨p, us, rfl, h2, h3⟩ := z
        exact ⟨_, s.length, rfl, .inl ⟨us, h2, h3.len⟩, w⟩
      · rename_i s es
        cases e
        rw [es, Rp] at z
        obtain ⟨p, us, rfl, h2, h3⟩ := z
        exact ⟨_, s.length, rfl, .inr ⟨us, h2, h3.len⟩, w⟩
      · cases e
  · cases h
/-! ### type, isinstance -/
def tyD : D → Option String
  | .non => some "NoneType"
  | .bl _ => some "bool"
  | .int _ => some "int"
  | .str _ => some "str"
  | .lst _ => some "list"
  | .tup _ => some "tuple"
  | _ => none
def tyD2 : D → Option String
  | .emp => some "dict"
  | d => tyD d
def dType : List R → Option R
  | [r] => (tyD2 r.dat).map fun n => .val (.ty n)
  | _ => none
theorem tyB_of {H : Hp} {d : D} {v : V} {n : String} (h : Rp K H d v) (e : tyD d = some n) : TyB K H v n := by
  cases d <;> simp only [tyD] at e <;> cases e <;> rw [Rp] at h
  · subst h; exact .non
  · subst h; exact .bl _
  · subst h; exact .int _
  · subst h; exact .str _
  · obtain ⟨a, vs, rfl, h2, _⟩ := h; exact .lst h2
  · obtain ⟨a, vs, rfl, h2, _⟩ := h; exact .tup h2
theorem tyB_of2 {H : Hp} {d : D} {v : V} {n : String} (h : Rp K H d v) (e : tyD2 d = some n) : TyB K H v n := by
  cases d <;> first | exact tyB_of h e | skip
  cases e
  rw [Rp] at h
  obtain ⟨a, rfl, h2⟩ := h
  exact .dK h2
theorem cd_type : CallD K T (rTyp K) dType := fun H0 F H vs rs c Q ok up q h k => by
  unfold dType at h
  split at h
  · rename_i r
    obtain ⟨v, rfl, q1⟩ := rql1 q
    cases e : tyD2 r.dat with
    | none => rw [e] at h; cases h
    | some n =>
      rw [e] at h
      cases h
      exact ⟨v, n, rfl, tyB_of2 (q1.toH ok up) e, k _ F H (Le.refl ok) (by rw [Rr, Rp])⟩
  · cases h
/-- isinstance of plain data and a built-in class -/
def isiB (a n : String) : Option Bool :=
  if n = "bool" then some (decide (a = "bool"))
  else if n = "int" then some (decide (a = "int") || decide (a = "bool"))
  else if n = "str" then some (decide (a = "str"))
  else if n = "list" then some (decide (a = "list"))
  else if n = "tuple" then some (decide (a = "tuple"))
  else none
def tyNames : List String := ["NoneType", "bool", "int", "str", "list", "tuple"]
theorem isiB_kit : ∀ a ∈ tyNames, ∀ n ∈ ["bool", "int", "str", "list", "tuple"], ∀ k, isiB a n = some k → kitB a n = some k := by
  have h : (tyNames.all fun a => ["bool", "int", "str", "list", "tuple"].all fun n => match isiB a n with
    | some k => decide (kitB a n = some k)
    | none => true) = true := by decide +kernel
  intro a ha n hn k hk
  have h1 := List.all_eq_true.mp h a ha
  have h2 := List.all_eq_true.mp h1 n hn
  rw [hk] at h2
  exact of_decide_eq_true h2
theorem isiB_n {a n : String} {k : Bool} (h : isiB a n = some k) : n ∈ ["bool", "int", "str", "list", "tuple"] := by
  unfold isiB at h
  by_cases h1 : n = "bool"
  · simp [h1]
  by_cases h2 : n = "int"
  · simp [h2]
  by_cases h3 : n = "str"
  · simp [h3]
  by_cases h4 : n = "list"
  · simp [h4]
  by_cases h5 : n = "tuple"
  · simp [h5]
  · simp [h1, h2, h3, h4, h5] at h
theorem tyD_n {d : D} {a : String} (h : tyD d = some a) : a ∈ tyNames := by
  cases d <;> simp only [tyD] at h <;> cases h <;> simp [tyNames]
def dIsi : List R → Option R
  | [r, .val (.ty n)] => match tyD r.dat with
    | some a => (isiB a n).map fun k => .val (.bl k)
    | none => none
  | _ => none
theorem tyX_of {H : Hp} {d : D} {v : V} {n : String} (h : Rp K H d v) (e : tyD d = some n) : TyX K H v (.type n) := by
  cases d <;> simp only [tyD] at e <;> cases e <;> rw [Rp] at h
  · subst h; exact .base .non
  · subst h; exact .base (.bl _)
  · subst h; exact .base (.int _)
  · subst h; exact .base (.str _)
  · obtain ⟨a, vs, rfl, h2, _⟩ := h
    rcases h2 with (h2 | ⟨o, h2⟩) | ⟨o, its, n, h2, h3, _⟩
    · exact .base (.lst h2)
    · exact .base (.frz h2)
    · exact .kList h2 h3
  · obtain ⟨a, vs, rfl, h2, _⟩ := h
    rcases h2 with (h2 | ⟨o, h2⟩) | ⟨o, its, n, h2, h3, _⟩
    · exact .base (.tup h2)
    · exact .fTuple h2
    · exact .kTuple h2 h3
theorem cd_isi : CallD K T (rIsi K) dIsi := fun H0 F H vs rs c Q ok up q h k => by
  unfold dIsi at h
  split at h
  · rename_i r n
    obtain ⟨v, w, rfl, q1, q2⟩ := rql2 q
    split at h
    · rename_i a ea
      cases e : isiB a n with
      | none => rw [e] at h; cases h
      | some b =>
        rw [e] at h
        cases h
        rw [Rq, Rp] at q2
        exact ⟨v, w, .type a, .type n, b, rfl, by rw [q2]; exact .ty n, tyX_of (q1.toH ok up) ea, kit_ty (isiB_kit a (tyD_n ea) n (isiB_n e) b e), k _ F H (Le.refl ok) (by rw [Rr, Rp])⟩
    · cases h
  · cases h
/-! ### int -/
/-- a text of one figure -/
def numS : List Nat → Option Int
  | [c] => if 48 ≤ c ∧ c ≤ 57 then some ((c : Int) - 48) else none
  | _ => none
theorem numS_ok {s : List Nat} {n : Int} (h : numS s = some n) : PySem.intText? (tx s) = some n := by
  unfold numS at h
  split at h
  · rename_i c
    split at h
    · rename_i hc
      cases h
      have : ∀ c, c ≤ 57 → 48 ≤ c → PySem.intText? (tx [c]) = some ((c : Int) - 48) := by
        have h : ((List.range 58).all fun c => decide (48 ≤ c → PySem.intText? (tx [c]) = some ((c : Int) - 48))) = true := by decide +kernel
        intro c h1 h2
        exact of_decide_eq_true (List.all_eq_true.mp h c (List.mem_range.mpr (by omega))) h2
      exact this c hc.2 hc.1
    · cases h
  · cases h
def dInt : List R → Option R
  | [.val (.int i)] => some (.val (.int i))
  | [.val (.bl b)] => some (.val (.int (if b then 1 else 0)))
  | [.val (.str s)] => if s.length ≤ 600 then (numS s).map fun n => .val (.int n) else none
  | _ => none
def rIntA : List V → Hp → VK → Prop := fun xs H Q => ((fun xs H Q => (∃ i, xs = [V.int i] ∧ Q (.int i) H) ∨ ∃ k, xs = [V.bl k] ∧ Q (.int (if k then 1 else 0)) H : List V → Hp → VK → Prop) xs H Q) ∨
  ((fun xs H Q => ∃ a n, xs = [V.str a] ∧ PySem.intText? a = some n ∧ a.length ≤ 640 ∧ Q (.int n) H : List V → Hp → VK → Prop) xs H Q)
theorem call_intA : CallR X (.type "int") rIntA := fun pins s σ H xs us Q I r h => by
  rcases h with h | h
  · exact call_int1 pins s σ H xs us Q I r h
  · exact call_int_str pins s σ H xs us Q I r h
theorem cd_int : CallD K T rIntA dInt := fun H0 F H vs rs c Q ok up q h k => by
  unfold dInt at h
  split at h
  · obtain ⟨v, rfl, q1⟩ := rql1 q
    cases h
    exact .inl (.inl ⟨_, by rw [rq_int q1], k _ F H (Le.refl ok) (by rw [Rr, Rp])⟩)
  · obtain ⟨v, rfl, q1⟩ := rql1 q
    cases h
    exact .inl (.inr ⟨_, by rw [rq_bl q1], k _ F H (Le.refl ok) (by rw [Rr, Rp])⟩)
  · rename_i s
    split at h
    · rename_i hl
      obtain ⟨v, rfl, q1⟩ := rql1 q
      cases e : numS s with
      | none => rw [e] at h; cases h
      | some n =>
        rw [e] at h
        cases h
        exact .inr ⟨tx s, n, by rw [rq_str q1], numS_ok e, by rw [tx_len]; omega, k _ F H (Le.refl ok) (by rw [Rr, Rp])⟩
    · cases h
  · cases h
/-! ### list(xs) -/
def signsD (s : List Nat) : List D := s.map fun c => .str [c]
theorem signs_rp {H : Hp} : ∀ s : List Nat, RpL K H (signsD s) (s.map fun c => V.str ⟨#[c]⟩)
  | [] => RpL.nil
  | c :: s => RpL.cons (by rw [Rp]; rfl) (signs_rp s)
def dList : List R → Option R
  | [.val (.str s)] => if s.length ≤ 100000 then some (.new (signsD s)) else none
  | [r] => r.itm.map .new
  | _ => none
def rListA (K : PySem.W.Frag) : List V → Hp → VK → Prop := fun xs H Q => (∃ p ys, xs = [V.ref p] ∧ (SqL K H p ys ∨ SqT K H p ys) ∧ ∀ l, H l = none → Q (.ref l) (upd H l (.lst ys))) ∨
  ∃ z, xs = [V.str z] ∧ z.length ≤ sizeLine ∧ ∀ l, H l = none → Q (.ref l) (upd H l (.lst (z.cps.toList.map fun c => V.str ⟨#[c]⟩)))
theorem signs_vals {z : Str} {us : List Value} (hl : us.length = z.cps.size) (h : ∀ (i : Nat) (u : Value), us[i]? = some u → ∃ (c : Nat) (t : Tok), z.cps[i]? = some c ∧ u = Value.str ⟨#[c]⟩ t) : Vals (z.cps.toList.map fun c => V.str ⟨#[c]⟩) us := by
  have e : (z.cps.toList.map fun c => V.str ⟨#[c]⟩) = (List.range us.length).map fun i => V.str ⟨#[z.cps.toList.getD i 0]⟩ := by
    rw [hl]
    apply List.ext_getElem
    · simp
    · intro i h1 h2
      simp at h1
      simp [h1]
  rw [e]
  refine vals_of_get us _ fun j u hj => ?_
  obtain ⟨c, t, h1, h2⟩ := h j u hj
  subst h2
  refine ⟨t, ?_⟩
  have : z.cps.toList.getD j 0 = c := by simp [h1]
  rw [this]
theorem call_listA (hc : X.calm = true) : CallR X (.type "list") (rListA X.K) := fun pins s σ H xs us Q I r h => by
  rcases h with h | ⟨z, rfl, hz, q⟩
  · exact call_list_of pins s σ H xs us Q I r h
  · obtain ⟨u, rfl, rx⟩ := vals1 r
    obtain ⟨t, rfl⟩ := rx
    refine call_list_str (I.ok.hd hc) z t (hn := hz) fun h' tk acc' c' hk hS hacc => ?_
    have hv : Vals (z.cps.toList.map fun c => V.str ⟨#[c]⟩) acc'.toList := signs_vals (by rw [Array.length_toList]; exact hacc.1) fun i u hu => hacc.2 i u (by rw [← Array.getElem?_toList]; exact hu)
    refine ⟨.ref s.heap.objs.size, _, I.laid (o := .lst (z.cps.toList.map fun c => V.str ⟨#[c]⟩)) hk (Nat.le_refl _) ⟨?_, acc'.toList, c', hv, ?_⟩, rfl, q _ I.fresh⟩
    · rw [List.length_map, Array.length_toList]; exact hz
    · rw [Array.toArray_toList]; exact hS
theorem cd_list : CallD K T (rListA K) dList := fun H0 F H vs rs c Q ok up q h k => by
  unfold dList at h
  split at h
  · rename_i s
    split at h
    · rename_i hl
      cases h
      obtain ⟨v, rfl, q1⟩ := rql1 q
      refine .inr ⟨tx s, by rw [rq_str q1], by rw [tx_len]; exact sz hl, fun p hp => ?_⟩
      rw [tx_list]
      exact k _ F _ (Le.newH ok hp) (rr_lst ok hp (signs_rp s))
    · cases h
  · rename_i r _
    obtain ⟨v, rfl, q1⟩ := rql1 q
    cases e : r.itm with
    | none => rw [e] at h; cases h
    | some xs =>
      rw [e] at h
      cases h
      obtain ⟨p, us, rfl, h1, h2⟩ := q1.itm ok up e
      exact .inl ⟨p, us, rfl, h1, fun l hl => k _ F _ (Le.newH ok hl) (rr_lst ok hl h2)⟩
  · cases h
end
end Fw
namespace Fw
open PySem PySem.Spec PyProof.Rows L2
/-! ### what is walked -/
section
variable {X : Cx} {tg : Expr} {pins : List (Addr × Obj)} {σ : L2.St} {H : Hp} {s : Shared} {Rk : It → Hp → Prop} {E : Value → Shared → Prop}
theorem it_list {a : Addr} {xs : List V} (I : Inv X pins σ H s) (hq : SqL X.K H a xs) (q : Rk (Itl X.K a) H) : wpAny (model X.prog X.w) X.A (pyIter (.ref a)) (PIE X pins σ tg Rk) E s := by
  obtain ⟨its, rv, p, hz⟩ := I.list hq
  exact wpAny_pyIter_list p.isList (pi_one (tk := s.toks) I _ (turn_list a _) ⟨_, Heap.get?_push_size _ rfl, rfl, rfl⟩ q)
theorem it_tup {a : Addr} {xs : List V} (I : Inv X pins σ H s) (hq : SqT X.K H a xs) (q : Rk (Itt X.K a) H) : wpAny (model X.prog X.w) X.A (pyIter (.ref a)) (PIE X pins σ tg Rk) E s := by
  obtain ⟨its, rv, p, hz⟩ := I.tuple hq
  exact wpAny_pyIter_tuple (show s.heap.IsTuple a its.toArray from p) (pi_one (tk := s.toks) I _ (turn_tuple a _) ⟨_, Heap.get?_push_size _ rfl, rfl, rfl⟩ q)
theorem it_str {x : Str} {t : Tok} (I : Inv X pins σ H s) (q : Rk (Its x) H) : wpAny (model X.prog X.w) X.A (pyIter (.str x t)) (PIE X pins σ tg Rk) E s := by
  cases ha : x.cps.all (· < 128)
  · exact wpAny_pyIter_wide ha (pi_one (tk := s.toks) I _ (turn_str _ x t "str_iterator" (.inr rfl)) ⟨_, Heap.get?_push_size _ rfl, rfl, rfl⟩ q)
  · exact wpAny_pyIter_ascii ha (pi_one (tk := s.toks) I _ (turn_str _ x t "str_ascii_iterator" (.inl rfl)) ⟨_, Heap.get?_push_size _ rfl, rfl, rfl⟩ q)
end
/-- the walk J gives the items xs, wherever S holds -/
def Src (K : PySem.W.Frag) (T : List Addr) (H0 : Hp) (S : Hp → Hp → Prop) (xs : List R) (J : It) : Prop := ∃ (G : Hp → Prop) (Y : Nat → Hp → V → Hp → Prop), Walk J xs.length G Y ∧ (∀ F2 H2, S F2 H2 → G H2) ∧
  ∀ i H2 x H3 F2, i < xs.length → S F2 H2 → Y i H2 x H3 → ∃ F3 r, xs[i]? = some r ∧ Le T F2 H2 F3 H3 ∧ Rq K T H0 F3 H3 x r
/-- fz: a loop's body may change lists of its own -/
def Sta (T : List Addr) (fz : Bool) (F0 H0 F' H' F2 H2 : Hp) : Prop := (if fz = true then Sub F' F2 else Le T F' H' F2 H2) ∧ Le T F0 H0 F2 H2
theorem Sta.f {T : List Addr} {fz : Bool} {F0 H0 F' H' F2 H2 : Hp} (s : Sta T fz F0 H0 F' H' F2 H2) : Sub F' F2 := by
  cases fz with
  | true => exact s.1
  | false => exact Le.f s.1
def tI (fz : Bool) (K : PySem.W.Frag) (T : List Addr) (W : WX) (f : Env → O (List R)) : TI := fun σ H Rk => ∃ F0 H0 F es, StOk K T F0 H0 F H σ es ∧ PO K T W F H σ (fun F' H' (J : It) xs => Src K T H0 (Sta T fz F0 H0 F' H') xs J) Rk (f es)
def DI (fz : Bool) (X : Cx) (T : List Addr) (W : WX) (tg e : Expr) (f : Env → O (List R)) : Prop := PI X tg e (tI fz X.K T W f)
section
variable {X : Cx} {T : List Addr} {W : WX} {tg a b e : Expr} {fa fb : Env → O R} {pos p p2 : Pos} {fz : Bool}
/-- items that stand -/
def itmR (fz : Bool) : R → Option (List R)
  | .val (.lst xs) => some (xs.map .val)
  | .val (.tup xs) => some (xs.map .val)
  | .val (.str s) => some ((signsD s).map .val)
  | .brw (.lst xs) => some (xs.map nrm)
  | .brw (.tup xs) => some (xs.map nrm)
  | .bor xs => if fz then none else some (xs.map .val)
  | _ => none
theorem val_at {K : PySem.W.Frag} {F2 : Hp} {xs : List D} {vs : List V} {i : Nat} {x : V} (r : RpL K F2 xs vs) (h : vs[i]? = some x) {H0 H3 : Hp} : ∃ rr, (xs.map R.val)[i]? = some rr ∧ Rq K T H0 F2 H3 x rr := by
  obtain ⟨d, h1, h2⟩ := r.getV h
  exact ⟨.val d, by rw [List.getElem?_map, h1]; rfl, h2⟩
theorem src_val {K : PySem.W.Frag} {F0 H0 F' H' : Hp} {a : Addr} {xs : List D} {vs : List V} (hs : SqL K F' a vs) (r : RpL K F' xs vs) : Src K T H0 (Sta T fz F0 H0 F' H') (xs.map .val) (Itl K a) := by
  refine ⟨fun H => SqL K H a vs, YAt vs, by rw [List.length_map, r.len]; exact walk_list, fun F2 H2 s => s.2.ok.sub.l (s.f.l hs), fun i H2 x H3 F2 hi s ⟨e, y⟩ => ?_⟩
  subst e
  obtain ⟨rr, h1, h2⟩ := val_at (T := T) (r.mono s.f) y (H0 := H0) (H3 := H3)
  exact ⟨F2, rr, h1, Le.refl s.2.ok, h2⟩
theorem src_valT {K : PySem.W.Frag} {F0 H0 F' H' : Hp} {a : Addr} {xs : List D} {vs : List V} (hs : SqT K F' a vs) (r : RpL K F' xs vs) : Src K T H0 (Sta T fz F0 H0 F' H') (xs.map .val) (Itt K a) := by
  refine ⟨fun H => SqT K H a vs, YAt vs, by rw [List.length_map, r.len]; exact walk_tup, fun F2 H2 s => s.2.ok.sub.t (s.f.t hs), fun i H2 x H3 F2 hi s ⟨e, y⟩ => ?_⟩
  subst e
  obtain ⟨rr, h1, h2⟩ := val_at (T := T) (r.mono s.f) y (H0 := H0) (H3 := H3)
  exact ⟨F2, rr, h1, Le.refl s.2.ok, h2⟩
theorem nrm_at {K : PySem.W.Frag} {H0 F2 H3 : Hp} {xs : List D} {vs : List V} {i : Nat} {x : V} (r : RpL K H0 xs vs) (h : vs[i]? = some x) : ∃ rr, (xs.map nrm)[i]? = some rr ∧ Rq K T H0 F2 H3 x rr := by
  obtain ⟨d, h1, h2⟩ := r.getV h
  exact ⟨nrm d, by rw [List.getElem?_map, h1]; rfl, rq_nrm h2⟩
theorem src_brw {K : PySem.W.Frag} {F0 H0 F' H' : Hp} {a : Addr} {xs : List D} {vs : List V} (ok0 : Ok T F0 H0) (hs : SqL K H0 a vs) (r : RpL K H0 xs vs) : Src K T H0 (Sta T fz F0 H0 F' H') (xs.map nrm) (Itl K a) := by
  refine ⟨fun H => SqL K H a vs, YAt vs, by rw [List.length_map, r.len]; exact walk_list, fun F2 H2 s => s.2.l ok0.tab hs, fun i H2 x H3 F2 hi s ⟨e, y⟩ => ?_⟩
  subst e
  obtain ⟨rr, h1, h2⟩ := nrm_at (T := T) r y (F2 := F2) (H3 := H3)
  exact ⟨F2, rr, h1, Le.refl s.2.ok, h2⟩
theorem src_brwT {K : PySem.W.Frag} {F0 H0 F' H' : Hp} {a : Addr} {xs : List D} {vs : List V} (ok0 : Ok T F0 H0) (hs : SqT K H0 a vs) (r : RpL K H0 xs vs) : Src K T H0 (Sta T fz F0 H0 F' H') (xs.map nrm) (Itt K a) := by
  refine ⟨fun H => SqT K H a vs, YAt vs, by rw [List.length_map, r.len]; exact walk_tup, fun F2 H2 s => s.2.t ok0.tab hs, fun i H2 x H3 F2 hi s ⟨e, y⟩ => ?_⟩
  subst e
  obtain ⟨rr, h1, h2⟩ := nrm_at (T := T) r y (F2 := F2) (H3 := H3)
  exact ⟨F2, rr, h1, Le.refl s.2.ok, h2⟩
theorem src_bor {K : PySem.W.Frag} {F0 H0 F' H' : Hp} {a : Addr} {xs : List D} {vs : List V} (nt : a ∉ T) (hs : H' a = some (.lst vs)) (r : RpL K F' xs vs) : Src K T H0 (Sta T false F0 H0 F' H') (xs.map .val) (Itl K a) := by
  refine ⟨fun H => SqL K H a vs, YAt vs, by rw [List.length_map, r.len]; exact walk_list, fun F2 H2 s => ?_, fun i H2 x H3 F2 hi s ⟨e, y⟩ => ?_⟩
  · have l : Le T F' H' F2 H2 := s.1
    exact .inl (.inl (l.h a _ nt hs))
  · subst e
    obtain ⟨rr, h1, h2⟩ := val_at (T := T) (r.mono s.f) y (H0 := H0) (H3 := H3)
    exact ⟨F2, rr, h1, Le.refl s.2.ok, h2⟩
theorem src_str {K : PySem.W.Frag} {F0 H0 F' H' : Hp} {s : List Nat} : Src K T H0 (Sta T fz F0 H0 F' H') ((signsD s).map .val) (Its (tx s)) := by
  refine ⟨fun _ => True, fun i H v H' => H' = H ∧ ∃ c, (tx s).cps[i]? = some c ∧ v = V.str ⟨#[c]⟩, by
    have e : ((signsD s).map R.val).length = (tx s).cps.size := by simp [signsD, tx]
    rw [e]; exact walk_str, fun _ _ _ => trivial, fun i H2 x H3 F2 hi st ⟨e, c, h1, h2⟩ => ?_⟩
  subst e h2
  refine ⟨F2, .val (.str [c]), ?_, Le.refl st.2.ok, ?_⟩
  · have : s[i]? = some c := by simpa [tx] using h1
    simp [signsD, this]
  · rw [Rq, Rp]; rfl
def fIt (fz : Bool) (fa : Env → O R) : Env → O (List R) := fun es => (fa es).bind fun r => O.of (itmR fz r.fz)
theorem di_any (ha : DE X T W a fa) : DI fz X T W tg a (fIt fz fa) := by
  refine ⟨fun pins s σ H Rk I h => ?_⟩
  obtain ⟨F0, H0, F, es, st, h⟩ := h
  refine thn (ha.run pins s σ H (fun v H1 => ∃ J, Rk J H1 ∧ ((∃ a xs, v = V.ref a ∧ SqL X.K H1 a xs ∧ J = Itl X.K a) ∨ (∃ a xs, v = V.ref a ∧ SqT X.K H1 a xs ∧ J = Itt X.K a) ∨ (∃ z, v = V.str z ∧ J = Its z))) I ⟨F0, H0, F, es, st, po_seq (rel' := fun F' H' (J : It) xs => Src X.K T H0 (Sta T fz F0 H0 F' H') xs J) st h (fun _ _ _ _ _ _ _ z => z) fun r v F1 H1 _ st1 l1 q1 h1 => ?_⟩) fun u s1 ⟨v, H1, I1, rv, J, hR, q⟩ => ?_
  · cases hi : itmR fz r.fz with
    | none => rw [hi] at h1; exact h1.elim
    | some xs =>
      rw [hi] at h1
      have fin : ∀ J, Src X.K T H0 (Sta T fz F0 H0 F1 H1) xs J → Rk J H1 := fun J s => h1 J F1 H1 (Le.refl st1.ok) s
      generalize r.fz = r' at hi q1
      unfold itmR at hi
      split at hi
      · cases hi
        rw [Rq, Rp] at q1
        obtain ⟨a, vs, rfl, h2, h3⟩ := q1
        exact ⟨_, fin _ (src_val h2 h3), .inl ⟨a, vs, rfl, st1.ok.sub.l h2, rfl⟩⟩
      · cases hi
        rw [Rq, Rp] at q1
        obtain ⟨a, vs, rfl, h2, h3⟩ := q1
        exact ⟨_, fin _ (src_valT h2 h3), .inr (.inl ⟨a, vs, rfl, st1.ok.sub.t h2, rfl⟩)⟩
      · cases hi
        exact ⟨_, fin _ src_str, .inr (.inr ⟨_, rq_str q1, rfl⟩)⟩
      · cases hi
        rw [Rq, Rp] at q1
        obtain ⟨a, vs, rfl, h2, h3⟩ := q1
        exact ⟨_, fin _ (src_brw st1.ok0 h2 h3), .inl ⟨a, vs, rfl, st1.up.l h2, rfl⟩⟩
      · cases hi
        rw [Rq, Rp] at q1
        obtain ⟨a, vs, rfl, h2, h3⟩ := q1
        exact ⟨_, fin _ (src_brwT st1.ok0 h2 h3), .inr (.inl ⟨a, vs, rfl, st1.up.t h2, rfl⟩)⟩
      · split at hi
        · cases hi
        · rename_i hf
          cases hi
          have e : fz = false := by simpa using hf
          subst e
          obtain ⟨p, vs, rfl, h2, h3, h4, h5⟩ := q1
          exact ⟨_, fin _ (src_bor h3 h4 h5), .inl ⟨p, vs, rfl, .inl (.inl h4), rfl⟩⟩
      · cases hi
  · rcases q with ⟨a, xs, rfl, h2, rfl⟩ | ⟨a, xs, rfl, h2, rfl⟩ | ⟨z, rfl, rfl⟩
    · cases rv
      exact it_list I1 h2 hR
    · cases rv
      exact it_tup I1 h2 hR
    · obtain ⟨t, rfl⟩ := rv
      exact it_str I1 hR
/-! range -/
def rgD (lo : Int) (n : Nat) : List R := (List.range n).map fun i => .val (.int (lo + (i : Nat)))
theorem src_range {K : PySem.W.Frag} {F0 H0 F' H' : Hp} {lo : Int} {n : Nat} : Src K T H0 (Sta T fz F0 H0 F' H') (rgD lo n) (Itr lo n) := by
  refine ⟨fun _ => True, YFn fun i => .int (lo + i), by
    have e : (rgD lo n).length = n := by simp [rgD]
    rw [e]; exact walk_range, fun _ _ _ => trivial, fun i H2 x H3 F2 hi st ⟨e, e2⟩ => ?_⟩
  subst e e2
  have hi' : i < n := by simpa [rgD] using hi
  exact ⟨F2, .val (.int (lo + i)), by simp [rgD, hi'], Le.refl st.2.ok, by rw [Rq, Rp]⟩
def fRg1 (fr : Env → O (List R)) : Env → O (List R) := fun es => (fr es).bind fun rs => match rs with
  | [.val (.int j)] => if -(2 ^ 62) ≤ j ∧ j < 2 ^ 62 then .ok (rgD 0 j.toNat) else .no
  | _ => .no
def fRg2 (fr : Env → O (List R)) : Env → O (List R) := fun es => (fr es).bind fun rs => match rs with
  | [.val (.int i), .val (.int j)] => if -(2 ^ 62) ≤ i ∧ i < 2 ^ 62 ∧ -(2 ^ 62) ≤ j ∧ j < 2 ^ 62 then .ok (rgD i (j - i).toNat) else .no
  | _ => .no
/-- arguments first, for what is walked -/
theorem pa_seqI {K : PySem.W.Frag} {F0 H0 F H : Hp} {σ : L2.St} {es : Env} {α β : Type} {rel rel' : Hp → Hp → β → α → Prop} {Q : β → Hp → Prop} {Q' : List V → Hp → Prop} {o : O (List R)} {g : List R → O α} (st : StOk K T F0 H0 F H σ es) (h : PO K T W F H σ rel Q (o.bind g))
    (hr : ∀ F' H' v a, rel' F' H' v a → rel F' H' v a)
    (k : ∀ rs vs F1 H1, o = .ok rs → StOk K T F0 H0 F1 H1 σ es → Le T F H F1 H1 → RqL K T H0 F1 H1 rs vs → PO K T W F1 H1 σ rel' Q (g rs) → Q' vs H1) : PO K T W F H σ (fun F' H' vs rs => RqL K T H0 F' H' rs vs) Q' o := by
  cases o with
  | ok a =>
    intro v F1 H1 l q
    exact k a v F1 H1 rfl (st.step l) l q (PO.step h l hr)
  | exc c fs => exact h
  | no => exact h
theorem di_range1 {fr : Env → O (List R)} (hm : X.mg "range" = none) (ha : DA X T W [a] fr) (hg : Gl X "range" := by rfl) (hs : starEach [a] X.env = [(false, eval a X.env)] := by rfl) : DI fz X T W tg (.Call (.Name "range" p) [a] [] pos) (fRg1 fr) :=
  pi_weak (pi_range1 hg hm ha hs) fun σ H Rk ⟨F0, H0, F, es, st, h⟩ => ⟨F0, H0, F, es, st, pa_seqI st h (fun _ _ _ _ z => z) fun rs vs F1 H1 _ st1 l1 q1 h1 => by
    split at h1
    · rename_i j _
      split at h1
      · rename_i hj
        obtain ⟨v, rfl, q2⟩ := rql1 q1
        exact ⟨j, by rw [rq_int q2], hj.1, hj.2, h1 _ F1 H1 (Le.refl st1.ok) src_range⟩
      · exact h1.elim
    · exact h1.elim⟩
theorem di_range2 {fr : Env → O (List R)} (hm : X.mg "range" = none) (ha : DA X T W [a, b] fr) (hg : Gl X "range" := by rfl) (hs : starEach [a, b] X.env = [(false, eval a X.env), (false, eval b X.env)] := by rfl) (hs2 : starEach [b] X.env = [(false, eval b X.env)] := by rfl) :
    DI fz X T W tg (.Call (.Name "range" p) [a, b] [] pos) (fRg2 fr) :=
  pi_weak (pi_range2 hg hm ha hs hs2) fun σ H Rk ⟨F0, H0, F, es, st, h⟩ => ⟨F0, H0, F, es, st, pa_seqI st h (fun _ _ _ _ z => z) fun rs vs F1 H1 _ st1 l1 q1 h1 => by
    split at h1
    · rename_i i j _
      split at h1
      · rename_i hj
        obtain ⟨v, w, rfl, q2, q3⟩ := rql2 q1
        exact ⟨i, j, by rw [rq_int q2, rq_int q3], hj, h1 _ F1 H1 (Le.refl st1.ok) src_range⟩
      · exact h1.elim
    · exact h1.elim⟩
/-! ### targets -/
inductive Tg where
  | nm (i : Nat) | tp (is : List Nat)
def gsOf : List Nat → TGs
  | [] => gNil
  | i :: is => gCons (gName i) (gsOf is)
def tgOf (K : PySem.W.Frag) : Tg → TG
  | .nm i => gName i
  | .tp is => gTup K is.length (gsOf is)
def R.slot : R → Option Sl
  | .val d => some (.val d)
  | .brw d => some (.brw d)
  | _ => none
def setAll : List Nat → List R → Env → Option Env
  | [], [], es => some es
  | i :: is, r :: rs, es => match r.slot with
    | some s => setAll is rs (es.set i s)
    | none => none
  | _, _, _ => none
def R.parts : R → Option (List R)
  | .val (.tup ds) => some (ds.map .val)
  | .brw (.tup ds) => some (ds.map nrm)
  | _ => none
def stTg : Tg → R → Env → Option Env
  | .nm i, r, es => r.slot.map fun s => es.set i s
  | .tp is, r, es => match r.parts with
    | some rs => if rs.length = is.length then setAll is rs es else none
    | none => none
def Tg.at : Tg → List Nat
  | .nm i => [i]
  | .tp is => is
end
section
variable {K : PySem.W.Frag} {T : List Addr} {F0 H0 F H : Hp} {σ : L2.St} {es : Env}
theorem get_set {α : Type} {l : List α} {i j : Nat} {a b : α} (h : (l.set i a)[j]? = some b) : (i = j ∧ b = a) ∨ (i ≠ j ∧ l[j]? = some b) := by
  by_cases e : i = j
  · subst e
    rw [List.getElem?_set_self'] at h
    cases hl : l[i]? with
    | none => rw [hl] at h; cases h
    | some c => rw [hl] at h; exact .inl ⟨rfl, (Option.some.inj h).symm⟩
  · rw [List.getElem?_set_ne e] at h
    exact .inr ⟨e, h⟩
/-- a slot is stored: a value that stays -/
theorem StOk.set {i : Nat} {v : V} {s : Sl} (st : StOk K T F0 H0 F H σ es) (hs : match s with
    | .no => True
    | .val d => Rp K F d v
    | .brw d => Rp K H0 d v
    | .own xs => ∃ p vs, v = .ref p ∧ H0 p = none ∧ F p = none ∧ p ∉ T ∧ H p = some (.lst vs) ∧ RpL K F xs vs ∧ (∀ j ys, j ≠ i → es[j]? = some (.own ys) → σ[j]? ≠ some (some (.ref p))) ∧ ∀ (j : Nat) (yss : List (List D)) (p' : Addr) (ps' : List Addr), es[j]? = some (Sl.own2 yss) → σ[j]? = some (some (V.ref p')) → Own2 K T H0 F H p' ps' yss → p ≠ p' ∧ p ∉ ps'
    | .own2 _ => False) :
    StOk K T F0 H0 F H (σ.set i (some v)) (es.set i s) where
  ok0 := st.ok0
  le := st.le
  env := by
    have ln := st.env.len
    have at_ : ∀ {u : Sl}, (es.set i s)[i]? = some u → (σ.set i (some v))[i]? = some (some v) := fun {u} h => by
      have : i < σ.length := by
        rw [ln]
        have := (List.getElem?_eq_some_iff.mp h).1
        simpa using this
      simp [this]
    refine ⟨by simp [ln], fun j d h => ?_, fun j d h => ?_, fun j xs h => ?_, fun j k xs ys p h1 h2 h3 h4 => ?_, fun j yss h => ?_⟩
    · rcases get_set h with ⟨e, e2⟩ | ⟨e, e2⟩
      · subst e
        refine ⟨v, at_ h, ?_⟩
        rw [← e2] at hs
        exact hs
      · rw [List.getElem?_set_ne e]
        exact st.env.val j d e2
    · rcases get_set h with ⟨e, e2⟩ | ⟨e, e2⟩
      · subst e
        refine ⟨v, at_ h, ?_⟩
        rw [← e2] at hs
        exact hs
      · rw [List.getElem?_set_ne e]
        exact st.env.brw j d e2
    · rcases get_set h with ⟨e, e2⟩ | ⟨e, e2⟩
      · subst e
        rw [← e2] at hs
        obtain ⟨p, vs, h1, h2, h3, h4, h5, h6, _, _⟩ := hs
        exact ⟨p, vs, by rw [at_ h, h1], h2, h3, h4, h5, h6⟩
      · rw [List.getElem?_set_ne e]
        exact st.env.own j xs e2
    · rcases get_set h1 with ⟨e, e2⟩ | ⟨e, e2⟩
      · rcases get_set h2 with ⟨f, f2⟩ | ⟨f, f2⟩
        · rw [← e, ← f]
        · subst e
          rw [at_ h1] at h3
          rw [← e2] at hs
          obtain ⟨p', vs, g1, _, _, _, _, _, g, _⟩ := hs
          rw [List.getElem?_set_ne f] at h4
          have : p = p' := by
            have := Option.some.inj (Option.some.inj h3)
            rw [g1] at this
            cases this; rfl
          subst this
          exact absurd h4 (g k ys (Ne.symm f) f2)
      · rcases get_set h2 with ⟨f, f2⟩ | ⟨f, f2⟩
        · subst f
          rw [at_ h2] at h4
          rw [← f2] at hs
          obtain ⟨p', vs, g1, _, _, _, _, _, g, _⟩ := hs
          rw [List.getElem?_set_ne e] at h3
          have : p = p' := by
            have := Option.some.inj (Option.some.inj h4)
            rw [g1] at this
            cases this; rfl
          subst this
          exact absurd h3 (g j xs (Ne.symm e) e2)
        · rw [List.getElem?_set_ne e] at h3
          rw [List.getElem?_set_ne f] at h4
          exact st.env.uni j k xs ys p e2 f2 h3 h4
    · rcases get_set h with ⟨e, e2⟩ | ⟨e, e2⟩
      · rw [← e2] at hs
        exact hs.elim
      · obtain ⟨p, ps, h1, h2, h3, h4⟩ := st.env.two j yss e2
        refine ⟨p, ps, by rw [List.getElem?_set_ne e]; exact h1, h2, fun k xs q hk hq => ?_, fun k zss hk => ?_⟩
        · rcases get_set hk with ⟨f, f2⟩ | ⟨f, f2⟩
          · subst f
            rw [at_ hk] at hq
            rw [← f2] at hs
            obtain ⟨p', vs, g1, _, _, _, _, _, _, g⟩ := hs
            have e3 : q = p' := by
              have := Option.some.inj (Option.some.inj hq)
              rw [g1] at this
              cases this; rfl
            subst e3
            exact g j yss p ps e2 h1 h2
          · rw [List.getElem?_set_ne f] at hq
            exact h3 k xs q f2 hq
        · rcases get_set hk with ⟨f, f2⟩ | ⟨f, f2⟩
          · rw [← f2] at hs
            exact hs.elim
          · exact h4 k zss f2
theorem StOk.slot {i : Nat} {v : V} {r : R} {s : Sl} (st : StOk K T F0 H0 F H σ es) (q : Rq K T H0 F H v r) (e : r.slot = some s) : StOk K T F0 H0 F H (σ.set i (some v)) (es.set i s) := by
  cases r <;> simp only [R.slot] at e <;> cases e
  · exact st.set q
  · exact st.set q
theorem wipe_get (σ : L2.St) (i : Nat) : ∀ vs : List Nat, (wipe σ vs)[i]? = if i ∈ vs ∧ i < σ.length then some none else σ[i]?
  | [] => by simp [wipe]
  | v :: vs => by
    have ih := wipe_get σ i vs
    unfold wipe
    by_cases e : v = i
    · subst e
      by_cases hl : v < σ.length
      · have : v < (wipe σ vs).length := by rw [wipe_length]; exact hl
        simp [this, hl]
      · have h1 : (wipe σ vs).length ≤ v := by rw [wipe_length]; omega
        have h2 : σ[v]? = none := List.getElem?_eq_none (by omega)
        have h3 : ((wipe σ vs).set v none)[v]? = none := List.getElem?_eq_none (by simpa using h1)
        rw [h3, if_neg (fun z => hl z.2), h2]
    · rw [List.getElem?_set_ne e, ih]
      have : i ≠ v := fun z => e z.symm
      simp [this]
theorem wipe_set {σ : L2.St} {i : Nat} {x : Option V} {vs : List Nat} (h : i ∈ vs) : wipe (σ.set i x) vs = wipe σ vs := by
  apply List.ext_getElem?
  intro j
  rw [wipe_get, wipe_get]
  by_cases e : j ∈ vs
  · by_cases hl : j < σ.length
    · simp [e, hl]
    · have h1 : σ[j]? = none := List.getElem?_eq_none (by omega)
      have h2 : (σ.set i x)[j]? = none := List.getElem?_eq_none (by simp; omega)
      rw [h1, h2]
      simp [hl]
  · have : i ≠ j := fun z => e (z ▸ h)
    simp [e, List.getElem?_set_ne this]
theorem gs_ok {Q : L2.St → Hp → Prop} : ∀ {is : List Nat} {rs : List R} {xs : List V} {σ : L2.St} {es es' : Env}, StOk K T F0 H0 F H σ es → RqL K T H0 F H rs xs → setAll is rs es = some es' →
    (∀ σ', StOk K T F0 H0 F H σ' es' → (∀ vs, (∀ i ∈ is, i ∈ vs) → wipe σ' vs = wipe σ vs) → Q σ' H) → gsOf is xs σ H Q
  | [], rs, xs, σ, es, es', st, q, e, k => by
    cases rs with
    | nil =>
      cases q
      cases e
      exact ⟨rfl, k σ st fun _ _ => rfl⟩
    | cons => cases e
  | i :: is, rs, xs, σ, es, es', st, q, e, k => by
    cases rs with
    | nil => cases e
    | cons r rs =>
      obtain ⟨v, t, rfl, h2, h3⟩ := q
      simp only [setAll] at e
      split at e
      · rename_i s es
        refine ⟨v, t, rfl, ?_⟩
        exact gs_ok (st.slot h2 es) h3 e fun σ' st' hw => k σ' st' fun vs hv => (hw vs fun j hj => hv j (List.mem_cons_of_mem _ hj)).trans (wipe_set (hv i List.mem_cons_self))
      · cases e
theorem rql_val {F H : Hp} : ∀ {ds : List D} {vs : List V}, RpL K F ds vs → RqL K T H0 F H (ds.map .val) vs
  | [], vs, h => by rw [RpL] at h; exact h
  | d :: ds, vs, h => by
    rw [RpL] at h
    obtain ⟨v, r, h1, h2, h3⟩ := h
    exact ⟨v, r, h1, h2, rql_val h3⟩
theorem rql_nrm {F H : Hp} : ∀ {ds : List D} {vs : List V}, RpL K H0 ds vs → RqL K T H0 F H (ds.map nrm) vs
  | [], vs, h => by rw [RpL] at h; exact h
  | d :: ds, vs, h => by
    rw [RpL] at h
    obtain ⟨v, r, h1, h2, h3⟩ := h
    exact ⟨v, r, h1, rq_nrm h2, rql_nrm h3⟩
theorem tg_ok {t : Tg} {r : R} {x : V} {es' : Env} {Q : L2.St → Hp → Prop} (st : StOk K T F0 H0 F H σ es) (q : Rq K T H0 F H x r) (e : stTg t r es = some es')
    (k : ∀ σ', StOk K T F0 H0 F H σ' es' → (∀ vs, (∀ i ∈ t.at, i ∈ vs) → wipe σ' vs = wipe σ vs) → Q σ' H) : tgOf K t x σ H Q := by
  cases t with
  | nm i =>
    simp only [stTg] at e
    cases hs : r.slot with
    | none => rw [hs] at e; cases e
    | some s =>
      rw [hs] at e
      cases e
      exact k _ (st.slot q hs) fun vs hv => wipe_set (hv i (by simp [Tg.at]))
  | tp is =>
    simp only [stTg] at e
    split at e
    · rename_i rs hp
      split at e
      · rename_i hl
        cases r <;> simp only [R.parts] at hp <;> try cases hp
        all_goals (rename_i d; cases d <;> simp only [R.parts] at hp <;> try cases hp)
        · rw [Rq, Rp] at q
          obtain ⟨a, vs, rfl, h2, h3⟩ := q
          refine ⟨a, vs, rfl, st.ok.sub.t h2, by rw [← h3.len]; simpa using hl, ?_⟩
          exact gs_ok st (rql_val h3) e k
        · rw [Rq, Rp] at q
          obtain ⟨a, vs, rfl, h2, h3⟩ := q
          refine ⟨a, vs, rfl, st.up.t h2, by rw [← h3.len]; simpa using hl, ?_⟩
          exact gs_ok st (rql_nrm h3) e k
      · cases e
    · cases e
end
end Fw
namespace Fw
open PySem PySem.Spec PyProof.Rows L2
abbrev W0 : WX := fun _ _ _ _ => False
def noX {α : Type} : O α → O α
  | .ok a => .ok a
  | _ => .no
def wipeE : Env → List Nat → Env
  | es, [] => es
  | es, v :: vs => (wipeE es vs).set v .no
theorem wipeE_get (es : Env) (i : Nat) : ∀ vs : List Nat, (wipeE es vs)[i]? = if i ∈ vs ∧ i < es.length then some .no else es[i]?
  | [] => by simp [wipeE]
  | v :: vs => by
    have ih := wipeE_get es i vs
    have ln : (wipeE es vs).length = es.length := by
      clear ih
      induction vs with
      | nil => rfl
      | cons v vs ih => simp [wipeE, ih]
    unfold wipeE
    by_cases e : v = i
    · subst e
      by_cases hl : v < es.length
      · have : v < (wipeE es vs).length := by rw [ln]; exact hl
        simp [this, hl]
      · have h1 : (wipeE es vs).length ≤ v := by rw [ln]; omega
        have h2 : es[v]? = none := List.getElem?_eq_none (by omega)
        have h3 : ((wipeE es vs).set v Sl.no)[v]? = none := List.getElem?_eq_none (by simpa using h1)
        rw [h3, if_neg (fun z => hl z.2), h2]
    · rw [List.getElem?_set_ne e, ih]
      have : i ≠ v := fun z => e z.symm
      simp [this]
theorem wipeE_len (es : Env) : ∀ vs : List Nat, (wipeE es vs).length = es.length
  | [] => rfl
  | v :: vs => by simp [wipeE, wipeE_len es vs]
theorem wipeE_some {es : Env} {i : Nat} {s : Sl} {vs : List Nat} (h : (wipeE es vs)[i]? = some s) (hs : s ≠ .no) : es[i]? = some s ∧ i ∉ vs := by
  rw [wipeE_get] at h
  split at h
  · exact absurd (Option.some.inj h).symm hs
  · rename_i z
    have hl := (List.getElem?_eq_some_iff.mp h).1
    exact ⟨h, fun m => z ⟨m, hl⟩⟩
section
variable {K : PySem.W.Frag} {T : List Addr} {F0 H0 F H : Hp} {σ : L2.St} {es : Env}
theorem StOk.wipe (st : StOk K T F0 H0 F H σ es) (vs : List Nat) : StOk K T F0 H0 F H (L2.wipe σ vs) (wipeE es vs) where
  ok0 := st.ok0
  le := st.le
  env := by
    have g : ∀ {i : Nat}, i ∉ vs → (L2.wipe σ vs)[i]? = σ[i]? := fun {i} n => by rw [wipe_get, if_neg (fun z => n z.1)]
    refine ⟨by rw [wipe_length, wipeE_len]; exact st.env.len, fun i d h => ?_, fun i d h => ?_, fun i xs h => ?_, fun i j xs ys p h1 h2 h3 h4 => ?_, fun i xss h => ?_⟩
    · obtain ⟨h1, h2⟩ := wipeE_some h (by simp)
      rw [g h2]; exact st.env.val i d h1
    · obtain ⟨h1, h2⟩ := wipeE_some h (by simp)
      rw [g h2]; exact st.env.brw i d h1
    · obtain ⟨h1, h2⟩ := wipeE_some h (by simp)
      rw [g h2]; exact st.env.own i xs h1
    · obtain ⟨h1, e1⟩ := wipeE_some h1 (by simp)
      obtain ⟨h2, e2⟩ := wipeE_some h2 (by simp)
      rw [g e1] at h3
      rw [g e2] at h4
      exact st.env.uni i j xs ys p h1 h2 h3 h4
    · obtain ⟨h1, h2⟩ := wipeE_some h (by simp)
      obtain ⟨p, ps, g1, g2, g3, g4⟩ := st.env.two i xss h1
      refine ⟨p, ps, by rw [g h2]; exact g1, g2, fun j xs q hj hq => ?_, fun j yss hj => ?_⟩
      · obtain ⟨k1, k2⟩ := wipeE_some hj (by simp)
        rw [g k2] at hq
        exact g3 j xs q k1 hq
      · exact g4 j yss (wipeE_some hj (by simp)).1
end
/-! ### comprehensions -/
def lcL (tg : Tg) (cond : Env → O Bool) (elt : Env → O R) (es : Env) : List R → O (List D)
  | [] => .ok []
  | x :: xs => match stTg tg x es with
    | none => .no
    | some e1 => (noX (cond e1)).bind fun b => if b = true then (noX (elt e1)).bind fun r => match r.fz.sto with
        | none => .no
        | some d => (lcL tg cond elt es xs).bind fun ds => .ok (d :: ds)
      else lcL tg cond elt es xs
def fLc (src : Env → O (List R)) (vs : List Nat) (tg : Tg) (cond : Env → O Bool) (elt : Env → O R) : Env → O R := fun es => (src es).bind fun xs => if xs.length ≤ 90000 then (noX (lcL tg cond elt (wipeE es vs) xs)).bind fun ds => .ok (.new ds) else .no
def fYes : Env → O Bool := fun _ => .ok true
section
variable {X : Cx} {T : List Addr} {W : WX}
theorem lc_weak {K : PySem.W.Frag} {src : Env → O (List R)} {vs : List Nat} {tg : Tg} {cond : Env → O Bool} {elt : Env → O R} {σ : L2.St} {H : Hp} {Q : VK} (hvs : ∀ i ∈ tg.at, i ∈ vs) (h : tD K T W (fLc src vs tg cond elt) σ H Q) :
    tLc (tI false K T W src) (tgOf K tg) (tT K T W0 cond) (tD K T W0 elt) vs σ H Q := by
  obtain ⟨F0, H0, F, es, st, h⟩ := h
  unfold fLc at h
  refine ⟨F0, H0, F, es, st, ?_⟩
  cases hs : src es with
  | no => rw [hs] at h; exact h
  | exc c fs => rw [hs] at h; exact h
  | ok xs =>
    rw [hs] at h
    intro J F1 H1 l1 ⟨G, Y, w, hG, hY⟩ Dl hD
    rw [O.bind_ok] at h
    split at h
    · rename_i hlen
      cases hds : lcL tg cond elt (wipeE es vs) xs with
      | no => rw [hds] at h; exact h.elim
      | exc c fs => rw [hds] at h; exact h.elim
      | ok ds =>
        rw [hds] at h
        have st1 := st.step l1
        have nT : Dl ∉ T := st1.ok.nt hD
        refine lc_it w (fun i H2 => ∃ F2 ds1 ds2 vs2, Le T F1 H1 F2 H2 ∧ F2 Dl = none ∧ H2 Dl = some (.lst vs2) ∧ RpL K F2 ds1 vs2 ∧ lcL tg cond elt (wipeE es vs) (xs.drop i) = .ok ds2 ∧ ds = ds1 ++ ds2 ∧ ds1.length ≤ i)
          ⟨F1, [], ds, [], Le.newH st1.ok hD, st1.ok.nf hD, upd_same, RpL.nil, hds, rfl, Nat.le_refl _⟩ ?_ ?_ ?_
        · intro i H2 hi ⟨F2, ds1, ds2, vs2, l2, _⟩
          exact hG F2 H2 ⟨l2, st1.le.trans l2⟩
        · intro i x H2 H3 hi ⟨F2, ds1, ds2, vs2, l2, hF, hH, hr, hl, he, hle⟩ hy
          obtain ⟨F3, r, hx, l3, q3⟩ := hY i H2 x H3 F2 hi ⟨l2, st1.le.trans l2⟩ hy
          have hdr : xs.drop i = r :: xs.drop (i + 1) := by
            have : i < xs.length := hi
            rw [List.drop_eq_getElem_cons this]
            rw [List.getElem?_eq_getElem this] at hx
            rw [Option.some.inj hx]
          rw [hdr] at hl
          simp only [lcL] at hl
          have st3 : StOk K T F0 H0 F3 H3 (L2.wipe σ vs) (wipeE es vs) := ((st1.step l2).step l3).wipe vs
          cases h1 : stTg tg r (wipeE es vs) with
          | none => rw [h1] at hl; cases hl
          | some e1 =>
            rw [h1] at hl
            simp only at hl
            refine tg_ok st3 q3 h1 fun σ' st' hw => ⟨?_, ?_⟩
            · rw [hw vs hvs]
              apply List.ext_getElem?
              intro j
              rw [wipe_get, wipe_get, wipe_length]
              split <;> rfl
            · refine ⟨F0, H0, F3, e1, st', ?_⟩
              cases hc : cond e1 with
              | no => rw [hc] at hl; cases hl
              | exc c fs => rw [hc] at hl; cases hl
              | ok b =>
                rw [hc] at hl
                simp only [noX, O.bind_ok] at hl
                intro b' F4 H4 l4 eb
                subst eb
                have hF3 : F3 Dl = none := l3.n Dl hF (by rw [hH]; simp)
                have hH3 : H3 Dl = some (.lst vs2) := l3.h Dl _ nT hH
                have hF4 : F4 Dl = none := l4.n Dl hF3 (by rw [hH3]; simp)
                have hH4 : H4 Dl = some (.lst vs2) := l4.h Dl _ nT hH3
                cases b' with
                | false =>
                  rw [if_neg Bool.false_ne_true]
                  rw [if_neg Bool.false_ne_true] at hl
                  exact ⟨F4, ds1, ds2, vs2, (l2.trans l3).trans l4, hF4, hH4, hr.mono (l3.f.trans l4.f), hl, he, by omega⟩
                | true =>
                  rw [if_pos rfl]
                  rw [if_pos rfl] at hl
                  refine ⟨F0, H0, F4, e1, st'.step l4, ?_⟩
                  cases hel : elt e1 with
                  | no => rw [hel] at hl; cases hl
                  | exc c fs => rw [hel] at hl; cases hl
                  | ok r2 =>
                    rw [hel] at hl
                    simp only [noX, O.bind_ok] at hl
                    intro y F5 H5 l5 q5
                    obtain ⟨F6, l6, _, q6⟩ := q5.fz l5
                    split at hl
                    · cases hl
                    · rename_i d hd
                      cases hrest : lcL tg cond elt (wipeE es vs) (xs.drop (i + 1)) with
                      | no => rw [hrest] at hl; cases hl
                      | exc c fs => rw [hrest] at hl; cases hl
                      | ok ds3 =>
                        rw [hrest] at hl
                        cases hl
                        have hF6 : F6 Dl = none := l6.n Dl hF4 (by rw [hH4]; simp)
                        have hH6 : H5 Dl = some (.lst vs2) := l6.h Dl _ nT hH4
                        have hsub : Sub F2 F6 := (l3.f.trans l4.f).trans l6.f
                        refine ⟨vs2, hH6, by rw [← hr.len]; exact szl (by omega), F6, ds1 ++ [d], ds3, vs2 ++ [y], (((l2.trans l3).trans l4).trans l6).mut hD hF6 nT, hF6, upd_same, (hr.mono hsub).app (RpL.cons (q6.sto hd) RpL.nil), rfl, by rw [he]; simp, by simp; omega⟩
        · intro H2 ⟨F2, ds1, ds2, vs2, l2, hF, hH, hr, hl, he, hle⟩
          have e0 : xs.drop xs.length = [] := List.drop_length
          rw [e0] at hl
          cases hl
          have e1 : ds = ds1 := by rw [he]; simp
          subst e1
          exact h (.ref Dl) F2 H2 (l1.trans l2) (Rr.back l1 ⟨Dl, vs2, rfl, hD, hF, nT, hH, hr⟩)
    · exact h.elim
/-- a clause's tests -/
def DTs (X : Cx) (T : List Addr) (ifs : List Expr) (f : Env → O Bool) : Prop := PTs X ifs (tT X.K T W0 f)
theorem pts_weak {ifs : List Expr} {t t' : TT} (h : PTs X ifs t) (w : ∀ σ H Q, t' σ H Q → t σ H Q) : PTs X ifs t' := ⟨fun pins s σ H Q I q => h.run pins s σ H Q I (w σ H Q q)⟩
theorem dts_nil : DTs X T [] fYes := pts_weak pts_nil fun σ H Q ⟨F0, H0, F, es, st, h⟩ => h true F H (Le.refl st.ok) rfl
theorem dts_one {c : Expr} {f : Env → O Bool} (h : DT X T W0 c f) : DTs X T [c] f := pts_one h
theorem de_lc {elt tg iter : Expr} {ifs : List Expr} {scope : Scope} {own : List (Str × Nat)} {pos : Pos} {src : Env → O (List R)} {t : Tg} {cond : Env → O Bool} {fe : Env → O R} (hN : X.N.Nodup) (hi : DI false X T W tg iter src) (ok : BlkOk X.N X.env.scope scope own)
    (hg : ∀ (s : Shared) (H : Hp) (C : Addr) (cl : List (Str × Addr)) (fp : List Addr), PG (X.blk s H scope (compEnvC scope cl C X.env) fp) tg (tgOf X.K t))
    (ht : ∀ (s : Shared) (H : Hp) (C : Addr) (cl : List (Str × Addr)) (fp : List Addr), DTs (X.blk s H scope (compEnvC scope cl C X.env) fp) T ifs cond)
    (he : ∀ (s : Shared) (H : Hp) (C : Addr) (cl : List (Str × Addr)) (fp : List Addr), DE (X.blk s H scope (compEnvC scope cl C X.env) fp) T W0 elt fe) (hc : X.calm = true := by rfl) (hs : ∀ x, foldedSetIterable iter X.env x = pure x := by intro _; rfl)
    (hvs : ∀ i ∈ t.at, i ∈ own.map (·.2) := by decide) :
    DE X T W (.ListComp elt [⟨tg, iter, ifs, 0⟩] scope pos) (fLc src (own.map (·.2)) t cond fe) :=
  pe_weak (pe_lc (tt := tT X.K T W0 cond) (te := tD X.K T W0 fe) hc hN hi ok hg (fun s H C cl fp => ht s H C cl fp) (fun s H C cl fp => he s H C cl fp) hs) fun σ H Q h => lc_weak hvs h
end
/-! ### targets by their places -/
section
variable {X : Cx} {pos : Pos}
theorem pgN (i : Nat) {K : PySem.W.Frag} {x : Str} (hN : X.N.Nodup) (hi : X.N[i]? = some x := by rfl) (hx : Loc X.env.scope x := by first | exact Or.inl rfl | exact Or.inr rfl) (hf : X.fn x = true ∨ X.env.scope.names.lookup x = some .local := by first | exact .inl rfl | exact .inr rfl) : PG X (.Name x pos) (tgOf K (.nm i)) := pg_name hN hi hx hf
theorem pgs0 : PGs X [] (gsOf []) := pgs_nil
theorem pgs1 {e : Expr} {es : List Expr} {i : Nat} {is : List Nat} (h : PG X e (tgOf X.K (.nm i))) (r : PGs X es (gsOf is)) (hs : (assignEach (e :: es) X.env).map (·.2) = assign e X.env :: (assignEach es X.env).map (·.2) := by rfl) : PGs X (e :: es) (gsOf (i :: is)) := pgs_cons h r hs
theorem pgT {es : List Expr} {k : Nat} {is : List Nat} (h : PGs X es (gsOf is)) (hn : (assignEach es X.env).length = is.length := by rfl) (hst : (assignEach es X.env).findIdx? (·.1) = none := by rfl) (hc : X.calm = true := by rfl) : PG X (.Tuple es k pos) (tgOf X.K (.tp is)) := pg_tup hc h hn hst
end
/-! ### statements -/
inductive Out where
  | nx (es : Env) | rt (r : R) | br (es : Env) | ct (es : Env) | exc (es : Env) (c : Addr) (fs : Option (List Str × List D)) | no
section
variable (K : PySem.W.Frag) (T : List Addr) (W : WX) (F0 H0 : Hp)
/-- what follows an outcome; Fc: what stands before -/
def OutOk (Fc : Hp) (D : Ends) : Out → Prop
  | .nx es => ∀ σ F H, Sub Fc F → StOk K T F0 H0 F H σ es → D.nx σ H
  | .br es => ∀ σ F H, Sub Fc F → StOk K T F0 H0 F H σ es → D.bk σ H
  | .ct es => ∀ σ F H, Sub Fc F → StOk K T F0 H0 F H σ es → D.ct σ H
  | .rt r => ∀ v F H, Le T F0 H0 F H → Rr K T H0 H0 F H v r → D.rt v H
  | .exc es c fs => ∀ cls d σ F H, Sub Fc F → StOk K T F0 H0 F H σ es → XOk K H c fs cls d → W cls d σ H
  | .no => False
def tS (g : Env → Out) : TS := fun D σ H => ∃ F es, StOk K T F0 H0 F H σ es ∧ OutOk K T W F0 H0 F D (g es)
end
def DS (X : Cx) (T : List Addr) (W : WX) (st : Stmt) (g : Env → Out) : Prop := ∀ F0 H0, PS X st (tS X.K T W F0 H0 g)
def DSs (X : Cx) (T : List Addr) (W : WX) (st : List Stmt) (g : Env → Out) : Prop := ∀ F0 H0, PSs X st (tS X.K T W F0 H0 g)
def Out.seq (o : Out) (g : Env → Out) : Out := match o with
  | .nx es => g es
  | o => o
@[simp] theorem Out.seq_nx (es : Env) (g : Env → Out) : (Out.nx es).seq g = g es := rfl
@[simp] theorem Out.seq_rt (r : R) (g : Env → Out) : (Out.rt r).seq g = .rt r := rfl
@[simp] theorem Out.seq_no (g : Env → Out) : Out.no.seq g = .no := rfl
@[simp] theorem Out.seq_br (es : Env) (g : Env → Out) : (Out.br es).seq g = .br es := rfl
@[simp] theorem Out.seq_ct (es : Env) (g : Env → Out) : (Out.ct es).seq g = .ct es := rfl
@[simp] theorem Out.seq_exc (es : Env) (c fs) (g : Env → Out) : (Out.exc es c fs).seq g = .exc es c fs := rfl
def gSeq (g h : Env → Out) : Env → Out := fun es => (g es).seq h
def gNext : Env → Out := fun es => .nx es
/-- an expression's outcome in a statement -/
def O.out {α : Type} (o : O α) (es : Env) (k : α → Out) : Out := match o with
  | .ok a => k a
  | .exc c fs => .exc es c fs
  | .no => .no
@[simp] theorem O.out_ok {α : Type} (a : α) (es : Env) (k : α → Out) : (O.ok a).out es k = k a := rfl
@[simp] theorem O.out_exc {α : Type} (c fs) (es : Env) (k : α → Out) : (O.exc c fs : O α).out es k = .exc es c fs := rfl
@[simp] theorem O.out_no {α : Type} (es : Env) (k : α → Out) : (O.no : O α).out es k = .no := rfl
section
variable {X : Cx} {T : List Addr} {W : WX} {st : Stmt} {rest : List Stmt} {g h : Env → Out} {e : Expr} {f : Env → O R} {pos : Pos}
theorem OutOk.sub {K : PySem.W.Frag} {F0 H0 Fc Fd : Hp} {D : Ends} {o : Out} (h : OutOk K T W F0 H0 Fc D o) (l : Sub Fc Fd) : OutOk K T W F0 H0 Fd D o := by
  cases o with
  | nx es => exact fun σ F H z s => h σ F H (l.trans z) s
  | br es => exact fun σ F H z s => h σ F H (l.trans z) s
  | ct es => exact fun σ F H z s => h σ F H (l.trans z) s
  | rt r => exact h
  | exc es c fs => exact fun cls d σ F H z s x => h cls d σ F H (l.trans z) s x
  | no => exact h
theorem dss_nil : DSs X T W [] gNext := fun F0 H0 => pss_weak pss_nil fun D σ H ⟨F, es, st, h⟩ => h σ F H (Sub.refl _) st
theorem dss_cons (h1 : DS X T W st g) (h2 : DSs X T W rest h) : DSs X T W (st :: rest) (gSeq g h) := fun F0 H0 => pss_weak (pss_cons (h1 F0 H0) (h2 F0 H0)) fun D σ H ⟨F, es, st, q⟩ => by
  refine ⟨F, es, st, ?_⟩
  unfold gSeq at q
  cases hg : g es with
  | nx es' => rw [hg] at q; exact fun σ' F' H' z s => ⟨F', es', s, q.sub z⟩
  | rt r => rw [hg] at q; exact q
  | br es' => rw [hg] at q; exact q
  | ct es' => rw [hg] at q; exact q
  | exc es' c fs => rw [hg] at q; exact q
  | no => rw [hg] at q; exact q
theorem dss_one (h1 : DS X T W st g) : DSs X T W [st] g := fun F0 H0 => pss_one (h1 F0 H0)
/-- an expression, then k of what it gives -/
theorem out_seq {K : PySem.W.Frag} {F0 H0 F H : Hp} {σ : L2.St} {es : Env} {α β : Type} {rel : Hp → Hp → β → α → Prop} {Q : β → Hp → Prop} {o : O α} {k : α → Out} {D : Ends} (st : StOk K T F0 H0 F H σ es) (h : OutOk K T W F0 H0 F D (o.out es k))
    (hk : ∀ a v F1 H1, o = .ok a → StOk K T F0 H0 F1 H1 σ es → Le T F H F1 H1 → rel F1 H1 v a → OutOk K T W F0 H0 F1 D (k a) → Q v H1) : PO K T W F H σ rel Q o := by
  cases o with
  | ok a => exact fun v F1 H1 l q => hk a v F1 H1 rfl (st.step l) l q (h.sub l.f)
  | exc c fs => exact fun cls d F1 H1 l q => h cls d σ F1 H1 l.f (st.step l) q
  | no => exact h
/-! name = e -/
def gSet (i : Nat) (fz : Bool) (f : Env → O R) : Env → Out := fun es => (f es).out es fun r => match (if fz = true then r.fz else r) with
  | .val d => .nx (es.set i (.val d))
  | .brw d => .nx (es.set i (.brw d))
  | .new xs => .nx (es.set i (.own xs))
  | .bor _ => .no
theorem set_weak {K : PySem.W.Frag} {F0 H0 : Hp} {i : Nat} {fz : Bool} {D : Ends} {σ : L2.St} {H : Hp} (q : tS K T W F0 H0 (gSet i fz f) D σ H) : tAsg (tD K T W f) (gName i) D σ H := by
  obtain ⟨F, es, st, q⟩ := q
  refine ⟨F0, H0, F, es, st, out_seq st q fun r v F1 H1 _ st1 l1 q1 h1 => ?_⟩
  show D.nx (σ.set i (some v)) H1
  cases fz with
  | true =>
    rw [if_pos rfl] at h1
    obtain ⟨F2, l2, s12, q2⟩ := q1.fz l1
    have st2 := st.step l2
    replace h1 := h1.sub s12
    generalize r.fz = r' at h1 q2
    cases r' with
    | val d => exact h1 _ F2 H1 (Sub.refl _) (st2.set q2)
    | brw d => exact h1 _ F2 H1 (Sub.refl _) (st2.set q2)
    | new xs => exact q2.elim
    | bor xs => exact h1.elim
  | false =>
    rw [if_neg Bool.false_ne_true] at h1
    cases r with
    | val d => exact h1 _ F1 H1 (Sub.refl _) (st1.set q1)
    | brw d => exact h1 _ F1 H1 (Sub.refl _) (st1.set q1)
    | new xs =>
      obtain ⟨p, vs, e1, e2, e3, e4, e5, e6⟩ := q1
      have h0p : H0 p = none := by
        cases z : H0 p with
        | none => rfl
        | some o => rw [st.le.h p o e4 z] at e2; cases e2
      refine h1 _ F1 H1 (Sub.refl _) (st1.set ⟨p, vs, e1, h0p, e3, e4, e5, e6, fun j ys hj hy hs => ?_, fun j yss p' ps' hy hs ho => ?_⟩)
      obtain ⟨p', vs', g1, _, _, _, g5, _⟩ := st.env.own j ys hy
      rw [g1] at hs
      cases hs
      rw [g5] at e2
      cases e2
      obtain ⟨p2, ps2, g1, g2, _⟩ := st.env.two j yss hy
      rw [g1] at hs
      cases hs
      have g2' := g2.step l1
      have ep : ps2 = ps' := refs_inj (HO.lst.inj (Option.some.inj (g2'.2.2.2.1.symm.trans ho.2.2.2.1)))
      subst ep
      refine ⟨fun z => ?_, fun z => ?_⟩
      · rw [z, g2.2.2.2.1] at e2; cases e2
      · obtain ⟨k, hk⟩ := List.mem_iff_getElem?.mp z
        obtain ⟨_, _, _, us, xs', _, g5, _⟩ := g2.2.2.2.2.2.2.2 k p hk
        rw [g5] at e2; cases e2
    | bor xs => exact h1.elim
theorem ds_set {i : Nat} {fz : Bool} {x : Str} {pos' : Pos} (hN : X.N.Nodup) (he : DE X T W e f) (hi : X.N[i]? = some x := by rfl) (hx : Loc X.env.scope x := by first | exact Or.inl rfl | exact Or.inr rfl) (hs : swapsWith e (some (.Name x pos')) pos.line X.env = pure false := by rfl)
    (hf : X.fn x = true ∨ X.env.scope.names.lookup x = some .local := by first | exact .inl rfl | exact .inr rfl) : DS X T W (.Assign [.Name x pos'] e pos) (gSet i fz f) := fun F0 H0 => ps_weak (ps_set hN hi hx he hs hf) fun D σ H q => set_weak q
/-- name = [..], one clause, the name a local -/
theorem ds_setLc {i : Nat} {fz : Bool} {y : Str} {py : Pos} {elt tg iter : Expr} {ifs : List Expr} {scope : Scope} {own : List (Str × Nat)} {pos spos : Pos} {src : Env → O (List R)} {t : Tg} {cond : Env → O Bool} {fe : Env → O R} (hN : X.N.Nodup) (hi : DI false X T W tg iter src) (ok : BlkOk X.N X.env.scope scope own)
    (hg : ∀ (s : Shared) (H : Hp) (C : Addr) (cl : List (Str × Addr)) (fp : List Addr), PG (X.blk s H scope (compEnvC scope cl C X.env) fp) tg (tgOf X.K t))
    (ht : ∀ (s : Shared) (H : Hp) (C : Addr) (cl : List (Str × Addr)) (fp : List Addr), DTs (X.blk s H scope (compEnvC scope cl C X.env) fp) T ifs cond)
    (he : ∀ (s : Shared) (H : Hp) (C : Addr) (cl : List (Str × Addr)) (fp : List Addr), DE (X.blk s H scope (compEnvC scope cl C X.env) fp) T W0 elt fe)
    (hy : X.N[i]? = some y := by rfl) (hyl : X.env.scope.names.lookup y = some .local := by rfl) (hsw : swapsWith (.ListComp elt [⟨tg, iter, ifs, 0⟩] scope pos) (some (.Name y py)) spos.line X.env = pure true := by exact sw_true rfl rfl rfl (by decide +kernel))
    (hc : X.calm = true := by rfl) (hs : ∀ x, foldedSetIterable iter X.env x = pure x := by intro _; rfl) (hvs : ∀ i ∈ t.at, i ∈ own.map (·.2) := by decide) :
    DS X T W (.Assign [.Name y py] (.ListComp elt [⟨tg, iter, ifs, 0⟩] scope pos) spos) (gSet i fz (fLc src (own.map (·.2)) t cond fe)) := fun F0 H0 =>
  ps_weak (ps_setLc (tt := tT X.K T W0 cond) (te := tD X.K T W0 fe) hc hN hy hyl hsw hi ok hg (fun s H C cl fp => ht s H C cl fp) (fun s H C cl fp => he s H C cl fp) hs) fun D σ H q => by
    have z := set_weak q
    show tLc _ _ _ _ _ _ _ _
    exact lc_weak hvs z
/-! target = e -/
def gAsg (t : Tg) (f : Env → O R) : Env → Out := fun es => (f es).out es fun r => match stTg t r.fz es with
  | some es' => .nx es'
  | none => .no
theorem ds_asg {tg : Expr} {t : Tg} (he : DE X T W e f) (hg : PG X tg (tgOf X.K t)) (hs : swapsWithSole [tg] e pos.line X.env = pure false := by rfl) (hw : swappedStores [tg] e X.env = pure none := by rfl)
    (h1 : (assignEach [tg] X.env).map (·.2) = [assign tg X.env] := by rfl) : DS X T W (.Assign [tg] e pos) (gAsg t f) := fun F0 H0 => ps_weak (ps_asg he hg hs hw h1) fun D σ H ⟨F, es, st, q⟩ => by
  refine ⟨F0, H0, F, es, st, out_seq st q fun r v F1 H1 _ st1 l1 q1 h1 => ?_⟩
  obtain ⟨F2, l2, s12, q2⟩ := q1.fz l1
  have st2 := st.step l2
  cases ht : stTg t r.fz es with
  | none => rw [ht] at h1; exact h1.elim
  | some es' =>
    rw [ht] at h1
    exact tg_ok st2 q2 ht fun σ' st' _ => h1 σ' F2 H1 s12 st'
/-! e; return e; if -/
def gExpr (f : Env → O R) : Env → Out := fun es => (f es).out es fun _ => .nx es
theorem ds_expr (he : DE X T W e f) (hs : swapsWith e none pos.line X.env = pure false := by rfl) : DS X T W (.Expr e pos) (gExpr f) := fun F0 H0 => ps_weak (ps_expr he hs) fun D σ H ⟨F, es, st, q⟩ =>
  ⟨F0, H0, F, es, st, out_seq st q fun r v F1 H1 _ st1 l1 q1 h1 => h1 σ F1 H1 (Sub.refl _) st1⟩
theorem ds_doc {x j pos pos'} : DS X T W (.Expr (.Constant (.str x) j pos) pos') gNext := fun F0 H0 => ps_weak ps_doc fun D σ H ⟨F, es, st, h⟩ => h σ F H (Sub.refl _) st
def gRet (f : Env → O R) : Env → Out := fun es => (f es).out es fun r => match r with
  | .val d => .rt (.val d)
  | .new xs => .rt (.new xs)
  | .bor _ => .no
  | .brw _ => .no
def gRetV (i : Nat) : Env → Out := fun es => (fVar i es).out es fun r => match r with
  | .val d => .rt (.val d)
  | .new xs => .rt (.new xs)
  | .bor xs => .rt (.new xs)
  | .brw _ => .no
theorem StOk.h0 {K : PySem.W.Frag} {F0 H0 F H : Hp} {σ : L2.St} {es : Env} (st : StOk K T F0 H0 F H σ es) {p : Addr} (nt : p ∉ T) (h : H p = none) : H0 p = none := by
  cases z : H0 p with
  | none => rfl
  | some o => rw [st.le.h p o nt z] at h; cases h
theorem ds_ret (he : DE X T W e f) : DS X T W (.Return (some e) pos) (gRet f) := fun F0 H0 => ps_weak (ps_ret he) fun D σ H ⟨F, es, st, q⟩ =>
  ⟨F0, H0, F, es, st, out_seq st q fun r v F1 H1 hr st1 l1 q1 h1 => by
    cases r with
    | val d => exact h1 v F1 H1 st1.le q1
    | brw d => exact h1.elim
    | bor xs => exact h1.elim
    | new xs => exact h1 v F1 H1 st1.le (Rr.back st.le q1)⟩
/-- return x -/
theorem ds_retV (i : Nat) {x : Str} {p : Pos} (hN : X.N[i]? = some x := by rfl) (hv : Vis X.env.scope x := by first | exact Or.inl rfl | exact Or.inr (Or.inl rfl) | exact Or.inr (Or.inr rfl)) (hd : (x == ("__debug__" : Str)) = false := by decide)
    (hcd : (x == ("__classdict__" : Str)) = false := by decide) : DS X T W (.Return (some (.Name x p)) pos) (gRetV i) := fun F0 H0 => ps_weak (ps_ret (pv i hN hv hd hcd)) fun D σ H ⟨F, es, st, q⟩ => by
  unfold gRetV at q
  cases hf : fVar i es with
  | no => rw [hf] at q; exact q.elim
  | exc c fs =>
    unfold fVar at hf
    split at hf <;> cases hf
  | ok r =>
    rw [hf] at q
    obtain ⟨v, h1, h2⟩ := st.var hf
    refine ⟨v, h1, ?_⟩
    cases r with
    | val d => exact q v F H st.le h2
    | brw d => exact q.elim
    | new xs =>
      unfold fVar at hf
      split at hf
      · cases hf
      · rename_i d _
        unfold nrm at hf
        split at hf <;> cases hf
      · cases hf
      · cases hf
    | bor xs =>
      have e : es[i]? = some (.own xs) := by
        unfold fVar at hf
        split at hf
        · cases hf
        · rename_i d _
          unfold nrm at hf
          split at hf <;> cases hf
        · rename_i e
          cases hf
          exact e
        · cases hf
      obtain ⟨p, vs, g1, g2, g3, g4, g5, g6⟩ := st.env.own i xs e
      rw [g1] at h1
      cases h1
      exact q (.ref p) F H st.le ⟨p, vs, rfl, g2, g3, g4, g5, g6⟩
def gRetN : Env → Out := fun _ => .rt (.val .non)
theorem ds_retN : DS X T W (.Return none pos) gRetN := fun F0 H0 => ps_weak ps_retN fun D σ H ⟨F, es, st, q⟩ => q .non F H st.le (by rw [Rr, Rp])
def gIf (c : Env → O Bool) (g h : Env → Out) : Env → Out := fun es => (c es).out es fun b => if b = true then g es else h es
theorem ds_if {c : Expr} {fc : Env → O Bool} {sa sb : List Stmt} (hc : DT X T W c fc) (ha : DSs X T W sa g) (hb : DSs X T W sb h) : DS X T W (.If c sa sb pos) (gIf fc g h) := fun F0 H0 => ps_weak (ps_if hc (ha F0 H0) (hb F0 H0)) fun D σ H ⟨F, es, st, q⟩ =>
  ⟨F0, H0, F, es, st, out_seq (rel := fun _ _ b a => b = a) st q fun a b F1 H1 _ st1 l1 q1 h1 => by
    subst q1
    cases b with
    | true => exact ⟨F1, es, st1, h1⟩
    | false => exact ⟨F1, es, st1, h1⟩⟩
def gPass : Env → Out := gNext
theorem ds_pass : DS X T W (.Pass pos) gNext := fun F0 H0 => ps_weak ps_pass fun D σ H ⟨F, es, st, h⟩ => h σ F H (Sub.refl _) st
def gBreak : Env → Out := fun es => .br es
def gCont : Env → Out := fun es => .ct es
theorem ds_break : DS X T W (.Break pos) gBreak := fun F0 H0 => ps_weak ps_break fun D σ H ⟨F, es, st, h⟩ => h σ F H (Sub.refl _) st
theorem ds_cont : DS X T W (.Continue pos) gCont := fun F0 H0 => ps_weak ps_continue fun D σ H ⟨F, es, st, h⟩ => h σ F H (Sub.refl _) st
/-! for -/
def forL (t : Tg) (body : Env → Out) : List R → Env → Out
  | [], es => .nx es
  | x :: xs, es => match stTg t x es with
    | none => .no
    | some e1 => match body e1 with
      | .nx e2 => forL t body xs e2
      | .ct e2 => forL t body xs e2
      | .br e2 => .nx e2
      | .rt r => .rt r
      | .exc es c fs => .exc es c fs
      | .no => .no
def gFor (src : Env → O (List R)) (t : Tg) (body : Env → Out) : Env → Out := fun es => (src es).out es fun xs => forL t body xs es
theorem ds_for {tg iter : Expr} {body : List Stmt} {src : Env → O (List R)} {t : Tg} (hi : DI true X T W tg iter src) (hg : PG X tg (tgOf X.K t)) (hb : DSs X T W body g) (hp : PassesOwn (model X.prog X.w) X.A X.env X.xe) (hc : X.calm = true := by rfl) (hs : ∀ x, foldedSetIterable iter X.env x = pure x := by intro _; rfl) :
    DS X T W (.For tg iter body [] pos) (gFor src t g) := fun F0 H0 => ps_weak (ps_for hp hc hi hg (hb F0 H0) hs) fun D σ H ⟨F, es, st, q⟩ => by
  refine ⟨F0, H0, F, es, st, out_seq st q fun xs J F1 H1 _ st1 l1 ⟨G, Y, w, hG, hY⟩ h1 => ?_⟩
  refine for_it w (fun i σ2 H2 => ∃ F2 e2, Sub F1 F2 ∧ StOk X.K T F0 H0 F2 H2 σ2 e2 ∧ OutOk X.K T W F0 H0 F2 D (forL t g (xs.drop i) e2)) ⟨F1, es, Sub.refl _, st1, h1⟩ ?_ ?_ ?_
  · intro i σ2 H2 hi ⟨F2, e2, s2, st2, _⟩
    exact hG F2 H2 ⟨s2, st2.le⟩
  · intro i x σ2 H2 H3 hi ⟨F2, e2, s2, st2, o2⟩ hy
    obtain ⟨F3, r, hx, l3, q3⟩ := hY i H2 x H3 F2 hi ⟨s2, st2.le⟩ hy
    have hdr : xs.drop i = r :: xs.drop (i + 1) := by
      have : i < xs.length := hi
      rw [List.drop_eq_getElem_cons this]
      rw [List.getElem?_eq_getElem this] at hx
      rw [Option.some.inj hx]
    rw [hdr] at o2
    simp only [forL] at o2
    cases he : stTg t r e2 with
    | none => rw [he] at o2; exact o2.elim
    | some e3 =>
      rw [he] at o2
      simp only at o2
      refine tg_ok (st2.step l3) q3 he fun σ3 st3 _ => ⟨F3, e3, st3, ?_⟩
      have s3 : Sub F1 F3 := s2.trans l3.f
      replace o2 := o2.sub l3.f
      cases hb : g e3 with
      | nx e4 => rw [hb] at o2; exact fun σ4 F4 H4 z st4 => ⟨F4, e4, s3.trans z, st4, o2.sub z⟩
      | ct e4 => rw [hb] at o2; exact fun σ4 F4 H4 z st4 => ⟨F4, e4, s3.trans z, st4, o2.sub z⟩
      | br e4 => rw [hb] at o2; exact o2
      | rt r => rw [hb] at o2; exact o2
      | exc es c fs => rw [hb] at o2; exact o2
      | no => rw [hb] at o2; exact o2
  · intro σ2 H2 ⟨F2, e2, s2, st2, o2⟩
    have e0 : xs.drop xs.length = [] := List.drop_length
    rw [e0] at o2
    exact o2 σ2 F2 H2 (Sub.refl _) st2
end
end Fw
namespace Fw
open PySem PySem.Spec PyProof.Rows L2
/-! ### lists of one's own that change -/
section
variable {K : PySem.W.Frag} {T : List Addr} {F0 H0 F H : Hp} {σ : L2.St} {es : Env}
theorem StOk.mutOwn {i : Nat} {xs xs' : List D} {p : Addr} {vs' : List V} (st : StOk K T F0 H0 F H σ es) (he : es[i]? = some (.own xs)) (hp : σ[i]? = some (some (.ref p))) (r : RpL K F xs' vs') :
    StOk K T F0 H0 F (upd H p (.lst vs')) σ (es.set i (.own xs')) := by
  obtain ⟨p', vs, h1, h2, h3, h4, h5, h6⟩ := st.env.own i xs he
  have e : p = p' := by rw [hp] at h1; cases h1; rfl
  subst e
  have hi : i < es.length := (List.getElem?_eq_some_iff.mp he).1
  refine ⟨st.ok0, st.le.mut h2 h3 h4, ⟨by simpa using st.env.len, fun j d h => ?_, fun j d h => ?_, fun j ys h => ?_, fun j k xs ys q g1 g2 g3 g4 => ?_, fun j yss h => ?_⟩⟩
  · rcases get_set h with ⟨e, e2⟩ | ⟨e, e2⟩
    · cases e2
    · exact st.env.val j d e2
  · rcases get_set h with ⟨e, e2⟩ | ⟨e, e2⟩
    · cases e2
    · exact st.env.brw j d e2
  · rcases get_set h with ⟨e, e2⟩ | ⟨e, e2⟩
    · subst e
      cases e2
      exact ⟨p, vs', h1, h2, h3, h4, upd_same, r⟩
    · obtain ⟨q, us, g1, g2, g3, g4, g5, g6⟩ := st.env.own j ys e2
      refine ⟨q, us, g1, g2, g3, g4, ?_, g6⟩
      have : q ≠ p := fun z => by
        subst z
        exact e (st.env.uni i j xs ys q he e2 h1 g1)
      rw [upd_ne this]; exact g5
  · have w : ∀ {j : Nat} {ys : List D}, (es.set i (.own xs'))[j]? = some (.own ys) → ∃ zs, es[j]? = some (.own zs) := fun {j ys} h => by
      rcases get_set h with ⟨e, _⟩ | ⟨_, e2⟩
      · exact ⟨_, e ▸ he⟩
      · exact ⟨_, e2⟩
    obtain ⟨_, w1⟩ := w g1
    obtain ⟨_, w2⟩ := w g2
    exact st.env.uni j k _ _ q w1 w2 g3 g4
  · rcases get_set h with ⟨e, e2⟩ | ⟨e, e2⟩
    · cases e2
    · obtain ⟨p2, ps, g1, g2, g3, g4⟩ := st.env.two j yss e2
      obtain ⟨n1, n2⟩ := g3 i xs p he h1
      obtain ⟨k1, k2, k3, k4, k5, k6, k7, k8⟩ := g2
      refine ⟨p2, ps, g1, ⟨k1, k2, k3, by rw [upd_ne (Ne.symm n1)]; exact k4, k5, k6, k7, fun m q hm => ?_⟩, fun m zs q hm hq => ?_, fun m zss hm => ?_⟩
      · obtain ⟨f1, f2, f3, us, zs, f4, f5, f6⟩ := k8 m q hm
        have : q ≠ p := fun z => n2 (z ▸ List.mem_iff_getElem?.mpr ⟨m, hm⟩)
        exact ⟨f1, f2, f3, us, zs, f4, by rw [upd_ne this]; exact f5, f6⟩
      · rcases get_set hm with ⟨f, _⟩ | ⟨_, f2⟩
        · subst f; exact g3 i xs q he hq
        · exact g3 m zs q f2 hq
      · rcases get_set hm with ⟨f, f2⟩ | ⟨_, f2⟩
        · cases f2
        · exact g4 m zss f2
end
section
variable {X : Cx} {T : List Addr} {W : WX} {e : Expr} {f : Env → O R} {x : Str} {p1 p2 p3 pos : Pos} {g : Env → Out}
/-! x.append(e) -/
def gApp (i : Nat) (f : Env → O R) : Env → Out := fun es => match es[i]? with
  | some (.own xs) => (f es).out es fun r => match r.fz.sto with
    | some d => if xs.length < 90000 then .nx (es.set i (.own (xs ++ [d]))) else .no
    | none => .no
  | _ => .no
theorem own_ty {K : PySem.W.Frag} {H : Hp} {p : Addr} {vs : List V} (h : H p = some (.lst vs)) : tyV K "list" (.ref p) H := Or.inl ⟨rfl, _, SqL.of h⟩
theorem ds_app (i : Nat) (he : DE X T W e f) (hN : X.N[i]? = some x := by rfl) (hv : Vis X.env.scope x := by first | exact Or.inl rfl | exact Or.inr (Or.inl rfl) | exact Or.inr (Or.inr rfl)) (hd : (x == ("__debug__" : Str)) = false := by decide)
    (hcd : (x == ("__classdict__" : Str)) = false := by decide)
    (hst : starEach [e] X.env = (false, eval e X.env) :: starEach [] X.env := by rfl)
    (hbase : attributeBase (.Name x p1) "append" X.env (eval (.Name x p1) X.env) = eval (.Name x p1) X.env := by rfl)
    (hfew : ((backTo p3 (starEach [e] X.env)).all (fun x => !x.1) && (backToKw p3 (keywordEach [] X.env)).all (fun x => x.1.isSome) && decide ([e].length + ([] : List Keyword).length + (if ([] : List Keyword).isEmpty then 0 else 1) < 30)) = true := by rfl)
    (hline : (p2.endLine == p3.line) = true := by rfl)
    (hs : swapsWith (.Call (.Attribute (.Name x p1) "append" p2) [e] [] p3) none pos.line X.env = pure false := by rfl) :
    DS X T W (.Expr (.Call (.Attribute (.Name x p1) "append" p2) [e] [] p3) pos) (gApp i f) := fun F0 H0 =>
  ps_weak (ps_expr (pe_bm PySem.F.plainAttrs_list PySem.F.slot_list_append PySem.F.type_list_append mt_append (pv i hN hv hd hcd) (pa_cons he pa_nil hst) hbase hfew hline hst rfl) hs) fun D σ H ⟨F, es, st, q⟩ => by
    unfold gApp at q
    split at q
    · rename_i xs e1
      obtain ⟨p, vs, h1, h2, h3, h4, h5, h6⟩ := st.env.own i xs e1
      refine ⟨.ref p, h1, own_ty h5, F0, H0, F, es, st, out_seq st q fun r v F1 H1 _ _ l1 q1 q => ?_⟩
      split at q
      · rename_i d e2
        split at q
        · rename_i hl
          obtain ⟨F2, l2, s2, q2⟩ := q1.fz l1
          have st2 := st.step l2
          have h5' : H1 p = some (.lst vs) := l2.h p _ h4 h5
          have rr : RpL X.K F2 (xs ++ [d]) (vs ++ [v]) := (h6.mono l2.f).app (RpL.cons (q2.sto e2) RpL.nil)
          exact ⟨p, vs, v, rfl, rfl, h5', by rw [← h6.len]; exact szl (by omega), q _ F2 _ s2 (st2.mutOwn e1 h1 rr)⟩
        · exact q.elim
      · exact q.elim
    · exact q.elim
/-! x.clear() -/
def gClr (i : Nat) : Env → Out := fun es => match es[i]? with
  | some (.own _) => .nx (es.set i (.own []))
  | _ => .no
theorem ds_clr (i : Nat) (hN : X.N[i]? = some x := by rfl) (hv : Vis X.env.scope x := by first | exact Or.inl rfl | exact Or.inr (Or.inl rfl) | exact Or.inr (Or.inr rfl)) (hd : (x == ("__debug__" : Str)) = false := by decide)
    (hcd : (x == ("__classdict__" : Str)) = false := by decide)
    (hbase : attributeBase (.Name x p1) "clear" X.env (eval (.Name x p1) X.env) = eval (.Name x p1) X.env := by rfl)
    (hline : (p2.endLine == p3.line) = true := by rfl)
    (hs : swapsWith (.Call (.Attribute (.Name x p1) "clear" p2) [] [] p3) none pos.line X.env = pure false := by rfl) :
    DS X T W (.Expr (.Call (.Attribute (.Name x p1) "clear" p2) [] [] p3) pos) (gClr i) := fun F0 H0 =>
  ps_weak (ps_expr (pe_bm0 PySem.F.plainAttrs_list PySem.F.slot_list_clear PySem.F.type_list_clear mt_clear (pv i hN hv hd hcd) hbase hline) hs) fun D σ H ⟨F, es, st, q⟩ => by
    unfold gClr at q
    split at q
    · rename_i xs e1
      obtain ⟨p, vs, h1, h2, h3, h4, h5, h6⟩ := st.env.own i xs e1
      exact ⟨.ref p, h1, own_ty h5, p, vs, rfl, rfl, h5, q _ F _ (Sub.refl _) (st.mutOwn e1 h1 RpL.nil)⟩
    · exact q.elim
/-! x[k] = e -/
def gSetI (i : Nat) (fk f : Env → O R) : Env → Out := fun es => (f es).out es fun r => match es[i]? with
  | some (.own xs) => (fk es).out es fun k => match k.fz, r.fz.sto with
    | .val (.int j), some d => match ixN xs.length j with
      | some n => .nx (es.set i (.own (xs.set n d)))
      | none => .no
    | _, _ => .no
  | _ => .no
theorem ds_setI (i : Nat) {ek : Expr} {fk : Env → O R} {pt : Pos} (hk : DE X T W ek fk) (he : DE X T W e f) (hN : X.N[i]? = some x := by rfl) (hv : Vis X.env.scope x := by first | exact Or.inl rfl | exact Or.inr (Or.inl rfl) | exact Or.inr (Or.inr rfl)) (hd : (x == ("__debug__" : Str)) = false := by decide)
    (hcd : (x == ("__classdict__" : Str)) = false := by decide) {tp : Pos}
    (hg : PG X (.Subscript (.Name x p1) ek tp) (gSub (tVar i) (tD X.K T W fk) rSetL)) (hs : swapsWithSole [.Subscript (.Name x p1) ek tp] e pos.line X.env = pure false := by rfl) (hw : swappedStores [.Subscript (.Name x p1) ek tp] e X.env = pure none := by rfl)
    (h1 : (assignEach [.Subscript (.Name x p1) ek tp] X.env).map (·.2) = [assign (.Subscript (.Name x p1) ek tp) X.env] := by rfl) :
    DS X T W (.Assign [.Subscript (.Name x p1) ek tp] e pos) (gSetI i fk f) := fun F0 H0 =>
  ps_weak (ps_asg he hg hs hw h1) fun D σ H ⟨F, es, st, q⟩ => by
    refine ⟨F0, H0, F, es, st, out_seq st q fun r v F1 H1 _ _ l1 q1 q => ?_⟩
    obtain ⟨F2, l2, s2, q2⟩ := q1.fz l1
    have st2 := st.step l2
    replace q := q.sub s2
    split at q
    · rename_i xs e1
      obtain ⟨p, vs, h1, h2, h3, h4, h5, h6⟩ := st2.env.own i xs e1
      refine ⟨.ref p, h1, F0, H0, F2, es, st2, out_seq st2 q fun k u F3 H3 _ _ l3 q3 q => ?_⟩
      obtain ⟨F4, l4, s4, q4⟩ := q3.fz l3
      have st4 := st2.step l4
      split at q
      · rename_i j d e2 e3
        split at q
        · rename_i n e4
          rw [e2] at q4
          refine ⟨p, vs, j, n, rfl, rq_int q4, l4.h p _ h4 h5, by rw [← h6.len]; exact e4, ?_⟩
          exact q _ F4 _ s4 (st4.mutOwn e1 h1 ((h6.mono l4.f).set n (((q2.step l4)).sto e3)))
        · exact q.elim
      · exact q.elim
    · exact q.elim
/-! while -/
def whL (c : Env → O Bool) (body : Env → Out) : Nat → Env → Out
  | 0, _ => .no
  | n + 1, es => (c es).out es fun b => if b = true then match body es with
      | .nx e2 => whL c body n e2
      | .ct e2 => whL c body n e2
      | .br e2 => .nx e2
      | .rt r => .rt r
      | .exc es c fs => .exc es c fs
      | .no => .no
    else .nx es
def gWhile (n : Nat) (c : Env → O Bool) (body : Env → Out) : Env → Out := whL c body n
theorem ds_while (n : Nat) {c : Expr} {fc : Env → O Bool} {body : List Stmt} (hc : DT X T W c fc) (hb : DSs X T W body g) (hp : PassesOwn (model X.prog X.w) X.A X.env X.xe) : DS X T W (.While c body [] pos) (gWhile n fc g) := fun F0 H0 =>
  ps_weak (ps_while hp hc (hb F0 H0)) fun D σ H ⟨F, es, st, q⟩ => by
    refine ⟨fun m σ H => ∃ F es, StOk X.K T F0 H0 F H σ es ∧ OutOk X.K T W F0 H0 F D (whL fc g m es), ⟨n, F, es, st, q⟩, ?_⟩
    intro m σ H ⟨F, es, st, q⟩
    refine ⟨F0, H0, F, es, st, ?_⟩
    cases m with
    | zero => exact q.elim
    | succ m =>
      simp only [whL] at q
      refine out_seq (rel := fun _ _ b a => b = a) st q fun a b F1 H1 _ st1 l1 q1 h1 => ?_
      subst q1
      cases b with
      | false => exact h1 σ F1 H1 (Sub.refl _) st1
      | true =>
        rw [if_pos rfl] at h1
        refine ⟨fun σ' H' => ∃ F' es', StOk X.K T F0 H0 F' H' σ' es' ∧ OutOk X.K T W F0 H0 F' D (whL fc g m es'), fun σ' H' w => ⟨m, Nat.lt_succ_self _, w⟩, ?_⟩
        refine ⟨F1, es, st1, ?_⟩
        cases hb : g es with
        | nx e2 => rw [hb] at h1; exact fun σ' F' H' z s => ⟨F', e2, s, h1.sub z⟩
        | ct e2 => rw [hb] at h1; exact fun σ' F' H' z s => ⟨F', e2, s, h1.sub z⟩
        | br e2 => rw [hb] at h1; exact h1
        | rt r => rw [hb] at h1; exact h1
        | exc es c fs => rw [hb] at h1; exact h1
        | no => rw [hb] at h1; exact h1
end
/-! ### a def's body -/
def slotD (d : D) : Sl := if flat d then .val d else .brw d
def startE (n : Nat) (ds : List D) : Env := ds.map slotD ++ List.replicate (n - ds.length) .no
/-- a def that raises nothing, by its body -/
def run0 (n : Nat) (body : Env → Out) (ds : List D) : O R := match body (startE n ds) with
  | .nx _ => .ok (.val .non)
  | .rt r => .ok r
  | _ => .no
def runX (n : Nat) (body : Env → Out) (ds : List D) : O R := match body (startE n ds) with
  | .nx _ => .ok (.val .non)
  | .rt r => .ok r
  | .exc _ c fs => .exc c fs
  | _ => .no
section
variable {K : PySem.W.Frag} {T : List Addr} {F H : Hp}
theorem start_ok {N : List Str} {ds : List D} {vs : List V} (ok : Ok T F H) (r : RpL K H ds vs) : StOk K T F H F H (L2.start N vs) (startE N.length ds) where
  ok0 := ok
  le := Le.refl ok
  env := by
    have ln := r.len
    have at_ : ∀ {i : Nat} {s : Sl}, (startE N.length ds)[i]? = some s → s ≠ .no → ∃ d v, ds[i]? = some d ∧ s = slotD d ∧ (L2.start N vs)[i]? = some (some v) ∧ Rp K H d v := fun {i s} h hn => by
      unfold startE at h
      by_cases hi : i < ds.length
      · rw [List.getElem?_append_left (by simpa using hi), List.getElem?_map] at h
        cases hd : ds[i]? with
        | none => rw [hd] at h; cases h
        | some d =>
          rw [hd] at h
          cases h
          obtain ⟨v, h1, h2⟩ := r.get hd
          refine ⟨d, v, rfl, rfl, ?_, h2⟩
          unfold L2.start
          rw [List.getElem?_append_left (by simp; omega), List.getElem?_map, h1]; rfl
      · rw [List.getElem?_append_right (by simp; omega), List.getElem?_replicate] at h
        split at h
        · cases h; exact absurd rfl hn
        · cases h
    refine ⟨by simp [L2.start, startE, ln], fun i d h => ?_, fun i d h => ?_, fun i xs h => ?_, fun i j xs ys p h1 h2 h3 h4 => ?_, fun i xss h => ?_⟩
    · obtain ⟨d', v, h1, h2, h3, h4⟩ := at_ h (by simp)
      unfold slotD at h2
      split at h2
      · rename_i f
        cases h2
        exact ⟨v, h3, Rp.flat f h4⟩
      · cases h2
    · obtain ⟨d', v, h1, h2, h3, h4⟩ := at_ h (by simp)
      unfold slotD at h2
      split at h2
      · cases h2
      · cases h2
        exact ⟨v, h3, h4⟩
    · obtain ⟨d', v, h1, h2, h3, h4⟩ := at_ h (by simp)
      unfold slotD at h2
      split at h2 <;> cases h2
    · obtain ⟨d', v, g1, g2, g3, g4⟩ := at_ h1 (by simp)
      unfold slotD at g2
      split at g2 <;> cases g2
    · obtain ⟨d', v, g1, g2, g3, g4⟩ := at_ h (by simp)
      unfold slotD at g2
      split at g2 <;> cases g2
/-- what is handed back, as the promise has it -/
theorem run_out {W : WX} {E : XK} {Q : VK} {body : Env → Out} {n : Nat} {ds : List D} {g : List D → O R} (hW : ∀ cls d σ H, E cls d H → W cls d σ H) (hg : ∀ ds, g ds = runX n body ds)
    (h : match g ds with
      | .ok (.val d) => ∀ v F' H', Le T F H F' H' → Rr K T H H F' H' v (.val d) → Q v H'
      | .ok (.new xs) => ∀ v F' H', Le T F H F' H' → Rr K T H H F' H' v (.new xs) → Q v H'
      | .exc c fs => ∀ cls d F' H', Le T F H F' H' → XOk K H' c fs cls d → E cls d H'
      | _ => False) : OutOk K T W F H F { nx := fun _ H' => Q .non H', rt := Q } (body (startE n ds)) := by
  rw [hg] at h
  unfold runX at h
  cases hb : body (startE n ds) with
  | nx es => rw [hb] at h; exact fun σ F' H' z s => h .non F' H' s.le (by rw [Rr, Rp])
  | br es => rw [hb] at h; exact h.elim
  | ct es => rw [hb] at h; exact h.elim
  | no => rw [hb] at h; exact h.elim
  | exc es c fs => rw [hb] at h; exact fun cls d σ F' H' z s x => hW _ _ _ _ (h cls d F' H' s.le x)
  | rt r =>
    rw [hb] at h
    cases r with
    | val d => exact fun v F' H' l q => h v F' H' l q
    | new xs => exact fun v F' H' l q => h v F' H' l q
    | brw d => exact h.elim
    | bor xs => exact h.elim
end
section
variable {P : Program} {w : World} {K : PySem.W.Frag} {mg : Str → Option Value} {base : Heap} {T : List Addr}
theorem fn_ok0 {x qual : Str} {st : Stmt} {f : Addr} {fd : FuncData} {N ps : List Str} {k : Nat} (F : Fun K x qual st f fd) (S : FnScope N ps (defScope st)) (body : Env → Out)
    (h : ∀ (cdv : Value) (A : Around) (outer : List PySem.Env) (s : Shared) (H : Hp) (E : XK), Room k (A.deeper (envOfC qual (defScope st) s.heap.objs.size f cdv)) → DSs (cxOf CX0 P w K mg base N qual (defScope st) f cdv A outer s H E).nox T W0 (defBody st) body) :
    FnOk P w K mg base CX0 (k + 1) f fd ps (spD K T ps.length (run0 N.length body)) := by
  refine F.ok S (fun vs H Q E h => by obtain ⟨F, ds, hl, _⟩ := h; exact hl) (fun cdv A outer s H vs Q E hr hsp => ?_)
  · obtain ⟨F, ds, hl, ok, r, q⟩ := hsp
    refine ⟨_, h cdv A outer s H E hr F H, F, _, start_ok (N := N) ok r, ?_⟩
    have q' : match runX N.length body ds with
      | .ok (.val d) => ∀ v F' H', Le T F H F' H' → Rr K T H H F' H' v (.val d) → Q v H'
      | .ok (.new xs) => ∀ v F' H', Le T F H F' H' → Rr K T H H F' H' v (.new xs) → Q v H'
      | .exc c fs => ∀ cls d F' H', Le T F H F' H' → XOk K H' c fs cls d → False
      | _ => False := by
      unfold run0 at q
      unfold runX
      cases hb : body (startE N.length ds) with
      | nx es => rw [hb] at q; exact q
      | rt r => cases r <;> (rw [hb] at q; exact q)
      | br es => rw [hb] at q; exact q
      | ct es => rw [hb] at q; exact q
      | no => rw [hb] at q; exact q
      | exc es c fs => rw [hb] at q; exact q.elim
    exact run_out (E := fun _ _ _ => False) (fun _ _ _ _ z => z) (fun _ => rfl) q'
end
end Fw
namespace Fw
open PySem PySem.Spec PyProof.Rows L2
/-! ### enumerate of a text -/
def IteS (z : Str) : It :=
  ⟨fun i _ => i < z.cps.size, fun i H v H' => ∃ p c, v = .ref p ∧ H p = none ∧ H' = upd H p (.tup [.int (i : Nat), .str ⟨#[c]⟩]) ∧ z.cps[i]? = some c, fun i _ => i = z.cps.size⟩
theorem walk_enumS {z : Str} : Walk (IteS z) z.cps.size (fun _ => True) (fun i H v H' => ∃ p c, v = .ref p ∧ H p = none ∧ H' = upd H p (.tup [.int (i : Nat), .str ⟨#[c]⟩]) ∧ z.cps[i]? = some c) where
  goes := fun i H h _ => h
  stops := fun H _ => rfl
  yields := fun i H x H' h _ y => y
theorem turn_enumS {P : Program} {w : World} {K : PySem.W.Frag} {elts : List Expr} {kk : Nat} {tpos : Pos} (z : Str) (t : Tok) (e it : Addr) :
    Turn P w K (.Tuple elts kk tpos) (IteS z) [e, it] e (fun i h => (∃ old, IsEnum h e it ((i : Nat) : Int) old) ∧ h.IsStrIter it (strIterType z) z t i ∧ e ≠ it) where
  mem := by simp
  obj := fun i h st b hb => by
    obtain ⟨⟨old, he⟩, ⟨o, ho, hc, hd⟩, _⟩ := st
    rcases List.mem_cons.mp hb with q | q
    · subst q; exact ⟨_, he, fun v q => nomatch q⟩
    · have q2 : b = it := by simpa using q
      subst q2; exact ⟨o, ho, fun v q => by rw [hd] at q; cases q⟩
  keep := fun i h h' st k => by
    obtain ⟨⟨old, he⟩, ⟨o, ho, hr⟩, hne⟩ := st
    exact ⟨⟨old, k e (by simp) _ he⟩, ⟨o, k it (by simp) _ ho, hr⟩, hne⟩
  item := by
    intro X hP hw hK hc i pins s σ H E I hf st hg
    subst hP hw hK
    obtain ⟨⟨old, he⟩, hit, hne⟩ := st
    have hh : X.A.in1.handled = none := I.ok.hd hc
    have hel : e < s.heap.objs.size := Heap.lt_size he
    have hil : it < s.heap.objs.size := by obtain ⟨_, q, _⟩ := hit; exact Heap.lt_size q
    refine wpAny_pyNext_enum_itemD (Draws.text hh it z t) he hit hg hne (by simpa using hne) fun x h' tk ⟨c, u, hx, ex⟩ ho hit' hT hsz hk => ?_
    subst ex
    refine ⟨_, rfl, wpAny_letOwnedTupleGo_enum (s := { s with heap := h', toks := tk + 1 }) ho fun h2 he2 sb => ?_⟩
    have hT2 : h2.get? s.heap.objs.size = some { cls := .type "tuple", data := .seq #[.int i tk, .str ⟨#[c]⟩ u] } := (sb.2 _ (Nat.ne_of_gt hel)).trans hT
    have new : ObjOk X.prog X.w (upd H s.heap.objs.size (.tup [.int (i : Nat), .str ⟨#[c]⟩])) h2 s.heap.objs.size (.tup [.int (i : Nat), .str ⟨#[c]⟩]) :=
      ⟨by show 2 ≤ sizeLine; decide, [.int i tk, .str ⟨#[c]⟩ u], .cons ⟨_, rfl⟩ (.cons ⟨_, rfl⟩ .nil), ⟨_, hT2, rfl, _, rfl⟩⟩
    have I1 : Inv X pins σ (upd H s.heap.objs.size (.tup [.int (i : Nat), .str ⟨#[c]⟩])) { s with heap := h2, toks := tk + 1 } :=
      I.turnedNew (ch := [e, it]) (fun b ob hb q => (sb.2 b (fun z => hb (by simp [z]))).trans (hk b ob (fun z => hb (by simp [z])) (fun z => hb (by simp [z])) q)) hf (Nat.le_refl _) new
    refine ⟨.ref s.heap.objs.size, _, I1, rfl, ⟨_, c, rfl, I.hok.fresh (Nat.le_refl _), rfl, hx⟩, ⟨⟨.str ⟨#[c]⟩ u, ?_⟩, ?_, hne⟩, fun b hb => ?_⟩
    · have e1 : ((i + 1 : Nat) : Int) = (i : Int) + 1 := by omega
      rw [e1]; exact he2
    · obtain ⟨o, g1, g2⟩ := hit'
      exact ⟨o, (sb.2 it (Ne.symm hne)).trans g1, g2⟩
    · have hlt : b < s.heap.objs.size := by
        rcases List.mem_cons.mp hb with q | q
        · rw [q]; exact hel
        · have q2 : b = it := by simpa using q
          rw [q2]; exact hil
      rw [upd_ne (Nat.ne_of_lt hlt)]
      exact (hf b hb).1
  done := by
    intro X hP hw hK hc i pins s σ H E I hf st hg
    subst hP hw hK
    obtain ⟨⟨old, he⟩, hit, hne⟩ := st
    have hh : X.A.in1.handled = none := I.ok.hd hc
    obtain ⟨f0, f1, f2, f3, f4, f5⟩ := hf it (by simp)
    have hi : i = z.cps.size := hg
    subst hi
    exact wpAny_pyNext_enum_endD (Draws.text hh it z t) he hit fun h' eb => ⟨rfl, I.turned (t' := s.toks) (fun b o hb q => eb b o hb q) f0 f1 f3 f4 f5⟩
  self := fun A i s Q E st h => let ⟨⟨_, he⟩, _⟩ := st; wpAny_pyIter_enum he h
/-- enumerate of a list or a text, by its value -/
def iEnumA (K : PySem.W.Frag) (ta : TA) : TI := fun σ H Rk => ta σ H fun vs H1 => (∃ a xs, vs = [V.ref a] ∧ SqL K H1 a xs ∧ Rk (Ite K a) H1) ∨ ∃ z, vs = [V.str z] ∧ Rk (IteS z) H1
theorem pi_enumA {X : Cx} {e : Expr} {ta : TA} {p pos tpos : Pos} {elts : List Expr} {kk : Nat} (hg : Gl X "enumerate") (hm : X.mg "enumerate" = none) (ha : PA X [e] ta) (hs : starEach [e] X.env = [(false, eval e X.env)] := by rfl) :
    PI X (.Tuple elts kk tpos) (.Call (.Name "enumerate" p) [e] [] pos) (iEnumA X.K ta) := by
  refine ⟨fun pins s σ H Rk I h => ?_⟩
  refine Call_ (ld_blt I hg hm boot_enumerate (PyProof.Rows.callWith_type1 (thn (ha.run pos pins s σ H _ I h) fun us s1 ⟨vs, H1, I1, r1, q1⟩ => ?_) hs rfl))
  have hin : ∀ b : Addr, b ∈ [s1.heap.objs.size + 1, s1.heap.objs.size] → s1.heap.objs.size ≤ b := fun b hb => by
    rcases List.mem_cons.mp hb with q | q
    · rw [q]; exact Nat.le_succ _
    · have q2 : b = s1.heap.objs.size := by simpa using q
      rw [q2]; exact Nat.le_refl _
  rcases q1 with ⟨a, xs, ex, hq, q⟩ | ⟨z, ex, q⟩
  · subst ex
    obtain ⟨u, rfl, ru⟩ := vals1 r1
    cases ru
    obtain ⟨its, rv, p', hz⟩ := I1.list hq
    refine call_enumerate_list p'.isList fun h' he hit hsz hk => wpAny_pyIter_enum he ?_
    have I2 : Inv X pins σ H1 { s1 with heap := h' } := I1.kept (t' := s1.toks) hk
    exact ⟨s1.heap.objs.size + 1, [s1.heap.objs.size + 1, s1.heap.objs.size], _, _, H1, rfl, I2, turn_enum a (s1.heap.objs.size + 1) s1.heap.objs.size, ⟨⟨.none, he⟩, hit, Nat.succ_ne_self _⟩, fun b hb => I1.fpOk (hin b hb) (I1.hok.fresh (hin b hb)), q⟩
  · subst ex
    obtain ⟨u, rfl, ru⟩ := vals1 r1
    obtain ⟨t, rfl⟩ := ru
    refine call_enumerate_str fun h' he hit hsz hk => wpAny_pyIter_enum he ?_
    have I2 : Inv X pins σ H1 { s1 with heap := h' } := I1.kept (t' := s1.toks) hk
    exact ⟨s1.heap.objs.size + 1, [s1.heap.objs.size + 1, s1.heap.objs.size], _, _, H1, rfl, I2, turn_enumS z t (s1.heap.objs.size + 1) s1.heap.objs.size, ⟨⟨.none, he⟩, hit, Nat.succ_ne_self _⟩, fun b hb => I1.fpOk (hin b hb) (I1.hok.fresh (hin b hb)), q⟩
/-- pairs of the places and the items -/
def enD (k : Nat) : List D → List R
  | [] => []
  | d :: ds => .val (.tup [.int (k : Int), d]) :: enD (k + 1) ds
theorem enD_len : ∀ (k : Nat) (ds : List D), (enD k ds).length = ds.length
  | _, [] => rfl
  | k, d :: ds => by simp [enD, enD_len (k + 1) ds]
theorem enD_at : ∀ (k : Nat) (ds : List D) (i : Nat) (d : D), ds[i]? = some d → (enD k ds)[i]? = some (.val (.tup [.int ((k + i : Nat) : Int), d]))
  | _, [], i, d, h => by simp at h
  | k, d :: ds, 0, d', h => by simp at h; subst h; simp [enD]
  | k, d :: ds, i + 1, d', h => by
    have := enD_at (k + 1) ds i d' (by simpa using h)
    simp only [enD, List.getElem?_cons_succ]
    rw [this]
    have e : k + 1 + i = k + (i + 1) := by omega
    rw [e]
def enR (fz : Bool) : R → Option (List R)
  | .val (.lst xs) => some (enD 0 xs)
  | .val (.str s) => some (enD 0 (signsD s))
  | .brw (.lst xs) => if xs.all flat then some (enD 0 xs) else none
  | .bor xs => if fz then none else some (enD 0 xs)
  | _ => none
def fEnum (fz : Bool) (fr : Env → O (List R)) : Env → O (List R) := fun es => (fr es).bind fun rs => match rs with
  | [r] => O.of (enR fz r)
  | _ => .no
section
variable {X : Cx} {T : List Addr} {W : WX} {fz : Bool}
/-- a pair is laid -/
theorem pair_step {K : PySem.W.Frag} {H0 F2 H2 : Hp} {p : Addr} {i : Nat} {v : V} {d : D} (ok : Ok T F2 H2) (hp : H2 p = none) (h : Rp K F2 d v) : Le T F2 H2 (upd F2 p (.tup [.int (i : Int), v])) (upd H2 p (.tup [.int (i : Int), v])) ∧
    Rq K T H0 (upd F2 p (.tup [.int (i : Int), v])) (upd H2 p (.tup [.int (i : Int), v])) (.ref p) (.val (.tup [.int (i : Int), d])) :=
  ⟨Le.new ok hp, rp_tup (ok.nf hp) (RpL.cons (by rw [Rp]) (RpL.cons h RpL.nil))⟩
theorem src_enum {K : PySem.W.Frag} {F0 H0 F' H' : Hp} {a : Addr} {xs : List D} {vs : List V} (hs : ∀ F2 H2, Sta T fz F0 H0 F' H' F2 H2 → SqL K H2 a vs) (r : ∀ F2 H2, Sta T fz F0 H0 F' H' F2 H2 → RpL K F2 xs vs) (hl : xs.length = vs.length) :
    Src K T H0 (Sta T fz F0 H0 F' H') (enD 0 xs) (Ite K a) := by
  refine ⟨fun H => SqL K H a vs, YPair (fun i => some (.int (i : Nat))) (fun i => vs[i]?), by rw [enD_len, hl]; exact walk_enum, fun F2 H2 s => hs F2 H2 s, fun i H2 x H3 F2 hi s ⟨p, u, w, e1, e2, e3, e4, e5⟩ => ?_⟩
  subst e1 e3
  cases e4
  obtain ⟨d, h1, h2⟩ := (r F2 H2 s).getV e5
  obtain ⟨l, q⟩ := pair_step (H0 := H0) (i := i) s.2.ok e2 h2
  exact ⟨_, _, by rw [enD_at 0 xs i d h1, Nat.zero_add], l, q⟩
theorem src_enumS {K : PySem.W.Frag} {F0 H0 F' H' : Hp} {s : List Nat} : Src K T H0 (Sta T fz F0 H0 F' H') (enD 0 (signsD s)) (IteS (tx s)) := by
  refine ⟨fun _ => True, fun i H v H' => ∃ p c, v = V.ref p ∧ H p = none ∧ H' = upd H p (.tup [.int (i : Nat), .str ⟨#[c]⟩]) ∧ (tx s).cps[i]? = some c, by
    have e : (enD 0 (signsD s)).length = (tx s).cps.size := by rw [enD_len]; simp [signsD, tx]
    rw [e]; exact walk_enumS, fun _ _ _ => trivial, fun i H2 x H3 F2 hi st ⟨p, c, e1, e2, e3, e4⟩ => ?_⟩
  subst e1 e3
  have hc : s[i]? = some c := by simpa [tx] using e4
  have h1 : (signsD s)[i]? = some (.str [c]) := by simp [signsD, hc]
  obtain ⟨l, q⟩ := pair_step (K := K) (H0 := H0) (i := i) (v := .str ⟨#[c]⟩) (d := .str [c]) st.2.ok e2 (by rw [Rp]; rfl)
  exact ⟨_, _, by rw [enD_at 0 _ i _ h1, Nat.zero_add], l, q⟩
theorem di_enum {e : Expr} {fr : Env → O (List R)} {p pos tpos : Pos} {elts : List Expr} {kk : Nat} (hm : X.mg "enumerate" = none) (ha : DA X T W [e] fr) (hg : Gl X "enumerate" := by rfl) (hs : starEach [e] X.env = [(false, eval e X.env)] := by rfl) :
    DI fz X T W (.Tuple elts kk tpos) (.Call (.Name "enumerate" p) [e] [] pos) (fEnum fz fr) :=
  pi_weak (pi_enumA hg hm ha hs) fun σ H Rk ⟨F0, H0, F, es, st, h⟩ => ⟨F0, H0, F, es, st, pa_seqI st h (fun _ _ _ _ z => z) fun rs vs F1 H1 _ st1 l1 q1 h1 => by
    split at h1
    · rename_i r _
      obtain ⟨v, rfl, q2⟩ := rql1 q1
      cases hr : enR fz r with
      | none => rw [hr] at h1; exact h1.elim
      | some xs =>
        rw [hr] at h1
        have fin : ∀ J, Src X.K T H0 (Sta T fz F0 H0 F1 H1) xs J → Rk J H1 := fun J s => h1 J F1 H1 (Le.refl st1.ok) s
        unfold enR at hr
        split at hr
        · cases hr
          rw [Rq, Rp] at q2
          obtain ⟨a, vs, rfl, h2, h3⟩ := q2
          exact .inl ⟨a, vs, rfl, st1.ok.sub.l h2, fin _ (src_enum (fun F2 H2 s => s.2.ok.sub.l (s.f.l h2)) (fun F2 H2 s => h3.mono s.f) h3.len)⟩
        · cases hr
          exact .inr ⟨_, by rw [rq_str q2], fin _ src_enumS⟩
        · split at hr
          · rename_i hf
            cases hr
            rw [Rq, Rp] at q2
            obtain ⟨a, vs, rfl, h2, h3⟩ := q2
            exact .inl ⟨a, vs, rfl, st1.up.l h2, fin _ (src_enum (fun F2 H2 s => s.2.l st1.ok0.tab h2) (fun F2 H2 s => h3.flat hf) h3.len)⟩
          · cases hr
        · split at hr
          · cases hr
          · rename_i hf
            cases hr
            have e : fz = false := by simpa using hf
            subst e
            obtain ⟨p, vs, rfl, h2, h3, h4, h5⟩ := q2
            refine .inl ⟨p, vs, rfl, .inl (.inl h4), fin _ (src_enum (fun F2 H2 s => ?_) (fun F2 H2 s => h5.mono s.f) h5.len)⟩
            have l : Le T F1 H1 F2 H2 := s.1
            exact .inl (.inl (l.h p _ h3 h4))
        · cases hr
    · exact h1.elim⟩
end
end Fw
namespace Fw
open PySem PySem.Spec PyProof.Rows L2
/-! ### all(test for x in text), the test with names of the module -/
/-- a test of the one sign that x holds; the module's names may be read -/
def EltG (X : Cx) (scope : Scope) (x : Str) (elt : Expr) (pb : Nat → Bool) : Prop :=
  ∀ (ce : PySem.Env) (B : Around) (E' : Value → Shared → Prop) (c : Nat) (t : Tok) (s2 : Shared) (m : Str → Option Value), B.handled = none → ce.scope = scope → ce.globals = mainGlobals →
    (∀ b o, X.base.get? b = some o → s2.heap.get? b = some o) → s2.heap.Ns ce.locals m → m x = some (.str ⟨#[c]⟩ t) →
    wpAny (model X.prog X.w) B (eval elt ce) (fun y s3 => y = .bool (pb c) ∧ Keeps s2 s3) E' s2
section
variable {X : Cx} {pins : List (Addr × Obj)} {σ : L2.St} {H : Hp} {s : Shared}
theorem gen_textG {c P : Addr} {elt iter : Expr} {x : Str} {px gp : Pos} {scope : Scope} {pb : Nat → Bool} {te : TE} {k : Nat} {Qg : Value → Shared → Prop} {Rw : Str → Hp → Prop} (room : Room k X.A)
    (tb : GxR.TabB X.base X.mg c P) (code : X.env.code = .ref c) (sc : GxR.GenS X.env scope x) (pi : PE X iter te) (pel : EltG X scope x elt pb) (fold : ∀ v, genFold iter X.env v = pure v) (I : Inv X pins σ H s)
    (h : te σ H fun v H1 => ∃ a : Str, v = .str a ∧ GxR.TabG H1 P ∧ Rw a H1) (hQ : ∀ a H1 g s5, Rw a H1 → GxR.Ready X pins σ H1 P a pb g s5 → Qg (.ref g) s5) :
    wpAny (model X.prog X.w) X.A (eval (.GeneratorExp elt [⟨.Name x px, iter, [], 0⟩] scope gp) X.env) Qg X.xe s := by
  refine wpAny_GeneratorExp_walksQ room.hd sc.co (closure_ok sc.free) sc.cell sc.dot sc.loc sc.kind (by have z := room.dp; omega) ?_ fold
  refine thn (pi.run pins s σ H _ I h) fun u s1 ⟨v, H1, I1, r1, q1⟩ => ?_
  obtain ⟨a, rfl, ⟨ps, tabP, trip⟩, q1⟩ := q1
  obtain ⟨t, rfl⟩ := _root_.id r1
  refine wpAny_pyIter_str fun o St W start0 => ?_
  have atP : s1.heap.get? P = some { cls := .none, data := .fields ps } := I1.hok P _ tabP
  have ltP : P < s1.heap.objs.size := Heap.lt_size atP
  have atP2 : (s1.heap.push o).get? P = some { cls := .none, data := .fields ps } := Heap.get?_push_of_some _ atP
  have hd : PySem.W.CodeHd (s1.heap.push o) c P := tb.code.keeps fun b u e => Heap.get?_push_of_some _ (I1.bk b u e)
  have lim : (s1.heap.push o).NoLimit := I1.nolimit.push o
  have goOn : ∀ (cv : Value) (h3 : Heap) (tk : Nat) (qs : Array Value), Heap.ExtBut P (s1.heap.push o) h3 → (s1.heap.push o).objs.size ≤ h3.objs.size → h3.get? P = some { cls := .none, data := .fields qs } →
      (∃ more, qs = ps ++ more) → TriplesOk qs.toList → wpAny (model X.prog X.w) X.A (builtinsFor X.env.globals X.env.builtins) (fun bi s4 =>
        ∃ Ia fp wr n0 Pf St0 pz Fy, Value.ref s1.heap.objs.size = .ref Ia ∧ (∀ B : Around, B.handled = none → Walks X.prog X.w B Ia fp wr n0 Pf St0) ∧ St0 0 s4.heap ∧ (∀ b ∈ fp, b < s4.heap.objs.size) ∧
          s4.heap.NoLimit ∧ cStatics ∉ wr ∧ (∀ hr : Heap, (∀ b o, s4.heap.get? b = some o → hr.get? b = some o) →
            QuietGen X.prog X.w (genEnv scope (cloFrom X.env.cells scope.names []) s4.heap.objs.size cv bi X.env) x [] elt (List.range s4.heap.objs.size) wr Pf pz Fy hr) ∧
          (∀ a h5 tk gs, gs.bare = true → s4.heap.objs.size < a → h5.objs.size = a + 1 → (∀ b o, s4.heap.get? b = some o → h5.get? b = some o) →
            WalksS X.prog X.w X.A.in4 a (a :: s4.heap.objs.size :: List.range s4.heap.objs.size) (s4.heap.objs.size :: wr) (GenOnlyQ s4.gens.size) (passing pz n0 0).length
              (fun j y => ∃ i, (passing pz n0 0)[j]? = some i ∧ Fy i y) (GenAt X.prog X.w X.A.in4 a s4.gens.size s4.heap.objs.size (List.range s4.heap.objs.size) wr pz n0 Fy) →
            GenAt X.prog X.w X.A.in4 a s4.gens.size s4.heap.objs.size (List.range s4.heap.objs.size) wr pz n0 Fy 0 { s4 with gens := s4.gens.push gs, toks := tk, heap := h5 } →
            Qg (.ref a) { s4 with gens := s4.gens.push gs, toks := tk, heap := h5 })) X.xe { s1 with heap := h3, toks := tk } := by
    intro cv h3 tk qs ext szs atP3 grown trip3
    obtain ⟨bm, ob, e1, e2, e3, e4, e5, e6, e7, e8⟩ := tb.bm
    have apart : cStatics ≠ P := fun e => by
      obtain ⟨_, ns, _⟩ := I1.nolimit
      obtain ⟨o', es, ep, ho, hd', _⟩ := ns
      rw [e, atP] at ho
      cases ho
      cases hd'
    have statLt : cStatics < s1.heap.objs.size := let ⟨_, ns, _⟩ := I1.nolimit; ns.lt
    have szPush : (s1.heap.push o).objs.size = s1.heap.objs.size + 1 := Heap.size_push ..
    have kept3 : ∀ b u, b ≠ P → s1.heap.get? b = some u → h3.get? b = some u := fun b u n e => ext b u n (Heap.get?_push_of_some _ e)
    refine wpAny_builtinsFor (m := X.mg) (by rw [I1.ok.glob]; exact ((I1.mod.glob.keeps I1.bk).push o).extBut ext tb.gP) e1 e2 (kept3 _ _ e4 (I1.bk _ _ e5)) e6 e7 e8 ?_
    have notP : ∀ b u, X.base.get? b = some u → b ≠ P := fun b u e z => by
      have n := (I1.bs b u e).2
      rw [z, tabP] at n
      cases n
    refine ⟨s1.heap.objs.size, [s1.heap.objs.size], [s1.heap.objs.size], a.cps.size, SignAt a, St, (fun _ => true), (fun i y => ∃ cc, a.cps[i]? = some cc ∧ y = .bool (pb cc)), rfl, W, ?_, ?_, lim.extBut ext apart, ?_, ?_, ?_⟩
    · refine (W X.A room.hd).frame _ _ _ start0 fun b hb u e => ext b u (fun z => ?_) e
      rcases List.mem_cons.mp hb with q | q
      · exact Nat.ne_of_lt ltP (z.symm.trans q)
      · cases q
    · intro b hb
      rcases List.mem_cons.mp hb with q | q
      · subst q
        show s1.heap.objs.size < h3.objs.size
        omega
      · cases q
    · intro hm
      rcases List.mem_cons.mp hm with q | q
      · exact Nat.ne_of_lt statLt q
      · cases q
    · intro hr hrk
      refine ⟨fun B E' i v s2 m2 hB hv hn hm hk => ?_, fun B E' i v s2 m2 hB hv hp hn hm hk => ?_⟩
      · simp only [List.forIn_nil]
        exact wpAny_pure ⟨rfl, GxR.keeps_refl _⟩
      · obtain ⟨cc, u, hcc, rfl⟩ := hv
        refine wpAny_mono (pel _ B E' cc u s2 m2 hB rfl I1.ok.glob (fun b ob e => ?_) hn hm) (fun y s3 r => ⟨⟨cc, hcc, r.1⟩, r.2⟩) fun _ _ e => e
        have g1 := I1.bk b ob e
        have g3 : h3.get? b = some ob := kept3 b ob (notP b ob e) g1
        refine hk b (List.mem_range.mpr (Heap.lt_size g3)) (fun z => ?_) ob (hrk b ob g3)
        have z2 : b = s1.heap.objs.size := by simpa using z
        have lt := Heap.lt_size g1
        rw [z2] at lt
        exact Nat.lt_irrefl _ lt
    · intro g h5 tk5 gs bare5 ab5 sz5 kept5 W5 at0
      simp only [GxR.passing_true, List.length_range] at W5
      refine hQ a H1 g _ q1 ⟨_, _, _, _, _, W5.in4_1, at0, ?_, fun s6 mv => ?_⟩
      · intro j y sj Qj Ej hy hQj
        obtain ⟨i, hij, cc, hcc, rfl⟩ := hy
        obtain ⟨hj, ej⟩ := List.getElem?_eq_some_iff.mp hij
        rw [List.getElem_range] at ej
        subst ej
        have hl : a.cps.toList[j]? = some cc := by rw [Array.getElem?_toList]; exact hcc
        have hQ2 : Qj (GxR.trF pb a.cps.toList j) sj := hQj
        rw [GxR.trF_some hl] at hQ2
        exact wpAny_truthy_bool hQ2
      · obtain ⟨more, em⟩ := grown
        have off : ∀ b u, s1.heap.get? b = some u → b ∉ h3.objs.size :: [s1.heap.objs.size] := fun b u e hb => by
          have lt := Heap.lt_size e
          rcases List.mem_cons.mp hb with q | q
          · rw [q] at lt
            have lt2 : (h3.objs.size : Nat) < s1.heap.objs.size := lt
            omega
          · have q2 : b = s1.heap.objs.size := by simpa using q
            rw [q2] at lt
            exact Nat.lt_irrefl _ lt
        have J := GxR.inv_tab (more := more) (h' := s6.heap) (g' := s6.gens) (d' := s6.drawn) (t' := s6.toks) I1 tabP (fun b u n e => mv.heap b u (off b u e) (kept5 b u (kept3 b u n e)))
          (by rw [← em]; exact mv.heap P _ (off P _ atP) (kept5 P _ atP3)) (AllBare.movedS (I1.bare.push bare5) mv)
        rw [GxR.sh_eta s1 s6 mv.os] at J
        exact ⟨upd H1 P (.tbl (ps ++ more)), ⟨⟨ps ++ more, upd_same, by rw [← em]; exact trip3⟩, fun b n => upd_ne n⟩, J⟩
  refine ⟨lim, ?_⟩
  cases hf : codeAmong gp ps.toList with
  | some cv =>
    refine wpAny_genexprCode_hit code (hd.code atP2 trip) hf ?_
    exact goOn cv (s1.heap.push o) s1.toks ps (Heap.ExtBut.refl _ _) (Nat.le_refl _) atP2 ⟨#[], by simp⟩ trip
  | none =>
    refine wpAny_genexprCodeX code (hd.code atP2 trip) (hd.tab atP2) hf fun c' h' tk ext hge hlt co _ tab _ => ?_
    obtain ⟨o1, vs, f1, tf, fl, tg, inF, tx, tt, op, _, _, _, _, _, _, _, _, _, htr, _⟩ := co
    exact goOn _ h' tk _ ext (Nat.le_trans hge (Nat.le_of_lt hlt)) tab.2 ⟨_, rfl⟩ htr
theorem pe_allG {c P : Addr} {elt iter : Expr} {x : Str} {px p pos gp : Pos} {scope : Scope} {pb : Nat → Bool} {te : TE} {k : Nat} (room : Room k X.A) (hg : Gl X "all") (hm : X.mg "all" = none) (tb : GxR.TabB X.base X.mg c P)
    (code : X.env.code = .ref c) (sc : GxR.GenS X.env scope x) (pi : PE X iter te) (pel : EltG X scope x elt pb) (fold : ∀ v, genFold iter X.env v = pure v)
    (he : starEach [.GeneratorExp elt [⟨.Name x px, iter, [], 0⟩] scope gp] X.env = (false, eval (.GeneratorExp elt [⟨.Name x px, iter, [], 0⟩] scope gp) X.env) :: starEach [] X.env := by rfl) :
    PE X (.Call (.Name "all" p) [.GeneratorExp elt [⟨.Name x px, iter, [], 0⟩] scope gp] [] pos) (GxR.tAllS P pb te) := by
  refine ⟨fun pins s σ H Q I h => wpAny_Call_Name_kw (ld_blt I hg hm boot_all (PyProof.Rows.callWith_builtin1 ?_ he (by rfl)))⟩
  rw [he]
  refine Calls.spliced_cons (gen_textG (Rw := fun a H1 => ∀ H2, GxR.Tabbed P H1 H2 → Q (.bl (a.cps.toList.all pb)) H2) room tb code sc pi pel fold I h fun a H1 g s5 hR hG => ?_)
  obtain ⟨fp, wr, G, Fy, St, W, hst, htr, hI⟩ := hG
  refine Calls.spliced_nil (call_all_walkS (W.self 0 _ _ _ hst ⟨g, fp, wr, G, _, Fy, St, _, rfl, W, hst, htr, fun s6 mv => ?_⟩))
  obtain ⟨H2, hT, J⟩ := hI s6 mv
  exact ⟨.bl _, H2, J, rfl, by rw [GxR.all_signs a pb]; exact hR H2 hT⟩
/-- all(.. for x in text) on data -/
def fAllG (pb : Nat → Bool) (f : Env → O R) : Env → O R := fun es => (f es).bind fun r => match r with
  | .val (.str s) => .ok (.val (.bl (s.all pb)))
  | _ => .no
theorem de_allG {T : List Addr} {W : WX} {f : Env → O R} {c P : Addr} {elt iter : Expr} {x : Str} {px p pos gp : Pos} {scope : Scope} {pb : Nat → Bool} {k : Nat} (room : Room k X.A) (hm : X.mg "all" = none) (tb : GxR.TabB X.base X.mg c P) (hP : P ∈ T)
    (code : X.env.code = .ref c) (sc : GxR.GenS X.env scope x) (pi : DE X T W iter f) (pel : EltG X scope x elt pb) (fold : ∀ v, genFold iter X.env v = pure v := by intro _; rfl) (hg : Gl X "all" := by rfl)
    (he : starEach [.GeneratorExp elt [⟨.Name x px, iter, [], 0⟩] scope gp] X.env = (false, eval (.GeneratorExp elt [⟨.Name x px, iter, [], 0⟩] scope gp) X.env) :: starEach [] X.env := by rfl) :
    DE X T W (.Call (.Name "all" p) [.GeneratorExp elt [⟨.Name x px, iter, [], 0⟩] scope gp] [] pos) (fAllG pb f) :=
  pe_weak (pe_allG room hg hm tb code sc pi pel fold he) fun σ H Q ⟨F0, H0, F, es, st, h⟩ => ⟨F0, H0, F, es, st, pr_seq st h fun r v F1 H1 _ st1 l1 q1 h1 => by
    split at h1
    · rename_i z _
      have q2 : Rq X.K T H0 F1 H1 v (.val (.str z)) := q1
      refine ⟨tx z, rq_str q2, st1.ok.tab P hP, fun H2 ⟨tg, kp⟩ => ?_⟩
      rw [tx_list]
      have nF : F1 P = none := st1.ok.ntab P hP
      refine h1 _ F1 H2 ⟨Sub.refl _, fun b o n e => ?_, fun b e _ => e, ⟨fun b o e => ?_, fun b m => ?_, st1.ok.ntab⟩⟩ (by rw [Rr, Rp])
      · rw [kp b (fun z => n (z ▸ hP))]; exact e
      · have n : b ≠ P := fun z => by rw [z, nF] at e; cases e
        rw [kp b n]; exact st1.ok.sub b o e
      · by_cases e : b = P
        · rw [e]; exact tg
        · obtain ⟨qs, e1, e2⟩ := st1.ok.tab b m
          exact ⟨qs, by rw [kp b e]; exact e1, e2⟩
    · exact h1.elim⟩
end
end Fw
namespace Fw
open PySem PySem.Spec PyProof.Rows L2
section
variable {X : Cx}
/-- a name of the module holds a text of one sign -/
def One (X : Cx) (n : Str) (c : Nat) : Prop := ∃ t, X.mg n = some (.str ⟨#[c]⟩ t)
theorem ld_mod {ce : PySem.Env} {B : Around} {E : Value → Shared → Prop} {s2 : Shared} {n : Str} {u : Value} {p : Pos} {Q : Value → Shared → Prop} (md : X.base.Ns mainGlobals X.mg) (hk : ce.scope.kind = .function) (hg : ce.kindOf n = some .globalImplicit) (g : ce.globals = mainGlobals)
    (hb : ∀ b o, X.base.get? b = some o → s2.heap.get? b = some o) (hm : X.mg n = some u) (h : Q u s2) (hd : (n == ("__debug__" : Str)) = false := by decide) : wpAny (model X.prog X.w) B (eval (.Name n p) ce) Q E s2 :=
  Calls.Name_function_global hk hg (Calls.loadGlobal_global (by rw [g]; exact md.keeps hb) hm h) hd
/-- x in (A, B, C), names of the module -/
theorem elt_in3 {scope : Scope} {x a b d : Str} {ca cb cd : Nat} {k : Nat} {p1 p2 p3 p4 p5 p6 : Pos} (md : X.base.Ns mainGlobals X.mg) (hA : One X a ca) (hB : One X b cb) (hC : One X d cd) (hk : scope.kind = .function := by rfl) (hl : scope.names.lookup x = some .local := by rfl)
    (ga : scope.names.lookup a = some .globalImplicit := by rfl) (gb : scope.names.lookup b = some .globalImplicit := by rfl) (gd : scope.names.lookup d = some .globalImplicit := by rfl) (hd : (x == ("__debug__" : Str)) = false := by decide)
    (da : (a == ("__debug__" : Str)) = false := by decide) (db : (b == ("__debug__" : Str)) = false := by decide) (dd : (d == ("__debug__" : Str)) = false := by decide) :
    EltG X scope x (.Compare (.Name x p1) [.In] [.Tuple [.Name a p2, .Name b p3, .Name d p4] k p5] p6) (fun c => decide (c = ca) || (decide (c = cb) || decide (c = cd))) := by
  intro ce B E' c t s2 m hB0 hs hg hb hn hm
  obtain ⟨ta, hA⟩ := hA
  obtain ⟨tb, hB⟩ := hB
  obtain ⟨td, hC⟩ := hC
  have kd : ce.scope.kind = .function := by rw [hs]; exact hk
  refine wpAny_Compare1 ?_
  refine wpAny_Name (wpAny_loadName_local kd (show ce.scope.names.lookup x = some .local by rw [hs]; exact hl) hn hm ?_) hd
  refine wpAny_Tuple_spliced ?_
  refine Calls.spliced_cons (ld_mod md kd (show ce.scope.names.lookup a = some .globalImplicit by rw [hs]; exact ga) hg hb hA ?_ da)
  refine Calls.spliced_cons (ld_mod md kd (show ce.scope.names.lookup b = some .globalImplicit by rw [hs]; exact gb) hg hb hB ?_ db)
  refine Calls.spliced_cons (ld_mod md kd (show ce.scope.names.lookup d = some .globalImplicit by rw [hs]; exact gd) hg hb hC ?_ dd)
  refine Calls.spliced_nil ⟨by show 3 ≤ sizeLine; decide, ?_⟩
  have one : ∀ (q : Nat) (tq : Tok), RelV (.str ⟨#[q]⟩) (Value.str ⟨#[q]⟩ tq) := fun q tq => ⟨tq, rfl⟩
  have hv : Vals [V.str ⟨#[ca]⟩, V.str ⟨#[cb]⟩, V.str ⟨#[cd]⟩] [Value.str ⟨#[ca]⟩ ta, Value.str ⟨#[cb]⟩ tb, Value.str ⟨#[cd]⟩ td] := .cons (one _ _) (.cons (one _ _) (.cons (one _ _) .nil))
  refine SeqAt.in_tupleAt (eqU (V.str ⟨#[c]⟩)) (items := [Value.str ⟨#[ca]⟩ ta, Value.str ⟨#[cb]⟩ tb, Value.str ⟨#[cd]⟩ td].toArray) ⟨_, Heap.get?_push_size _ rfl, rfl, _, rfl⟩
    (fun w hw => mem_eqAt (one c t) rfl hv rfl w (by simpa using hw)) ⟨?_, _, _, rfl, fun b o e => Heap.get?_push_of_some _ e⟩
  have e1 : ∀ q : Nat, (({ cps := #[q] } : Str) == { cps := #[c] }) = decide (c = q) := fun q => by
    by_cases e : c = q
    · subst e; simp
    · have : ({ cps := #[q] } : Str) ≠ { cps := #[c] } := fun z => e (by
        have := congrArg (fun s : Str => s.cps.toList) z
        simpa using this.symm)
      rw [beq_eq_false_iff_ne.mpr this, decide_eq_false e]
  simp [eqU, eqV, e1]
end
/-! ### sorting -/
section
variable {α : Type} (le : α → α → Bool)
def insB (x : α) : List α → List α
  | [] => [x]
  | y :: ys => if le x y then x :: y :: ys else y :: insB x ys
def sortB : List α → List α
  | [] => []
  | x :: xs => insB le x (sortB xs)
theorem insB_perm (x : α) : ∀ ys : List α, (insB le x ys).Perm (x :: ys)
  | [] => List.Perm.refl _
  | y :: ys => by
    unfold insB
    split
    · exact List.Perm.refl _
    · exact ((insB_perm x ys).cons y).trans (List.Perm.swap x y ys)
theorem sortB_perm : ∀ xs : List α, (sortB le xs).Perm xs
  | [] => List.Perm.refl _
  | x :: xs => (insB_perm le x _).trans ((sortB_perm xs).cons x)
variable {le}
theorem insB_pw (tot : ∀ a b, le a b = true ∨ le b a = true) (tr : ∀ a b c, le a b = true → le b c = true → le a c = true) (x : α) : ∀ ys : List α, ys.Pairwise (fun a b => le a b = true) → (insB le x ys).Pairwise (fun a b => le a b = true)
  | [], _ => List.pairwise_singleton _ _
  | y :: ys, h => by
    unfold insB
    rw [List.pairwise_cons] at h
    split
    · rename_i e
      rw [List.pairwise_cons, List.pairwise_cons]
      refine ⟨fun z hz => ?_, h⟩
      rcases List.mem_cons.mp hz with q | q
      · subst q; exact e
      · exact tr _ _ _ e (h.1 z q)
    · rename_i e
      have e2 : le y x = true := (tot x y).resolve_left e
      rw [List.pairwise_cons]
      refine ⟨fun z hz => ?_, insB_pw tot tr x ys h.2⟩
      rcases List.mem_cons.mp ((insB_perm le x ys).mem_iff.mp hz) with q | q
      · subst q; exact e2
      · exact h.1 z q
theorem sortB_pw (tot : ∀ a b, le a b = true ∨ le b a = true) (tr : ∀ a b c, le a b = true → le b c = true → le a c = true) : ∀ xs : List α, (sortB le xs).Pairwise (fun a b => le a b = true)
  | [] => List.Pairwise.nil
  | x :: xs => insB_pw tot tr x _ (sortB_pw tot tr xs)
/-- one sorted list alone -/
theorem sortB_uniq (tot : ∀ a b, le a b = true ∨ le b a = true) (tr : ∀ a b c, le a b = true → le b c = true → le a c = true) (an : ∀ a b, le a b = true → le b a = true → a = b) {xs ys : List α} (hp : ys.Perm xs) (hs : ys.Pairwise (fun a b => le a b = true)) : ys = sortB le xs :=
  (hp.trans (sortB_perm le xs).symm).eq_of_pairwise (fun a b _ _ h1 h2 => an a b h1 h2) hs (sortB_pw tot tr xs)
end
def leI (a b : Int) : Bool := decide (a ≤ b)
def sortI : List Int → List Int := sortB leI
theorem sortI_uniq {xs ys : List Int} (hp : ys.Perm xs) (hs : ys.Pairwise (· ≤ ·)) : ys = sortI xs :=
  sortB_uniq (fun a b => by simp only [leI, decide_eq_true_eq]; omega) (fun a b c h1 h2 => by simp only [leI, decide_eq_true_eq] at *; omega) (fun a b h1 h2 => by simp only [leI, decide_eq_true_eq] at *; omega) hp (hs.imp fun h => decide_eq_true h)
/-- texts by their signs -/
def leS (a b : List Nat) : Bool := !ltCps b a
def sortS : List (List Nat) → List (List Nat) := sortB leS
theorem lt_irr : ∀ a : List Nat, ltCps a a = false
  | [] => rfl
  | x :: a => by simp [ltCps, lt_irr a]
theorem lt_asym : ∀ a b : List Nat, ltCps a b = true → ltCps b a = false
  | [], [], h => by simp [ltCps] at h
  | [], _ :: _, _ => rfl
  | _ :: _, [], h => by simp [ltCps] at h
  | x :: a, y :: b, h => by
    simp only [ltCps, Bool.or_eq_true, Bool.and_eq_true, decide_eq_true_eq, beq_iff_eq] at h
    simp only [ltCps, Bool.or_eq_false_iff, Bool.and_eq_false_iff, decide_eq_false_iff_not]
    rcases h with h | ⟨h1, h2⟩
    · exact ⟨by omega, .inl (by rw [beq_eq_false_iff_ne]; omega)⟩
    · subst h1
      exact ⟨by omega, .inr (lt_asym a b h2)⟩
theorem lt_tri : ∀ a b : List Nat, ltCps a b = false → ltCps b a = false → a = b
  | [], [], _, _ => rfl
  | [], _ :: _, h, _ => by simp [ltCps] at h
  | _ :: _, [], _, h => by simp [ltCps] at h
  | x :: a, y :: b, h1, h2 => by
    simp only [ltCps, Bool.or_eq_false_iff, Bool.and_eq_false_iff, decide_eq_false_iff_not] at h1 h2
    have e : x = y := by omega
    subst e
    have h3 : ltCps a b = false := by rcases h1.2 with q | q; · simp at q
                                      · exact q
    have h4 : ltCps b a = false := by rcases h2.2 with q | q; · simp at q
                                      · exact q
    rw [lt_tri a b h3 h4]
theorem lt_tr : ∀ a b c : List Nat, ltCps a b = true → ltCps b c = true → ltCps a c = true
  | [], [], _, h, _ => by simp [ltCps] at h
  | [], _ :: _, [], _, h => by simp [ltCps] at h
  | [], _ :: _, _ :: _, _, _ => rfl
  | _ :: _, [], _, h, _ => by simp [ltCps] at h
  | _ :: _, _ :: _, [], _, h => by simp [ltCps] at h
  | x :: a, y :: b, z :: c, h1, h2 => by
    simp only [ltCps, Bool.or_eq_true, Bool.and_eq_true, decide_eq_true_eq, beq_iff_eq] at h1 h2 ⊢
    rcases h1 with h1 | ⟨h1, h3⟩
    · rcases h2 with h2 | ⟨h2, h4⟩
      · exact .inl (by omega)
      · exact .inl (by omega)
    · rcases h2 with h2 | ⟨h2, h4⟩
      · exact .inl (by omega)
      · exact .inr ⟨h1.trans h2, lt_tr a b c h3 h4⟩
theorem leS_tot (a b : List Nat) : leS a b = true ∨ leS b a = true := by
  unfold leS
  cases h : ltCps b a with
  | false => exact .inl rfl
  | true => exact .inr (by rw [lt_asym b a h]; rfl)
theorem leS_an (a b : List Nat) (h1 : leS a b = true) (h2 : leS b a = true) : a = b := by
  unfold leS at h1 h2
  exact lt_tri a b (by simpa using h2) (by simpa using h1)
theorem leS_tr (a b c : List Nat) (h1 : leS a b = true) (h2 : leS b c = true) : leS a c = true := by
  unfold leS at *
  simp only [Bool.not_eq_true'] at *
  cases h : ltCps c a with
  | false => rfl
  | true =>
    by_cases e : ltCps a b = true
    · rw [lt_tr c a b h e] at h2
      cases h2
    · have := lt_tri a b (by simpa using e) h1
      subst this
      rw [h] at h2; cases h2
theorem rising_pw : ∀ (p : Str) (r : List Str), risingS p r = true → (p :: r).Pairwise (fun a b => leS a.cps.toList b.cps.toList = true)
  | p, [], _ => List.pairwise_singleton _ _
  | p, x :: r, h => by
    simp only [risingS, Bool.and_eq_true] at h
    have ih := rising_pw x r h.2
    rw [List.pairwise_cons]
    refine ⟨fun z hz => ?_, ih⟩
    have e : leS p.cps.toList x.cps.toList = true := h.1
    rcases List.mem_cons.mp hz with q | q
    · subst q; exact e
    · rw [List.pairwise_cons] at ih
      exact leS_tr _ _ _ e (ih.1 z q)
theorem sortedS_pw : ∀ xs : List Str, sortedS xs = true → xs.Pairwise (fun a b => leS a.cps.toList b.cps.toList = true)
  | [], _ => List.Pairwise.nil
  | p :: r, h => rising_pw p r h
theorem sortS_uniq {xs : List (List Nat)} {ys : List Str} (hp : ys.Perm (xs.map tx)) (hs : sortedS ys = true) : ys = (sortS xs).map tx := by
  have h1 : (ys.map fun z => z.cps.toList).Perm xs := by
    have := hp.map fun z : Str => z.cps.toList
    rw [List.map_map] at this
    have e : ((fun z : Str => z.cps.toList) ∘ tx) = id := funext fun s => tx_list s
    rw [e, List.map_id] at this
    exact this
  have h2 := sortedS_pw ys hs
  have h3 : (ys.map fun z => z.cps.toList).Pairwise (fun a b => leS a b = true) := List.pairwise_map.mpr h2
  have h4 : ys.map (fun z => z.cps.toList) = sortS xs := sortB_uniq leS_tot leS_tr leS_an h1 h3
  rw [← h4, List.map_map]
  have e : (tx ∘ fun z : Str => z.cps.toList) = id := funext fun z => by
    obtain ⟨c⟩ := z
    simp [tx]
  rw [e, List.map_id]
def intsOf : List D → Option (List Int)
  | [] => some []
  | .int i :: r => (intsOf r).map (i :: ·)
  | _ :: _ => none
def strsOf : List D → Option (List (List Nat))
  | [] => some []
  | .str s :: r => (strsOf r).map (s :: ·)
  | _ :: _ => none
def blsOf : List D → Option (List Bool)
  | [] => some []
  | .bl b :: r => (blsOf r).map (b :: ·)
  | _ :: _ => none
section
variable {K : PySem.W.Frag} {T : List Addr} {X : Cx}
theorem ints_rp {H : Hp} : ∀ {ds : List D} {vs : List V} {ns : List Int}, RpL K H ds vs → intsOf ds = some ns → vs = ns.map V.int
  | [], vs, ns, h, e => by rw [RpL] at h; cases e; exact h
  | d :: ds, vs, ns, h, e => by
    rw [RpL] at h
    obtain ⟨v, r, rfl, h2, h3⟩ := h
    cases d <;> simp only [intsOf] at e <;> try cases e
    rename_i i
    cases hr : intsOf ds with
    | none => rw [hr] at e; cases e
    | some ms =>
      rw [hr] at e; cases e
      rw [Rp] at h2
      rw [h2, ints_rp h3 hr]; rfl
theorem strs_rp {H : Hp} : ∀ {ds : List D} {vs : List V} {ns : List (List Nat)}, RpL K H ds vs → strsOf ds = some ns → vs = (ns.map tx).map V.str
  | [], vs, ns, h, e => by rw [RpL] at h; cases e; exact h
  | d :: ds, vs, ns, h, e => by
    rw [RpL] at h
    obtain ⟨v, r, rfl, h2, h3⟩ := h
    cases d <;> simp only [strsOf] at e <;> try cases e
    rename_i i
    cases hr : strsOf ds with
    | none => rw [hr] at e; cases e
    | some ms =>
      rw [hr] at e; cases e
      rw [Rp] at h2
      rw [h2, strs_rp h3 hr]; rfl
theorem bls_rp {H : Hp} : ∀ {ds : List D} {vs : List V} {ns : List Bool}, RpL K H ds vs → blsOf ds = some ns → vs = ns.map V.bl
  | [], vs, ns, h, e => by rw [RpL] at h; cases e; exact h
  | d :: ds, vs, ns, h, e => by
    rw [RpL] at h
    obtain ⟨v, r, rfl, h2, h3⟩ := h
    cases d <;> simp only [blsOf] at e <;> try cases e
    rename_i i
    cases hr : blsOf ds with
    | none => rw [hr] at e; cases e
    | some ms =>
      rw [hr] at e; cases e
      rw [Rp] at h2
      rw [h2, bls_rp h3 hr]; rfl
theorem rpl_ints {H : Hp} : ∀ ns : List Int, RpL K H (ns.map .int) (ns.map V.int)
  | [] => RpL.nil
  | n :: ns => RpL.cons (by rw [Rp]) (rpl_ints ns)
theorem rpl_strs {H : Hp} : ∀ ns : List (List Nat), RpL K H (ns.map .str) ((ns.map tx).map V.str)
  | [] => RpL.nil
  | n :: ns => RpL.cons (by rw [Rp]) (rpl_strs ns)
/-- sorted(xs): ints, texts -/
def dSorted : List R → Option R
  | [r] => match itmD r.dat with
    | some xs => match intsOf xs with
      | some ns => if ns.length < 64 then some (.new ((sortI ns).map .int)) else none
      | none => match strsOf xs with
        | some ss => if ss.length < 64 then some (.new ((sortS ss).map .str)) else none
        | none => none
    | none => none
  | _ => none
def isLst : D → Bool
  | .lst _ => true
  | _ => false
def dSortedL : List R → Option R
  | [r] => if isLst r.dat then dSorted [r] else none
  | _ => none
def rSortedA (K : PySem.W.Frag) : List V → Hp → VK → Prop := fun vs H Q => rSorted K vs H Q ∨ rSortedS K vs H Q
theorem cr_sortedA : CallR X (.builtin "sorted") (rSortedA X.K) := fun pins s σ H xs us Q I r h => by
  rcases h with h | h
  · exact cr_sorted pins s σ H xs us Q I r h
  · exact cr_sortedS pins s σ H xs us Q I r h
theorem lst_rp {H : Hp} {d : D} {v : V} {xs : List D} (hl : isLst d = true) (h : Rp K H d v) (e : itmD d = some xs) : ∃ p vs, v = .ref p ∧ SqL K H p vs ∧ RpL K H xs vs := by
  cases d <;> simp [isLst] at hl
  simp only [itmD] at e
  cases e
  rw [Rp] at h
  exact h
theorem cd_sorted : CallD K T (rSortedA K) dSortedL := fun H0 F H vs rs c Q ok up q h k => by
  unfold dSortedL at h
  split at h
  · rename_i r
    split at h
    · rename_i hl
      obtain ⟨v, rfl, q1⟩ := rql1 q
      have z := q1.toH ok up
      simp only [dSorted] at h
      split at h
      · rename_i xs e
        obtain ⟨p, vs, rfl, h1, h2⟩ := lst_rp hl z e
        split at h
        · rename_i ns en
          split at h
          · rename_i hn
            cases h
            rw [ints_rp h2 en] at h1
            refine .inl ⟨p, ns, rfl, h1, hn, fun ns' l hp hs hl => ?_⟩
            rw [sortI_uniq hp hs]
            exact k _ F _ (Le.newH ok hl) (rr_lst ok hl (rpl_ints _))
          · cases h
        · split at h
          · rename_i ss es
            split at h
            · rename_i hn
              cases h
              rw [strs_rp h2 es] at h1
              refine .inr ⟨p, ss.map tx, rfl, h1, by simpa using hn, fun ys l hp hs hl => ?_⟩
              rw [sortS_uniq hp hs]
              exact k _ F _ (Le.newH ok hl) (rr_lst ok hl (rpl_strs _))
            · cases h
          · cases h
      · cases h
    · cases h
  · cases h
/-! sum, any, all -/
def dSum : List R → Option R
  | [r] => if isLst r.dat then (match itmD r.dat with
    | some xs => (intsOf xs).map fun ns => .val (.int ns.sum)
    | none => none) else none
  | _ => none
theorem cd_sum : CallD K T (rSum K) dSum := fun H0 F H vs rs c Q ok up q h k => by
  unfold dSum at h
  split at h
  · rename_i r
    split at h
    · rename_i hl
      obtain ⟨v, rfl, q1⟩ := rql1 q
      split at h
      · rename_i xs e
        obtain ⟨p, vs, rfl, h1, h2⟩ := lst_rp hl (q1.toH ok up) e
        cases en : intsOf xs with
        | none => rw [en] at h; cases h
        | some ns =>
          rw [en] at h; cases h
          rw [ints_rp h2 en] at h1
          exact ⟨p, ns, rfl, h1, k _ F H (Le.refl ok) (by rw [Rr, Rp])⟩
      · cases h
    · cases h
  · cases h
def dAny : List R → Option R
  | [r] => if isLst r.dat then (match itmD r.dat with
    | some xs => (blsOf xs).map fun ns => .val (.bl (ns.any id))
    | none => none) else none
  | _ => none
theorem cd_any : CallD K T (rAny K) dAny := fun H0 F H vs rs c Q ok up q h k => by
  unfold dAny at h
  split at h
  · rename_i r
    split at h
    · rename_i hl
      obtain ⟨v, rfl, q1⟩ := rql1 q
      split at h
      · rename_i xs e
        obtain ⟨p, vs, rfl, h1, h2⟩ := lst_rp hl (q1.toH ok up) e
        cases en : blsOf xs with
        | none => rw [en] at h; cases h
        | some ns =>
          rw [en] at h; cases h
          rw [bls_rp h2 en] at h1
          exact ⟨p, ns, rfl, h1, k _ F H (Le.refl ok) (by rw [Rr, Rp])⟩
      · cases h
    · cases h
  · cases h
def dAll : List R → Option R
  | [r] => if isLst r.dat then (match itmD r.dat with
    | some xs => (blsOf xs).map fun ns => .val (.bl (ns.all id))
    | none => none) else none
  | _ => none
theorem cd_all : CallD K T (rAll K) dAll := fun H0 F H vs rs c Q ok up q h k => by
  unfold dAll at h
  split at h
  · rename_i r
    split at h
    · rename_i hl
      obtain ⟨v, rfl, q1⟩ := rql1 q
      split at h
      · rename_i xs e
        obtain ⟨p, vs, rfl, h1, h2⟩ := lst_rp hl (q1.toH ok up) e
        cases en : blsOf xs with
        | none => rw [en] at h; cases h
        | some ns =>
          rw [en] at h; cases h
          rw [bls_rp h2 en] at h1
          exact ⟨p, ns, rfl, h1, k _ F H (Le.refl ok) (by rw [Rr, Rp])⟩
      · cases h
    · cases h
  · cases h
end
end Fw
namespace Fw
open PySem PySem.Spec PyProof.Rows L2
/-! ### join -/
def joinS (sep : List Nat) : List (List Nat) → List Nat
  | [] => []
  | [x] => x
  | x :: y :: r => x ++ sep ++ joinS sep (y :: r)
theorem join_tx (sep : List Nat) : ∀ ss : List (List Nat), Str.join (tx sep) (ss.map tx) = tx (joinS sep ss)
  | [] => rfl
  | [x] => rfl
  | x :: y :: r => by
    show tx x ++ tx sep ++ Str.join (tx sep) ((y :: r).map tx) = _
    rw [join_tx sep (y :: r), tx_app, tx_app]
    rfl
section
variable {X : Cx} {T : List Addr} {W : WX} {K : PySem.W.Frag} {o e a b : Expr} {fo fe fa fb : Env → O R} {apos pos p p2 : Pos}
/-- a method of a text with one argument -/
def fM1 (d : List Nat → R → Option R) (fo fe : Env → O R) : Env → O R := fun es => (fo es).bind fun r => match r with
  | .val (.str z) => (fe es).bind fun b => O.of (d z b.fz)
  | _ => .no
def dJoin (sep : List Nat) (b : R) : Option R := match itmD b.dat with
  | some xs => match strsOf xs with
    | some ss => if (ss.map (·.length)).sum + ss.length * sep.length ≤ 1000000 then some (.val (.str (joinS sep ss))) else none
    | none => none
  | none => none
theorem sum_map_tx : ∀ ss : List (List Nat), ((ss.map tx).map (·.length)).sum = (ss.map (·.length)).sum
  | [] => rfl
  | s :: ss => by
    simp only [List.map_cons, List.sum_cons, tx_len]
    rw [sum_map_tx ss]
theorem m1_weak {r : V → List V → Hp → VK → Prop} {d : List Nat → R → Option R} (hd : ∀ (H0 F H : Hp) (z : List Nat) (y : V) (b c : R) (Q : VK), Ok T F H → Up K H0 H → Rq K T H0 F H y b → d z b = some c → (∀ v F' H', Le T F H F' H' → Rr K T H0 H F' H' v c → Q v H') → r (.str (tx z)) [y] H Q)
    {σ : L2.St} {H : Hp} {Q : VK} (h : tD K T W (fM1 d fo fe) σ H Q) : tM1 r (tD K T W fo) (tD K T W fe) σ H Q := by
  obtain ⟨F0, H0, F, es, st, h⟩ := h
  refine ⟨F0, H0, F, es, st, pr_seq st h fun a v F1 H1 _ st1 l1 q1 h1 => ?_⟩
  split at h1
  · rename_i z _
    have q2 : Rq K T H0 F1 H1 v (.val (.str z)) := q1
    have ev := rq_str q2
    subst ev
    refine ⟨⟨_, rfl⟩, F0, H0, F1, es, st1, pr_seq st1 h1 fun b y F2 H2 _ st2 l2 q3 h2 => ?_⟩
    cases hc : d z b.fz with
    | none => rw [hc] at h2; exact h2.elim
    | some c =>
      rw [hc] at h2
      exact hd H0 F2 H2 z y _ c Q st2.ok st2.up q3 hc h2
  · exact h1.elim
theorem de_join (ho : DE X T W o fo) (he : DE X T W e fe) (hs : starEach [e] X.env = [(false, eval e X.env)] := by rfl) (hbase : attributeBase o "join" X.env (eval o X.env) = eval o X.env := by rfl) (hline : (apos.endLine == pos.line) = true := by rfl) :
    DE X T W (.Call (.Attribute o "join" apos) [e] [] pos) (fM1 dJoin fo fe) :=
  pe_weak (pe_m1 PySem.F.slot_str_join PySem.F.type_str_join mt_join ho he hs hbase hline) fun σ H Q h => m1_weak (fun H0 F H z y b c Q ok up q hd k => by
    unfold dJoin at hd
    split at hd
    · rename_i xs e1
      split at hd
      · rename_i ss e2
        split at hd
        · rename_i hz
          cases hd
          obtain ⟨p, vs, rfl, h1, h2⟩ := itmD_ok (q.toH ok up) e1
          rw [strs_rp h2 e2] at h1
          refine ⟨tx z, p, ss.map tx, rfl, rfl, h1, ?_, ?_⟩
          · rw [sum_map_tx, List.length_map, tx_len]; omega
          · have e : Txt.join (tx z) (ss.map tx) = tx (joinS z ss) := by
              show Builtin.Str.glued (tx z) (ss.map tx) = _
              rw [StrLaws.glued_eq_join, join_tx]
            rw [e]
            exact k _ F H (Le.refl ok) (by rw [Rr, Rp])
        · cases hd
      · cases hd
    · cases hd) h
/-! ### list(range(n)) -/
def fLRg1 (fa : Env → O R) : Env → O R := fun es => (fa es).bind fun r => match r with
  | .val (.int n) => if n ≤ 90000 ∧ 0 ≤ n then .ok (.new ((List.range n.toNat).map fun i => .int (i : Nat))) else .no
  | _ => .no
theorem rgV_rp {H : Hp} {n : Int} (h : 0 ≤ n) : RpL K H ((List.range n.toNat).map fun i => D.int (i : Nat)) (rgV 0 n) := by
  unfold rgV
  rw [Int.sub_zero]
  generalize List.range n.toNat = l
  induction l with
  | nil => exact RpL.nil
  | cons a l ih => exact RpL.cons (by rw [Rp]; simp) ih
theorem de_lrg1 (hml : X.mg "list" = none) (hmr : X.mg "range" = none) (ha : DE X T W a fa) (hc : X.calm = true := by rfl) (hgl : Gl X "list" := by rfl) (hgr : Gl X "range" := by rfl) (na : starEach [a] X.env = (false, eval a X.env) :: starEach [] X.env := by rfl)
    (ne : starEach [.Call (.Name "range" p2) [a] [] apos] X.env = (false, eval (.Call (.Name "range" p2) [a] [] apos) X.env) :: starEach [] X.env := by rfl) :
    DE X T W (.Call (.Name "list" p) [.Call (.Name "range" p2) [a] [] apos] [] pos) (fLRg1 fa) :=
  pe_weak (pe_listRg hc hgl hml (prg_1 hgr hmr ha na) ne) fun σ H Q ⟨F0, H0, F, es, st, h⟩ => by
    show tD _ _ _ _ _ _ _
    refine ⟨F0, H0, F, es, st, pr_seq st h fun r v F1 H1 _ st1 l1 q1 h1 => ?_⟩
    split at h1
    · rename_i n _
      split at h1
      · rename_i hn
        refine ⟨n, rq_int (T := T) (H0 := H0) (F := F1) (H := H1) q1, ⟨by omega, by omega, by omega, by omega, by omega⟩, fun q hq => ?_⟩
        exact h1 _ F1 _ (Le.newH st1.ok hq) (rr_lst st1.ok hq (rgV_rp hn.2))
      · exact h1.elim
    · exact h1.elim
/-! ### text * n -/
def repS (s : List Nat) (n : Int) : List Nat := (List.replicate n.toNat s).flatten
def dMulA : R → R → Option R
  | .val (.str s), .val (.int n) => if s.length ≤ 1000 ∧ -1000 ≤ n ∧ n ≤ 1000 then some (.val (.str (repS s n))) else none
  | a, b => dMul a b
def rMulS : R2 := fun x y H Q => ∃ z n, x = .str z ∧ y = .int n ∧ z.length ≤ 1000 ∧ -1000 ≤ n ∧ n ≤ 1000 ∧ Q (.str ⟨((List.replicate n.toNat z.cps.toList).flatten).toArray⟩) H
theorem fold_rep (z : Array Nat) : ∀ (n : Nat) (acc : Array Nat), ((List.replicate n z).foldl (· ++ ·) acc).toList = acc.toList ++ (List.replicate n z.toList).flatten
  | 0, acc => by simp
  | n + 1, acc => by
    rw [List.replicate_succ, List.foldl_cons, fold_rep z n (acc ++ z), List.replicate_succ, List.flatten_cons]
    simp
theorem op_mulS : OpR X (binaryOp .Mult) rMulS := fun pins s σ H x y v u Q I rx ry h => by
  obtain ⟨z, n, rfl, rfl, hz, h1, h2, q⟩ := h
  obtain ⟨t, rfl⟩ := rx
  obtain ⟨w, rfl⟩ := ry
  have hle : z.length * n.toNat ≤ 1000 * 1000 := Nat.mul_le_mul hz (by omega)
  refine PySem.P.mul_str (by rw [decide_eq_false (by omega), decide_eq_false (by omega)]; rfl) (fun g1 g2 => ?_) (fun g1 g2 => ?_) ?_
  · have hn : 0 < n := by omega
    have e : ((z.length * n.toNat : Nat) : Int) = (z.length : Int) * n := by
      rw [Int.natCast_mul, Int.toNat_of_nonneg (by omega)]
    have : (z.length : Int) ≤ (2 ^ 63 - 1) / n := Int.le_ediv_of_mul_le hn (by rw [← e]; omega)
    omega
  · unfold Builtin.Str.tooLong
    have : sizeLine = 16777216 := rfl
    simp only [decide_eq_false_iff_not]
    omega
  · have go : ∀ r : Str, r = ⟨((List.replicate n.toNat z.cps.toList).flatten).toArray⟩ → EP X pins σ Q (.str r s.toks) { s with toks := s.toks + 1 } := fun r e => ⟨.str r, H, I.tok _, ⟨_, rfl⟩, by rw [e]; exact q⟩
    by_cases g1 : n < 1
    · rw [if_pos g1]
      have e : n.toNat = 0 := by omega
      exact ⟨by decide, go Str.empty (by rw [e]; rfl)⟩
    · rw [if_neg g1]
      by_cases g2 : (n == 1 || z.length == 0) = true
      · rw [if_pos g2]
        have e : (⟨((List.replicate n.toNat z.cps.toList).flatten).toArray⟩ : Str) = z := by
          rw [Bool.or_eq_true, beq_iff_eq, beq_iff_eq] at g2
          rcases g2 with g2 | g2
          · subst g2
            simp
          · have : z.cps = #[] := by
              have : z.cps.size = 0 := g2
              simpa using this
            obtain ⟨c⟩ := z
            simp only at this
            subst this
            simp
        exact ⟨.str z, H, I, ⟨t, rfl⟩, by rw [← e]; exact q⟩
      · rw [if_neg g2]
        have e : (⟨(List.replicate n.toNat z.cps).foldl (· ++ ·) #[]⟩ : Str) = ⟨((List.replicate n.toNat z.cps.toList).flatten).toArray⟩ := by
          have := fold_rep z.cps n.toNat #[]
          congr 1
          apply Array.toList_inj.mp
          rw [this]; simp
        refine ⟨?_, go _ e⟩
        show (List.foldl (· ++ ·) #[] (List.replicate n.toNat z.cps)).size ≤ sizeLine
        rw [← Array.length_toList, fold_rep]
        simp
        have h9 : z.cps.size * n.toNat ≤ 1000 * 1000 := hle
        have : sizeLine = 16777216 := rfl
        rw [Nat.mul_comm]
        omega
def rMulA : R2 := fun x y H Q => (rI CMul fun i j => .int (i * j)) x y H Q ∨ rMulS x y H Q
theorem op_mulA : OpR X (binaryOp .Mult) rMulA := OpR.or op_mul op_mulS
theorem od_mulA : OpD K T rMulA dMulA := fun H0 F H x y a b c Q ok up q1 q2 h k => by
  unfold dMulA at h
  split at h
  · rename_i s n
    split at h
    · rename_i hl
      cases h
      refine .inr ⟨tx s, n, rq_str q1, rq_int q2, by rw [tx_len]; exact hl.1, hl.2.1, hl.2.2, ?_⟩
      rw [tx_list]
      exact k _ F H (Le.refl ok) (by rw [Rr, Rp]; rfl)
    · cases h
  · exact .inl (od_mul H0 F H x y _ _ c Q ok up q1 q2 h k)
end
end Fw
namespace Fw
open PySem PySem.Spec PyProof.Rows L2
/-- a def of the module: where it stands, by which name, how it binds -/
structure Def (K : PySem.W.Frag) (mg : Str → Option Value) (x : Str) (st : Stmt) (ps : List Str) (f : Addr) (fd : FuncData) : Prop where
  fn : Fun K x x st f fd
  at_ : mg x = some (.ref f)
  bd : Binds K fd ps []
/-- .. and its code object is at c -/
structure DefC (K : PySem.W.Frag) (mg : Str → Option Value) (x : Str) (st : Stmt) (ps : List Str) (f : Addr) (fd : FuncData) (c : Addr) : Prop extends Def K mg x st ps f fd where
  ex : ∃ (oc : Value) (od : Option Addr) (kV doc pm : Value) (an : Option Addr) (ct : Value) (osl : Array (Option Value)),
    fd = PySem.W.fnOf x x (defArgs st) (defBody st) (defScope st) .none kV doc pm an (.ref c) ct ∧ K.lookup f = some ⟨oc, od, .func fd, osl⟩ ∧ PySem.W.codeIn K (.ref c) x = true
section
variable {P : Program} {w : World} {K : PySem.W.Frag} {mg : Str → Option Value} {base : Heap} {T : List Addr}
theorem def_ok0 {x : Str} {st : Stmt} {f : Addr} {fd : FuncData} {N ps : List Str} {k : Nat} (F : Def K mg x st ps f fd) (S : FnScope N ps (defScope st)) (body : Env → Out)
    (h : ∀ (cdv : Value) (A : Around) (outer : List PySem.Env) (s : Shared) (H : Hp) (E : XK), Room k (A.deeper (envOfC x (defScope st) s.heap.objs.size f cdv)) → DSs (cxOf CX0 P w K mg base N x (defScope st) f cdv A outer s H E).nox T W0 (defBody st) body) :
    FnOk P w K mg base CX0 (k + 1) f fd ps (spD K T ps.length (run0 N.length body)) := fn_ok0 F.fn S body h
theorem def_ok0C {x : Str} {st : Stmt} {f c : Addr} {fd : FuncData} {N ps : List Str} {k : Nat} (F : DefC K mg x st ps f fd c) (S : FnScope N ps (defScope st)) (body : Env → Out)
    (h : ∀ (A : Around) (outer : List PySem.Env) (s : Shared) (H : Hp) (E : XK), Room k (A.deeper (envOfC x (defScope st) s.heap.objs.size f (.ref c))) → DSs (cxOf CX0 P w K mg base N x (defScope st) f (.ref c) A outer s H E).nox T W0 (defBody st) body) :
    FnOk P w K mg base CX0 (k + 1) f fd ps (spD K T ps.length (run0 N.length body)) := by
  obtain ⟨oc, od, kV, doc, pm, an, ct, osl, rfl, lk, hcd⟩ := F.ex
  refine fn_of lk hcd S (fun vs H Q E h => by obtain ⟨F, ds, hl, _⟩ := h; exact hl) fun A outer s H vs Q E hr hsp => ?_
  obtain ⟨F1, ds, hl, ok, r, q⟩ := hsp
  refine ⟨_, (h A outer s H E hr F1 H).nox, F1, _, start_ok (N := N) ok r, ?_⟩
  have q' : match runX N.length body ds with
    | .ok (.val d) => ∀ v F' H', Le T F1 H F' H' → Rr K T H H F' H' v (.val d) → Q v H'
    | .ok (.new xs) => ∀ v F' H', Le T F1 H F' H' → Rr K T H H F' H' v (.new xs) → Q v H'
    | .exc c fs => ∀ cls d F' H', Le T F1 H F' H' → XOk K H' c fs cls d → False
    | _ => False := by
    unfold run0 at q
    unfold runX
    cases hb : body (startE N.length ds) with
    | nx es => rw [hb] at q; exact q
    | rt r => cases r <;> (rw [hb] at q; exact q)
    | br es => rw [hb] at q; exact q
    | ct es => rw [hb] at q; exact q
    | no => rw [hb] at q; exact q
    | exc es c fs => rw [hb] at q; exact q.elim
  exact run_out (E := fun _ _ _ => False) (fun _ _ _ _ z => z) (fun _ => rfl) q'
end
theorem hq {k : Nat} {A : Around} (hr : Room k A) : A.units + 64 < cLine := by
  have := hr.un
  omega
theorem gen_free {env : PySem.Env} {scope : Scope} (h : (scope.names.all fun y => decide (y.2 ≠ .free)) = true) : ∀ y ∈ scope.names, y.2 = .free → ∃ c, env.cells.lookup y.1 = some c := fun y hy hf =>
  absurd hf (of_decide_eq_true (List.all_eq_true.mp h y hy))
/-! ### the end -/
/-- the table of the def at f is empty, its code object is one -/
def OwnT (K : PySem.W.Frag) (f : Addr) (h : Heap) : Prop := ∀ (c P : Addr) (o : Obj) (fd : FuncData) (e : Value) (dd : Option Addr) (vs : Array Value) (sl : Array (Option Value)), K.lookup f = some o → o.data = .func fd → fd.code = .ref c →
  K.lookup c = some ⟨e, dd, .fields vs, sl⟩ → vs[11]? = some (.ref P) → h.get? P = some { cls := .none, data := .fields #[] } ∧ PySem.W.CodeHd h c P
theorem walk_all {l : PySem.W.OpenLaw} {n k : Nat} {q : Program} {loose : List Str} {XP : (Str → Option Value) → Heap → Prop} {YP : World → Heap → Prop} {d : DefRec} {K : Params → PySem.W.Frag} {CX : World → CXT} {x : Str} (hn : l.most = some n) (hn2 : n ≤ sizeLine) (hdf : d.params.defaults = []) (hr : Room k callerA)
    (hY : ∀ (w : World) (h : Heap), YP w h → (K w.params).In h)
    (F : ∀ (w : World) (mg : Str → Option Value) (fa : Addr) (h : Heap), YP w h → (K w.params).In h → h.Ns mainGlobals mg → mg d.name = some (.ref fa) →
      (∀ (y : Str) (f : Addr), ((recsOf q).any fun e => e.name == y) = true → mg y = some (.ref f) → OwnT (K w.params) f h) → LamX.LawAtS l w (K w.params) (CX w) k n x mg fa h)
    (hCX : ∀ (w : World) (H : Hp) (s : Shared) (e : Value) (s' : Shared), CX w [] H s (fun _ _ _ => False) e s' → False) : PySem.W.WalkO q loose XP YP l.row.toRowW d [] (fun f vs => PySem.call f vs) := by
  refine Att.attach_callB hn hdf fun w s0 s1 mg mb fa o pm cd doc a vs ns G Y ho hd hcd hmg hobj hints hlen hbits hg => ?_
  have kin := hY w _ Y
  have own : ∀ (y : Str) (f : Addr), ((recsOf q).any fun e => e.name == y) = true → mg y = some (.ref f) → OwnT (K w.params) f s1.heap := fun y f hy hf c P o1 fd1 e dd vs1 sl k1 k2 k3 k4 k5 => by
    obtain ⟨dr, hm, hname⟩ := List.any_eq_true.mp hy
    have hname2 : dr.name = y := beq_iff_eq.mp hname
    obtain ⟨a', o', fd', c', P', h1, h2, h3, h4, h5, h6⟩ := G.T.tab dr hm
    rw [hname2, hf] at h1
    cases h1
    have g1 := kin _ _ k1
    rw [g1] at h2
    cases h2
    rw [k2] at h3
    cases h3
    rw [k3] at h4
    cases h4
    have hd0 := PySem.W.CodeHd.of h5 h6
    obtain ⟨⟨oc, vc, e1, _, e3, e4⟩, hP⟩ := h6
    have g2 := kin _ _ k4
    rw [g2] at e1
    cases e1
    cases e3
    rw [k5] at e4
    cases e4
    exact ⟨hP, hd0⟩
  obtain ⟨fd, cs, sp, hT, nT, C, hb, hsp, hF⟩ := F w mg fa _ Y kin G.T.g hmg own
  exact LamX.law_callTs kin G.T.g G.T.b G.T.builtins G.T.nolimit hg hT nT C G.T.bmain hobj hints (Nat.le_trans hlen hn2) hr hF hb (fun H hH hS => hsp H a ns hlen hbits hH hS) fun H e s' => hCX w H s1 e s'
/-- the law's promise, at its entry -/
theorem law_sp {K : PySem.W.Frag} {cs : List (Addr × Addr)} {g : List D → O R} {H : Hp} {a : Addr} {ns : List Int} (hg : g [.lst (ns.map .int)] = .ok (.val (.bl true))) (hT : ∀ p ∈ cs, H p.2 = some (.tbl #[])) (hS : SqL K H a (ns.map V.int)) :
    spD K (cs.map (·.2)) 1 g [.ref a] H (fun v _ => v = .bl true) fun _ _ _ => False := by
  refine ⟨fun _ => none, [.lst (ns.map .int)], rfl, ⟨fun a o h => (by cases h), fun P hP => ?_, fun _ _ => rfl⟩, RpL.cons ?_ RpL.nil, ?_⟩
  · obtain ⟨p, hp, rfl⟩ := List.mem_map.mp hP
    exact ⟨#[], hT p hp, True.intro⟩
  · rw [Rp]; exact ⟨a, _, rfl, hS, rpl_ints ns⟩
  · rw [hg]
    intro v F' H' _ q
    rw [Rr, Rp] at q
    exact q
end Fw
namespace Fw
open PySem PySem.Spec PyProof.Rows L2
/-! ### what the program's classes are -/
/-- classes by their names; kinds of errors -/
structure Cl where
  at_ : String → Addr
  kx : Addr → D → Option Bool
  ex : Addr → Addr → Option Bool
structure ClOk (K : PySem.W.Frag) (cl : Cl) : Prop where
  kx : ∀ c d b, cl.kx c d = some b → ExcC K c ∧ match d with
    | .cls c' => PySem.W.kitOne K (.ref c) (.ref c') = some b
    | .ty n => PySem.W.kitOne K (.ref c) (.type n) = some b
    | _ => False
  ex : ∀ c c' b, cl.ex c c' = some b → PySem.W.exmOne K (.ref c) (.ref c') = some b
section
variable {X : Cx} {T : List Addr} {W : WX} {e : Expr} {es : List Expr} {x : Str} {st : Stmt} {g : Env → Out}
/-- a class of the module -/
theorem de_cls {pos : Pos} {c : Addr} (h : X.mg x = some (.ref c)) (hg : Gl X x := by rfl) (hd : (x == ("__debug__" : Str)) = false := by decide) : DE X T W (.Name x pos) (fC (.cls c)) :=
  de_glob (v := .ref c) hg h rfl (fun _ => by rw [Rp]) hd
/-! ### raise -/
structure Exq (K : PySem.W.Frag) (mg : Str → Option Value) (x : Str) (c : Addr) : Prop where
  q : PySem.W.excIn K c [.type "ValueError", .type "Exception", .type "BaseException", .type "object"] "ValueError.__new__" = true
  g : mg x = some (.ref c)
  kp : PySem.W.keepIn K (.ref c) = true
  sub : PySem.W.subIn K (.ref c) (.type "BaseException") = some true
  ty : PySem.W.typeIn K (.ref c) = some (.type "type")
def gRaise (c : Addr) : Env → Out := fun es => .exc es c none
theorem ds_raise {m : Str} {j : Nat} {p p2 pos pos' : Pos} {c : Addr} (tk : Takes X W) (E : Exq X.K X.mg x c) (hc : X.calm = true := by rfl) (hg : Gl X x := by rfl) (hdb : (x == ("__debug__" : Str)) = false := by decide) :
    DS X T W (.Raise (some (.Call (.Name x p) [.Constant (.str m) j p2] [] pos)) none pos') (gRaise c) := fun F0 H0 =>
  ps_weak (ps_raise hc tk (pmk_own PySem.F.excBase_ValueError E.q E.g E.kp (raises_own E.sub E.ty) hg hdb)) fun D σ H ⟨F, es, st, q⟩ => q (.ref c) none σ F H (Sub.refl _) st ⟨rfl, rfl⟩
/-! ### a call that may raise -/
theorem de_callX {k n : Nat} {f : Addr} {fd : FuncData} {ps : List Str} {gg : List D → O R} {fr : Env → O (List R)} {pos p : Pos} (F : FnOk X.prog X.w X.K X.mg X.base (L2.CX X.prog X.w) k f fd ps (spD X.K T n gg)) (tk : Takes X W) (hr : Room k X.A) (hm : X.mg x = some (.ref f))
    (hk : PySem.W.keepIn X.K (.ref f) = true) (hb : Binds X.K fd ps []) (ha : DA X T W (e :: es) fr) (hn : ∀ es rs, fr es = .ok rs → rs.length = n) (hg : Gl X x := by rfl) (hdb : (x == ("__debug__" : Str)) = false := by decide)
    (he : starEach (e :: es) X.env = (false, eval e X.env) :: starEach es X.env := by rfl) (hpl : (backTo pos (starEach es X.env)).any (·.1) = false := by rfl) : DE X T W (.Call (.Name x p) (e :: es) [] pos) (fCall gg fr) :=
  pe_weak (pe_callS F hr hg hm hk hb (fun σ => passAt tk σ) ha hdb he hpl) fun σ H Q h => call_weak (Ec := WE W) (fun _ _ _ z => z) hn h
/-! ### try .. except C as e -/
def Out.un (i : Nat) : Out → Out
  | .nx es => .nx (es.set i .no)
  | .br es => .br (es.set i .no)
  | .ct es => .ct (es.set i .no)
  | .rt r => .rt r
  | _ => .no
def gTry (ex : Addr → Option Bool) (i : Nat) (g ts : Env → Out) : Env → Out := fun es => match g es with
  | .exc e2 c none => match ex c with
    | some true => (ts (e2.set i (.val (.exn c [] [])))).un i
    | some false => .exc e2 c none
    | none => .no
  | .exc _ _ (some _) => .no
  | o => o
theorem wipe1 (σ : L2.St) (i : Nat) : L2.wipe σ [i] = σ.set i none := rfl
theorem wipeE1 (es : Env) (i : Nat) : wipeE es [i] = es.set i .no := rfl
theorem ds_try {n : Str} {c : Addr} {i : Nat} {body suite : List Stmt} {b₀ : Stmt} {np pos pos' : Pos} {ts : Env → Out} {ex : Addr → Option Bool} (hN : X.N.Nodup) (hi : X.N[i]? = some n) (tk : Takes X W) (hc : X.mg x = some (.ref c)) (hex : ∀ c' b, ex c' = some b → PySem.W.exmOne X.K (.ref c') (.ref c) = some b)
    (hb : ∀ (W : WX) (pn : List (Addr × Obj)) (xe : Value → Shared → Prop), Takes (X.tr pn xe) W → PassesOwn (model X.prog X.w) X.A X.env xe → DSs (X.tr pn xe) T W body g) (hsu : ∀ (a : Addr) (pn : List (Addr × Obj)), DSs (X.suite a pn) T W0 (b₀ :: suite) ts)
    (hs : X.stack = X.env :: X.outer := by rfl) (hf : X.env.frame = some X.env.locals := by rfl) (hln : X.env.kindOf n = some .local := by rfl) (hg : Gl X x := by rfl) (hd : (x == ("__debug__" : Str)) = false := by decide) :
    DS X T W (.Try body [.ExceptHandler (some (.Name x np)) (some n) (b₀ :: suite) pos'] [] [] pos) (gTry ex i g ts) := fun F0 H0 =>
  ps_weak (ps_try_asT (tb := fun W => tS X.K T W F0 H0 g) (ts := tS X.K T W0 F0 H0 ts) (Wout := W) hs hf hN hi hln ⟨hg, hd, Or.inl hc⟩ tk (fun W pn xe tk po => hb W pn xe tk po F0 H0) (fun a pn => hsu a pn F0 H0)) fun D σ H ⟨F, es, st, q⟩ => by
    refine ⟨F, es, st, ?_⟩
    unfold gTry at q
    cases hg : g es with
    | nx e2 => rw [hg] at q; exact q
    | rt r => rw [hg] at q; exact q
    | br e2 => rw [hg] at q; exact q
    | ct e2 => rw [hg] at q; exact q
    | no => rw [hg] at q; exact q
    | exc e2 c' fs =>
      rw [hg] at q
      cases fs with
      | some p => exact q.elim
      | none =>
        intro cls d σ' F' H' sb st' xo
        obtain ⟨rfl, rfl⟩ := xo
        cases hx : ex c' with
        | none => simp only [hx] at q; exact q.elim
        | some b =>
          simp only [hx] at q
          refine ⟨b, hex c' b hx, fun eb a ha => ?_, fun eb => ?_⟩
          · subst eb
            have st2 : StOk X.K T F0 H0 (upd F' a (ExH (.ref c') none a)) (upd H' a (ExH (.ref c') none a)) σ' e2 := st'.step (Le.new st'.ok ha)
            have rp : Rp X.K (upd F' a (ExH (.ref c') none a)) (.exn c' [] []) (.ref a) := by
              rw [Rp]; exact ⟨a, none, rfl, upd_same, Or.inl ⟨rfl, rfl⟩⟩
            have st3 := StOk.slot (i := i) (v := .ref a) (r := .val (.exn c' [] [])) st2 rp rfl
            have sub : Sub F (upd F' a (ExH (.ref c') none a)) := sb.trans (Sub.new (st'.ok.nf ha))
            refine ⟨_, _, st3, ?_⟩
            have un : ∀ {σ6 : L2.St} {es6 : Env} {F6 H6 : Hp}, StOk X.K T F0 H0 F6 H6 σ6 es6 → StOk X.K T F0 H0 F6 H6 (σ6.set i none) (es6.set i .no) := fun s => s.wipe [i]
            unfold Out.un at q
            cases ho : ts (e2.set i (.val (.exn c' [] []))) with
            | nx e6 => rw [ho] at q; exact fun σ6 F6 H6 s6 t6 => q _ F6 H6 (sub.trans s6) (un t6)
            | br e6 => rw [ho] at q; exact fun σ6 F6 H6 s6 t6 => q _ F6 H6 (sub.trans s6) (un t6)
            | ct e6 => rw [ho] at q; exact fun σ6 F6 H6 s6 t6 => q _ F6 H6 (sub.trans s6) (un t6)
            | rt r => rw [ho] at q; exact q
            | exc e6 c6 f6 => rw [ho] at q; exact q.elim
            | no => rw [ho] at q; exact q.elim
          · subst eb
            exact q _ _ σ' F' H' sb st' ⟨rfl, rfl⟩
end
/-! ### isinstance with errors -/
def isX (cl : Cl) : D → D → Option Bool
  | .exn c [] _, t => cl.kx c t
  | _, _ => none
def dIsX (cl : Cl) : List R → Option R
  | [r, t] => match isX cl r.dat t.dat with
    | some k => some (.val (.bl k))
    | none => dIsi [r, t]
  | _ => none
def rIsiX (K : PySem.W.Frag) : List V → Hp → VK → Prop := fun xs H Q => rIsi K xs H Q ∨ rIsX K xs H Q
theorem call_isiX {X : Cx} : CallR X (.builtin "isinstance") (rIsiX X.K) := fun pins s σ H xs us Q I r h => by
  rcases h with h | h
  · exact call_isi pins s σ H xs us Q I r h
  · exact call_isX pins s σ H xs us Q I r h
theorem cd_isX {K : PySem.W.Frag} {T : List Addr} {cl : Cl} (ok : ClOk K cl) : CallD K T (rIsiX K) (dIsX cl) := fun H0 F H vs rs c Q okH up q h k => by
  unfold dIsX at h
  split at h
  · rename_i r t
    split at h
    · rename_i b hx
      cases h
      obtain ⟨v, u, rfl, q1, q2⟩ := rql2 q
      have z := q1.toH okH up
      have z2 := q2.toH okH up
      cases hr : r.dat with
      | exn c' ns ds =>
        rw [hr] at hx z
        cases ns with
        | cons a b => cases hx
        | nil =>
        generalize ht : t.dat = td at hx z2
        have hx : cl.kx c' td = some b := hx
        rw [Rp] at z
        obtain ⟨a, dd, rfl, ha, hz⟩ := z
        have hn : dd = none := by
          rcases hz with ⟨h1, _⟩ | ⟨d2, vs, h0, _⟩
          · exact h1
          · exact absurd rfl h0
        subst hn
        obtain ⟨hE, hd⟩ := ok.kx c' td b hx
        cases td with
        | cls c2 =>
          rw [Rp] at z2
          exact Or.inr ⟨a, c', u, .ref c2, b, rfl, ha, hE, fun w hw => by rw [z2] at hw; exact hw, hd, k _ F H (Le.refl okH) (by rw [Rr, Rp])⟩
        | ty n =>
          rw [Rp] at z2
          exact Or.inr ⟨a, c', u, .type n, b, rfl, ha, hE, fun w hw => by rw [z2] at hw; exact hw, hd, k _ F H (Le.refl okH) (by rw [Rr, Rp])⟩
        | _ => exact hd.elim
      | _ => rw [hr] at hx; cases hx
    · exact Or.inl (cd_isi H0 F H _ _ c Q okH up q h k)
  · cases h
end Fw
namespace Fw
open PySem PySem.Spec PyProof.Rows L2
/-! ### a def that may raise -/
section
variable {P : Program} {w : World} {K : PySem.W.Frag} {mg : Str → Option Value} {base : Heap} {T : List Addr}
theorem tkX {N : List Str} {qual : Str} {scope : Scope} {f : Addr} {cdv : Value} {A : Around} {outer : List PySem.Env} {s : Shared} {H : Hp} {E : XK} : Takes (cxOf (L2.CX P w) P w K mg base N qual scope f cdv A outer s H E) (fun cls d _ H => E cls d H) := takes_of rfl rfl rfl rfl
theorem fn_okX {x qual : Str} {st : Stmt} {f : Addr} {fd : FuncData} {N ps : List Str} {k : Nat} (F : Fun K x qual st f fd) (S : FnScope N ps (defScope st)) (body : Env → Out)
    (h : ∀ (cdv : Value) (A : Around) (outer : List PySem.Env) (s : Shared) (H : Hp) (E : XK), Room k (A.deeper (envOfC qual (defScope st) s.heap.objs.size f cdv)) → DSs (cxOf (L2.CX P w) P w K mg base N qual (defScope st) f cdv A outer s H E) T (fun cls d _ H => E cls d H) (defBody st) body) :
    FnOk P w K mg base (L2.CX P w) (k + 1) f fd ps (spD K T ps.length (runX N.length body)) := by
  refine F.okX S (fun vs H Q E h => by obtain ⟨F, ds, hl, _⟩ := h; exact hl) (fun cdv A outer s H vs Q E hr hsp => ?_)
  obtain ⟨F, ds, hl, ok, r, q⟩ := hsp
  exact ⟨_, h cdv A outer s H E hr F H, F, _, start_ok (N := N) ok r, run_out (E := E) (fun _ _ _ _ z => z) (fun _ => rfl) q⟩
/-- what raises nothing, as a def that may raise -/
theorem fn_ok00 {x qual : Str} {st : Stmt} {f : Addr} {fd : FuncData} {N ps : List Str} {k : Nat} (F : Fun K x qual st f fd) (S : FnScope N ps (defScope st)) (body : Env → Out)
    (h : ∀ (cdv : Value) (A : Around) (outer : List PySem.Env) (s : Shared) (H : Hp) (E : XK), Room k (A.deeper (envOfC qual (defScope st) s.heap.objs.size f cdv)) → DSs (cxOf CX0 P w K mg base N qual (defScope st) f cdv A outer s H E).nox T W0 (defBody st) body) :
    FnOk P w K mg base CX0 (k + 1) f fd ps (spD K T ps.length (run0 N.length body)) := fn_ok0 F S body h
end
/-! ### fields -/
def fldN (f : Str) : List Str → List D → Option D
  | n :: ns, d :: ds => if n = f then some d else fldN f ns ds
  | _, _ => none
theorem fldN_zip {K : PySem.W.Frag} {H : Hp} {f : Str} : ∀ {ns : List Str} {ds : List D} {vs : List V} {d : D}, RpL K H ds vs → fldN f ns ds = some d → ∃ v, (ns.zip vs).lookup f = some v ∧ Rp K H d v
  | [], ds, vs, d, h, e => by cases ds <;> cases e
  | n :: ns, [], vs, d, h, e => by cases e
  | n :: ns, d0 :: ds, vs, d, h, e => by
    rw [RpL] at h
    obtain ⟨v, r, rfl, h2, h3⟩ := h
    unfold fldN at e
    split at e
    · rename_i hn
      cases e
      subst hn
      exact ⟨v, by simp [List.zip_cons_cons], h2⟩
    · rename_i hn
      obtain ⟨v2, g1, g2⟩ := fldN_zip h3 e
      refine ⟨v2, ?_, g2⟩
      have : (f == n) = false := by simpa using fun z => hn (Eq.symm z)
      rw [List.zip_cons_cons, List.lookup_cons, this]
      exact g1
/-- e.f -/
def fldR (f : Str) (c : Addr) : R → Option R
  | .val (.ins c' ns ds) => if c' = c then (fldN f ns ds).map .val else none
  | .val (.slf _ c' ns ds) => if c' = c then (fldN f ns ds).map .val else none
  | .brw (.ins c' ns ds) => if c' = c then (fldN f ns ds).map nrm else none
  | _ => none
def fFld (f : Str) (c : Addr) (fa : Env → O R) : Env → O R := fun es => (fa es).bind fun r => O.of (fldR f c r)
section
variable {X : Cx} {T : List Addr} {W : WX} {e : Expr} {es : List Expr} {x f : Str} {pos : Pos} {fa : Env → O R} {c : Addr}
theorem fldR_ok {K : PySem.W.Frag} {T : List Addr} {F0 H0 F1 H1 : Hp} {σ : L2.St} {es : Env} {r r' : R} {v : V} {f : Str} {c : Addr} (st1 : StOk K T F0 H0 F1 H1 σ es) (q1 : Rq K T H0 F1 H1 v r.fz) (hf : fldR f c r = some r') :
    ∃ a dx fs v', v = .ref a ∧ H1 a = some (.ins c dx fs) ∧ fs.lookup f = some v' ∧ Rr K T H0 H1 F1 H1 v' r' := by
  cases r with
  | new xs => cases hf
  | bor xs => cases hf
  | val d =>
    cases d with
    | ins c' ns ds =>
      replace hf : (if c' = c then (fldN f ns ds).map R.val else none) = some r' := hf
      split at hf
      · rename_i hcc
        subst hcc
        cases hd : fldN f ns ds with
        | none => rw [hd] at hf; cases hf
        | some d =>
          rw [hd] at hf
          cases hf
          replace q1 : Rp K F1 (.ins c' ns ds) v := q1
          rw [Rp] at q1
          obtain ⟨a, dx, vs, rfl, g1, g2, g3⟩ := q1
          obtain ⟨v, e1, e2⟩ := fldN_zip g3 hd
          exact ⟨a, dx, _, v, rfl, st1.ok.sub _ _ g1, e1, e2⟩
      · cases hf
    | slf a c' ns ds =>
      replace hf : (if c' = c then (fldN f ns ds).map R.val else none) = some r' := hf
      split at hf
      · rename_i hcc
        subst hcc
        cases hd : fldN f ns ds with
        | none => rw [hd] at hf; cases hf
        | some d =>
          rw [hd] at hf
          cases hf
          replace q1 : Rp K F1 (.slf a c' ns ds) v := q1
          rw [Rp] at q1
          obtain ⟨rfl, dx, vs, g1, g2, g3⟩ := q1
          obtain ⟨v, e1, e2⟩ := fldN_zip g3 hd
          exact ⟨a, dx, _, v, rfl, st1.ok.sub _ _ g1, e1, e2⟩
      · cases hf
    | _ => cases hf
  | brw d =>
    cases d with
    | ins c' ns ds =>
      replace hf : (if c' = c then (fldN f ns ds).map nrm else none) = some r' := hf
      split at hf
      · rename_i hcc
        subst hcc
        cases hd : fldN f ns ds with
        | none => rw [hd] at hf; cases hf
        | some d =>
          rw [hd] at hf
          cases hf
          replace q1 : Rp K H0 (.ins c' ns ds) v := q1
          rw [Rp] at q1
          obtain ⟨a, dx, vs, rfl, g1, g2, g3⟩ := q1
          obtain ⟨v, e1, e2⟩ := fldN_zip g3 hd
          have nT : a ∉ T := fun m => by
            obtain ⟨ps, z, _⟩ := st1.ok0.tab a m
            rw [z] at g1; cases g1
          exact ⟨a, dx, _, v, rfl, st1.le.h a _ nT g1, e1, rr_nrm e2⟩
      · cases hf
    | _ => cases hf
theorem de_fld (ha : DE X T W e fa) (hc : Cls X.K c) (hn : NoAttr X.K c f) (hb : attributeBase e f X.env (eval e X.env) = eval e X.env := by rfl) : DE X T W (.Attribute e f pos) (fFld f c fa) :=
  pe_weak (pe_fld ha hb) fun σ H Q ⟨F0, H0, F, es, st, h⟩ => ⟨F0, H0, F, es, st, pr_seq st h fun r v F1 H1 _ st1 l1 q1 h1 => by
    cases hf : fldR f c r with
    | none => rw [hf] at h1; exact h1.elim
    | some r' =>
      rw [hf] at h1
      obtain ⟨a, dx, fs, v', rfl, g1, g2, g3⟩ := fldR_ok st1 q1 hf
      exact ⟨a, c, dx, fs, v', rfl, g1, hc, hn, g2, h1 v' F1 H1 (Le.refl st1.ok) g3⟩⟩
end
end Fw
namespace Fw
open PySem PySem.Spec PyProof.Rows L2
/-! ### methods -/
def tMethE (C : Addr) (m : Str) (sp : Sp) (E : L2.St → XK) (ta : TE) (t : TA) : TE := fun σ H Q => ta σ H fun x H1 => ∃ a dx fs, x = .ref a ∧ H1 a = some (.ins C dx fs) ∧ fs.lookup m = none ∧ t σ H1 fun vs H2 => sp (x :: vs) H2 Q (E σ)
section
variable {X : Cx} {CX : CXT} {k : Nat} {f C : Addr} {fd : FuncData} {ps : List Str} {sp : Sp} {E : L2.St → XK} {x m : Str} {p pos apos : Pos} {e o : Expr} {es : List Expr} {ta : TE} {t : TA}
theorem pe_methE {pl : Sem Bool} (he : PE X o ta) (c : Cls X.K C) (hm : Meth X.K C m f) (F : FnOk X.prog X.w X.K X.mg X.base CX k f fd ps sp) (hr : Room k X.A) (hb : Binds X.K fd ps []) (hx : ∀ σ, PassesAt CX X σ (E σ)) (ha : PA X (e :: es) t)
    (hst : starEach (e :: es) X.env = (false, eval e X.env) :: starEach es X.env := by rfl) (hpl : (backTo pos (starEach es X.env)).any (·.1) = false := by rfl)
    (ht : eval (.Call (.Attribute o m apos) (e :: es) [] pos) X.env = (do let ov ← eval o X.env; standAt apos.atName; let (f, first) ← holding [ov] (getMethod ov m pl); callWith pos f first (backTo pos (starEach (e :: es) X.env)) (backToKw pos (keywordEach [] X.env))) := by rfl) :
    PE X (.Call (.Attribute o m apos) (e :: es) [] pos) (tMethE C m sp E ta t) := by
  refine ⟨fun pins s σ H Q I h => PySem.W.methodCall_KW (pl := pl) (thn (he.run pins s σ H _ I h) fun u s1 ⟨x, H1, I1, rx, a, dx, fs, ex, ea, l, q⟩ => ?_) ht⟩
  subst ex
  obtain rfl : u = Value.ref a := rx
  exact getmeth_ok I1 ea c hm l (PySem.W.callWith_K (first := [.ref a]) (h₀ := X.base) I.ok.mod.kin hm.kp (thn (ha.run pos pins s1 σ H1 _ I1 q) fun us s2 ⟨vs, H2, I2, r, q2⟩ => ⟨I2.kIn, run_fnS (us := .ref a :: us) (vs := .ref a :: vs) F hr hb (hx σ) I2 (.cons rfl r) q2⟩) hst hpl)
theorem pe_methE0 {pl : Sem Bool} (he : PE X o ta) (c : Cls X.K C) (hm : Meth X.K C m f) (F : FnOk X.prog X.w X.K X.mg X.base CX k f fd ps sp) (hr : Room k X.A) (hb : Binds X.K fd ps []) (hx : ∀ σ, PassesAt CX X σ (E σ))
    (ht : eval (.Call (.Attribute o m apos) [] [] pos) X.env = (do let ov ← eval o X.env; standAt apos.atName; let (f, first) ← holding [ov] (getMethod ov m pl); callWith pos f first (backTo pos (starEach [] X.env)) (backToKw pos (keywordEach [] X.env))) := by rfl) :
    PE X (.Call (.Attribute o m apos) [] [] pos) (tMethE C m sp E ta tNil) := by
  refine ⟨fun pins s σ H Q I h => PySem.W.methodCall_KW (pl := pl) (thn (he.run pins s σ H _ I h) fun u s1 ⟨x, H1, I1, rx, a, dx, fs, ex, ea, l, q⟩ => ?_) ht⟩
  subst ex
  obtain rfl : u = Value.ref a := rx
  exact getmeth_ok I1 ea c hm l (PySem.W.callWith_K0 (first := [.ref a]) I1.kIn hm.kp (run_fnS (us := [.ref a]) (vs := [.ref a]) F hr hb (hx σ) I1 (.cons rfl .nil) q))
end
/-- an instance of the class c without an own m -/
def insOf (c : Addr) (m : Str) : D → Bool
  | .ins c' ns _ => decide (c' = c) && !ns.contains m
  | _ => false
theorem insOf_ok {K : PySem.W.Frag} {H : Hp} {c : Addr} {m : Str} {d : D} {v : V} (h : insOf c m d = true) (r : Rp K H d v) : ∃ a dx fs, v = .ref a ∧ H a = some (.ins c dx fs) ∧ fs.lookup m = none := by
  cases d with
  | ins c' ns ds =>
    have h : (decide (c' = c) && !ns.contains m) = true := h
    rw [Bool.and_eq_true] at h
    have e := of_decide_eq_true h.1
    subst e
    rw [Rp] at r
    obtain ⟨a, dx, vs, rfl, h2, h3, h4⟩ := r
    refine ⟨a, dx, _, rfl, h2, ?_⟩
    have hm : m ∉ ns := by simpa using h.2
    rw [List.lookup_eq_none_iff]
    intro p hp
    have := (List.of_mem_zip hp).1
    simp
    exact fun z => hm (z ▸ this)
  | _ => cases h
def fMeth (c : Addr) (m : Str) (g : List D → O R) (fo : Env → O R) (fr : Env → O (List R)) : Env → O R := fun es => (fo es).bind fun r => if insOf c m r.dat = true then (fr es).bind (fun rs => match g (r.dat :: rs.map R.dat) with
  | .ok (.val d) => .ok (.val d)
  | .ok (.new xs) => .ok (.new xs)
  | .exc c fs => .exc c fs
  | _ => .no) else .no
section
variable {X : Cx} {T : List Addr} {W : WX} {m : Str} {pos apos : Pos} {e o : Expr} {es : List Expr} {fo : Env → O R} {fr : Env → O (List R)} {g : List D → O R} {c f : Addr} {fd : FuncData} {ps : List Str} {k n : Nat} {CX : CXT}
theorem meth_weak {σ : L2.St} {H : Hp} {Q : VK} (hn : ∀ es rs, fr es = .ok rs → rs.length + 1 = n) (h : tD X.K T W (fMeth c m g fo fr) σ H Q) : tMethE c m (spD X.K T n g) (WE W) (tD X.K T W fo) (tDA X.K T W fr) σ H Q := by
  obtain ⟨F0, H0, F, es, st, h⟩ := h
  refine ⟨F0, H0, F, es, st, pr_seq st h fun r v F1 H1 _ st1 l1 q1 h1 => ?_⟩
  split at h1
  · rename_i hi
    have rv : Rp X.K H1 r.dat v := by rw [← R.fz_dat]; exact q1.toH st1.ok st1.up
    obtain ⟨a, dx, fs, rfl, g1, g2⟩ := insOf_ok hi rv
    refine ⟨a, dx, fs, rfl, g1, g2, F0, H0, F1, es, st1, pa_seq st1 h1 fun rs vs F2 H2 hrs st2 l2 q2 h2 => ?_⟩
    refine ⟨F2, r.dat :: rs.map R.dat, ?_, st2.ok, RpL.cons (l2.rp st1.ok.tab _ rv) (q2.toH st2.ok st2.up), ?_⟩
    · rw [List.length_cons, ← q2.len]; exact hn es rs hrs
    · cases hg : g (r.dat :: rs.map R.dat) with
      | no => rw [hg] at h2; exact h2
      | exc c fs => rw [hg] at h2; exact fun cls d F' H' l q => h2 cls d F' H' l q
      | ok r =>
        rw [hg] at h2
        cases r with
        | val d => exact fun v F' H' l q => h2 v F' H' l q
        | new xs => exact fun v F' H' l q => h2 v F' H' l q
        | brw d => exact h2
        | bor xs => exact h2
  · exact h1.elim
theorem de_meth {pl : Sem Bool} (ho : DE X T W o fo) (hc : Cls X.K c) (hm : Meth X.K c m f) (F : FnOk X.prog X.w X.K X.mg X.base CX k f fd ps (spD X.K T n g)) (hr : Room k X.A) (hb : Binds X.K fd ps []) (hx : ∀ σ, PassesAt CX X σ (WE W σ)) (ha : DA X T W (e :: es) fr) (hn : ∀ es rs, fr es = .ok rs → rs.length + 1 = n)
    (hst : starEach (e :: es) X.env = (false, eval e X.env) :: starEach es X.env := by rfl) (hpl : (backTo pos (starEach es X.env)).any (·.1) = false := by rfl)
    (ht : eval (.Call (.Attribute o m apos) (e :: es) [] pos) X.env = (do let ov ← eval o X.env; standAt apos.atName; let (f, first) ← holding [ov] (getMethod ov m pl); callWith pos f first (backTo pos (starEach (e :: es) X.env)) (backToKw pos (keywordEach [] X.env))) := by rfl) :
    DE X T W (.Call (.Attribute o m apos) (e :: es) [] pos) (fMeth c m g fo fr) := pe_weak (pe_methE (pl := pl) ho hc hm F hr hb hx ha hst hpl ht) fun σ H Q h => meth_weak hn h
theorem de_meth0 {pl : Sem Bool} (ho : DE X T W o fo) (hc : Cls X.K c) (hm : Meth X.K c m f) (F : FnOk X.prog X.w X.K X.mg X.base CX k f fd ps (spD X.K T 1 g)) (hr : Room k X.A) (hb : Binds X.K fd ps []) (hx : ∀ σ, PassesAt CX X σ (WE W σ))
    (ht : eval (.Call (.Attribute o m apos) [] [] pos) X.env = (do let ov ← eval o X.env; standAt apos.atName; let (f, first) ← holding [ov] (getMethod ov m pl); callWith pos f first (backTo pos (starEach [] X.env)) (backToKw pos (keywordEach [] X.env))) := by rfl) :
    DE X T W (.Call (.Attribute o m apos) [] [] pos) (fMeth c m g fo fNil) := pe_weak (pe_methE0 (pl := pl) ho hc hm F hr hb hx ht) fun σ H Q h => by
  obtain ⟨F0, H0, F, es, st, h⟩ := meth_weak (fr := fNil) (n := 1) (fun es rs e => by cases e; rfl) h
  refine ⟨F0, H0, F, es, st, ?_⟩
  cases ho : fo es with
  | no => rw [ho] at h; exact h
  | exc c fs => rw [ho] at h; exact h
  | ok r =>
    rw [ho] at h
    intro v F' H' l q
    obtain ⟨a, dx, fs, e1, e2, e3, F1, H1, F2, es1, st1, h2⟩ := h v F' H' l q
    exact ⟨a, dx, fs, e1, e2, e3, h2 [] F2 H' (Le.refl st1.ok) rfl⟩
/-- nothing raised -/
theorem pas0 {E : L2.St → XK} (σ : L2.St) : PassesAt CX0 X σ (E σ) := fun _ _ _ _ _ _ h => h.elim
end
end Fw
namespace Fw
open PySem PySem.Spec PyProof.Rows L2
/-! ### an object in the making -/
mutual
def noIns : D → Bool
  | .lst xs => noInsL xs
  | .tup xs => noInsL xs
  | .ins _ _ _ => false
  | .slf _ _ _ _ => false
  | .exn _ ns _ => ns.isEmpty
  | _ => true
def noInsL : List D → Bool
  | [] => true
  | d :: ds => noIns d && noInsL ds
end
def noInsS : Sl → Bool
  | .val d => noIns d
  | .own xs => noInsL xs
  | .own2 xss => xss.all noInsL
  | _ => true
section
variable {K : PySem.W.Frag}
theorem Rd.swap {F F' : Hp} {x a : Addr} {o u : HO} (hx : F x = some o) (he : ∀ b, b ≠ x → F' b = F b) (n1 : o ≠ u) (n2 : ∀ ob, o ≠ .frz ob u) (h : Rd F a u) : Rd F' a u := by
  rcases h with h | ⟨ob, h⟩
  · have : a ≠ x := fun z => by rw [z, hx] at h; exact n1 (Option.some.inj h)
    exact .inl (by rw [he a this]; exact h)
  · have : a ≠ x := fun z => by rw [z, hx] at h; exact n2 ob (Option.some.inj h)
    exact .inr ⟨ob, by rw [he a this]; exact h⟩
mutual
theorem Rp.swap {F F' : Hp} {x c dx : Addr} {fs : List (Str × V)} (hx : F x = some (.ins c dx fs)) (he : ∀ b, b ≠ x → F' b = F b) : ∀ (d : D) {v : V}, noIns d = true → Rp K F d v → Rp K F' d v
  | .non, v, _, h => by simpa [Rp] using h
  | .bl b, v, _, h => by simpa [Rp] using h
  | .int i, v, _, h => by simpa [Rp] using h
  | .str s, v, _, h => by simpa [Rp] using h
  | .ty n, v, _, h => by simpa [Rp] using h
  | .cls c, v, _, h => by simpa [Rp] using h
  | .lst xs, v, n, h => by
    rw [Rp] at h ⊢
    obtain ⟨a, vs, h1, h2, h3⟩ := h
    simp only [noIns] at n
    refine ⟨a, vs, h1, ?_, RpL.swap hx he xs n h3⟩
    rcases h2 with h2 | h2
    · exact .inl (Rd.swap hx he (fun z => by cases z) (fun _ z => by cases z) h2)
    · exact .inr h2
  | .tup xs, v, n, h => by
    rw [Rp] at h ⊢
    obtain ⟨a, vs, h1, h2, h3⟩ := h
    simp only [noIns] at n
    refine ⟨a, vs, h1, ?_, RpL.swap hx he xs n h3⟩
    rcases h2 with h2 | h2
    · exact .inl (Rd.swap hx he (fun z => by cases z) (fun _ z => by cases z) h2)
    · exact .inr h2
  | .exn c ns ds, v, n, h => by
    rw [Rp] at h ⊢
    obtain ⟨a, d, h1, h2, h3⟩ := h
    have ne : a ≠ x := fun z => by rw [z, hx] at h2; cases h2
    refine ⟨a, d, h1, by rw [he a ne]; exact h2, ?_⟩
    rcases h3 with h3 | ⟨dd, vs, h0, _⟩
    · exact .inl h3
    · simp only [noIns, List.isEmpty_iff] at n
      exact absurd n h0
  | .emp, v, _, h => by
    rw [Rp] at h ⊢
    obtain ⟨a, h1, h2⟩ := h
    have ne : a ≠ x := fun z => by rw [z, hx] at h2; cases h2
    exact ⟨a, h1, by rw [he a ne]; exact h2⟩
  | .ins _ _ _, v, n, _ => by simp [noIns] at n
  | .slf _ _ _ _, v, n, _ => by simp [noIns] at n
theorem RpL.swap {F F' : Hp} {x c dx : Addr} {fs : List (Str × V)} (hx : F x = some (.ins c dx fs)) (he : ∀ b, b ≠ x → F' b = F b) : ∀ (ds : List D) {vs : List V}, noInsL ds = true → RpL K F ds vs → RpL K F' ds vs
  | [], vs, _, h => by simpa [RpL] using h
  | d :: ds, vs, n, h => by
    rw [RpL] at h ⊢
    rw [noInsL, Bool.and_eq_true] at n
    obtain ⟨v, r, h1, h2, h3⟩ := h
    exact ⟨v, r, h1, Rp.swap hx he d n.1 h2, RpL.swap hx he ds n.2 h3⟩
end
theorem putF_end (f : Str) (y : V) : ∀ (ns : List Str) (vs : List V), ns.length = vs.length → f ∉ ns → putF f y (ns.zip vs) = (ns ++ [f]).zip (vs ++ [y])
  | [], [], _, _ => rfl
  | n :: ns, v :: vs, h, hn => by
    have hne : n ≠ f := fun z => hn (by simp [z])
    have ih := putF_end f y ns vs (by simpa using h) (fun z => hn (by simp [z]))
    simp only [List.zip_cons_cons, List.cons_append, putF, if_neg hne, ih]
end
/-! statements of an __init__: the object at x grows -/
section
variable (K : PySem.W.Frag) (T : List Addr) (W : WX) (F0 H0 : Hp)
def OutB (D : Ends) : Out → Prop
  | .nx es => ∀ σ F H, StOk K T F0 H0 F H σ es → D.nx σ H
  | .exc es c fs => ∀ cls d σ F H, StOk K T F0 H0 F H σ es → XOk K H c fs cls d → W cls d σ H
  | _ => False
def tB (x : Addr) (g : Env → Out) : TS := fun D σ H => H0 x = none ∧ x ∉ T ∧ ∃ F es, StOk K T F0 H0 F H σ es ∧ OutB K T W F0 H0 D (g es)
end
def DB (X : Cx) (T : List Addr) (W : WX) (x : Addr) (st : Stmt) (g : Env → Out) : Prop := ∀ F0 H0, PS X st (tB X.K T W F0 H0 x g)
def DBs (X : Cx) (T : List Addr) (W : WX) (x : Addr) (st : List Stmt) (g : Env → Out) : Prop := ∀ F0 H0, PSs X st (tB X.K T W F0 H0 x g)
def gFld (x c : Addr) (f : Str) (fv : Env → O R) : Env → Out := fun es => (fv es).out es fun r => match (es[0]? : Option Sl), r.fz.sto with
  | some (Sl.val (D.slf a c' ns ds)), some d => if a = x ∧ c' = c ∧ f ∉ ns ∧ ns.length < 900 ∧ noIns d = true ∧ noInsL ds = true ∧ es.tail.all noInsS = true then .nx (es.set 0 (.val (.slf a c' (ns ++ [f]) (ds ++ [d])))) else .no
  | _, _ => .no
section
variable {X : Cx} {T : List Addr} {W : WX} {x : Addr} {st : Stmt} {rest : List Stmt} {g h : Env → Out}
theorem db_of (hd : DS X T W st g) (hg : ∀ es r, g es ≠ .rt r) : DB X T W x st g := fun F0 H0 => ps_weak (hd F0 H0) fun D σ H ⟨_, _, F, es, st, q⟩ => by
  refine ⟨F, es, st, ?_⟩
  cases ho : g es with
  | nx e2 => rw [ho] at q; exact fun σ F H _ s => q σ F H s
  | exc e2 c fs => rw [ho] at q; exact fun cls d σ F H _ s => q cls d σ F H s
  | rt r => exact absurd ho (hg es r)
  | br e2 => rw [ho] at q; exact q.elim
  | ct e2 => rw [ho] at q; exact q.elim
  | no => rw [ho] at q; exact q.elim
theorem dbs_nil : DBs X T W x [] gNext := fun F0 H0 => pss_weak pss_nil fun D σ H ⟨_, _, F, es, st, q⟩ => q σ F H st
theorem dbs_cons (h1 : DB X T W x st g) (h2 : DBs X T W x rest h) : DBs X T W x (st :: rest) (gSeq g h) := fun F0 H0 => pss_weak (pss_cons (h1 F0 H0) (h2 F0 H0)) fun D σ H ⟨a, b, F, es, st, q⟩ => by
  refine ⟨a, b, F, es, st, ?_⟩
  unfold gSeq at q
  cases ho : g es with
  | nx e2 => rw [ho] at q; exact fun σ F H s => ⟨a, b, F, e2, s, q⟩
  | exc e2 c fs => rw [ho] at q; exact q
  | rt r => rw [ho] at q; exact q.elim
  | br e2 => rw [ho] at q; exact q.elim
  | ct e2 => rw [ho] at q; exact q.elim
  | no => rw [ho] at q; exact q.elim
theorem dbs_one (h1 : DB X T W x st g) : DBs X T W x [st] g := fun F0 H0 => pss_one (h1 F0 H0)
/-- the object grows -/
theorem StOk.fld {K : PySem.W.Frag} {F0 H0 F H : Hp} {σ : L2.St} {es : Env} {c dx : Addr} {ns : List Str} {ds : List D} {vs : List V} {d : D} {y : V} {f : Str} (st : StOk K T F0 H0 F H σ es) (h0 : H0 x = none) (hT : x ∉ T) (he : es[0]? = some (.val (.slf x c ns ds)))
    (hx : F x = some (.ins c dx (ns.zip vs))) (hl : ns.length = ds.length) (r : RpL K F ds vs) (rd : Rp K F d y) (hf : f ∉ ns) (n1 : noIns d = true) (n2 : noInsL ds = true) (n3 : es.tail.all noInsS = true) :
    StOk K T F0 H0 (upd F x (.ins c dx (putF f y (ns.zip vs)))) (upd H x (.ins c dx (putF f y (ns.zip vs)))) σ (es.set 0 (.val (.slf x c (ns ++ [f]) (ds ++ [d])))) := by
  have f0 : F0 x = none := st.ok0.nf h0
  have at_ : ∀ b, b ≠ x → upd F x (.ins c dx (putF f y (ns.zip vs))) b = F b := fun b hb => upd_ne hb
  have pz : putF f y (ns.zip vs) = (ns ++ [f]).zip (vs ++ [y]) := putF_end f y ns vs (hl.trans r.len) hf
  have hlen : σ.length = es.length := st.env.len
  have low : ∀ j s, es[j + 1]? = some s → noInsS s = true := fun j s hs => by
    refine List.all_eq_true.mp n3 s (List.mem_iff_getElem?.mpr ⟨j, ?_⟩)
    rw [List.getElem?_tail]; exact hs
  refine ⟨st.ok0, ⟨fun b o e => ?_, fun b o hb e => ?_, fun b e n => ?_, ⟨fun b o e => ?_, fun P hP => ?_, fun P hP => ?_⟩⟩, ⟨by simp [hlen], fun j e hj => ?_, fun j e hj => ?_, fun j xs hj => ?_, fun i j xs ys p h1 h2 h3 h4 => ?_, fun j xss hj => ?_⟩⟩
  · rw [at_ b (fun z => by rw [z, f0] at e; cases e)]; exact st.le.f b o e
  · rw [upd_ne (fun z => by rw [z, h0] at e; cases e)]; exact st.le.h b o hb e
  · rw [at_ b (fun z => n (by rw [z]; exact h0))]; exact st.le.n b e n
  · by_cases hb : b = x
    · subst hb
      rw [upd_same] at e ⊢
      exact e
    · rw [upd_ne hb] at e ⊢
      exact st.ok.sub b o e
  · have ne : P ≠ x := fun z => hT (z ▸ hP)
    obtain ⟨ps, q1, q2⟩ := st.ok.tab P hP
    exact ⟨ps, by rw [upd_ne ne]; exact q1, q2⟩
  · have ne : P ≠ x := fun z => hT (z ▸ hP)
    rw [at_ P ne]; exact st.ok.ntab P hP
  · cases j with
    | zero =>
      have hlt : 0 < es.length := (List.getElem?_eq_some_iff.mp he).1
      have ej : e = .slf x c (ns ++ [f]) (ds ++ [d]) := by
        rw [List.getElem?_set_self hlt] at hj
        cases hj; rfl
      subst ej
      obtain ⟨v, s1, s2⟩ := st.env.val 0 _ he
      rw [Rp] at s2
      refine ⟨v, s1, ?_⟩
      rw [Rp]
      exact ⟨s2.1, dx, vs ++ [y], by rw [upd_same, pz], by simp [hl], (r.swap hx at_ ds n2).app (RpL.cons (Rp.swap hx at_ d n1 rd) RpL.nil)⟩
    | succ j =>
      rw [List.getElem?_set_ne (by omega)] at hj
      obtain ⟨v, s1, s2⟩ := st.env.val (j + 1) e hj
      exact ⟨v, s1, Rp.swap hx at_ e (low j _ hj) s2⟩
  · cases j with
    | zero =>
      have hlt : 0 < es.length := (List.getElem?_eq_some_iff.mp he).1
      rw [List.getElem?_set_self hlt] at hj
      cases hj
    | succ j =>
      rw [List.getElem?_set_ne (by omega)] at hj
      exact st.env.brw (j + 1) e hj
  · cases j with
    | zero =>
      have hlt : 0 < es.length := (List.getElem?_eq_some_iff.mp he).1
      rw [List.getElem?_set_self hlt] at hj
      cases hj
    | succ j =>
      rw [List.getElem?_set_ne (by omega)] at hj
      obtain ⟨p, vs', q1, q2, q3, q4, q5, q6⟩ := st.env.own (j + 1) xs hj
      have ne : p ≠ x := fun z => by rw [z, hx] at q3; cases q3
      exact ⟨p, vs', q1, q2, by rw [at_ p ne]; exact q3, q4, by rw [upd_ne ne]; exact q5, RpL.swap hx at_ xs (low j _ hj) q6⟩
  · have z : ∀ {i : Nat} {xs : List D}, (es.set 0 (.val (.slf x c (ns ++ [f]) (ds ++ [d]))))[i]? = some (.own xs) → es[i]? = some (.own xs) := fun {i xs} h => by
      rcases get_set h with ⟨e, e2⟩ | ⟨e, e2⟩
      · cases e2
      · exact e2
    exact st.env.uni i j xs ys p (z h1) (z h2) h3 h4
  · rcases get_set hj with ⟨e, e2⟩ | ⟨e, e2⟩
    · cases e2
    · obtain ⟨p, ps, g1, ⟨k1, k2, k3, k4, k5, k6, k7, k8⟩, g3, g4⟩ := st.env.two j xss e2
      have ne : ∀ {q : Addr}, F q = none → q ≠ x := fun {q} h z => by rw [z, hx] at h; cases h
      have lo : xss.all noInsL = true := by
        cases j with
        | zero => exact absurd rfl e
        | succ j => exact low j _ e2
      refine ⟨p, ps, g1, ⟨k1, by rw [at_ p (ne k2)]; exact k2, k3, by rw [upd_ne (ne k2)]; exact k4, k5, k6, k7, fun m q hm => ?_⟩, fun m zs q hm hq => ?_, fun m zss hm => ?_⟩
      · obtain ⟨f1, f2, f3, us, zs, f4, f5, f6⟩ := k8 m q hm
        exact ⟨f1, by rw [at_ q (ne f2)]; exact f2, f3, us, zs, f4, by rw [upd_ne (ne f2)]; exact f5, RpL.swap hx at_ zs (List.all_eq_true.mp lo zs (List.mem_iff_getElem?.mpr ⟨m, f4⟩)) f6⟩
      · rcases get_set hm with ⟨f, f2⟩ | ⟨_, f2⟩
        · cases f2
        · exact g3 m zs q f2 hq
      · rcases get_set hm with ⟨f, f2⟩ | ⟨_, f2⟩
        · cases f2
        · exact g4 m zss f2
end
end Fw
namespace Fw
open PySem PySem.Spec PyProof.Rows L2
section
variable {X : Cx} {T : List Addr} {W : WX} {x c : Addr} {st : Stmt} {rest : List Stmt} {g h : Env → Out} {f n0 : Str} {value : Expr} {fv : Env → O R} {pos pos' p : Pos}
theorem db_fld (hv : DE X T W value fv) (hc : Cls X.K c) (hn : NoAttr X.K c f) (h0 : DE X T W (.Name n0 p) (fVar 0)) (hs : swapsWith value (some (.Attribute (.Name n0 p) f pos')) pos.line X.env = pure false := by rfl) :
    DB X T W x (.Assign [.Attribute (.Name n0 p) f pos'] value pos) (gFld x c f fv) := fun F0 H0 => ps_weak (ps_fld h0 hv hs) fun D σ H ⟨z0, zT, F, es, st, q⟩ => by
  refine ⟨F0, H0, F, es, st, ?_⟩
  unfold gFld at q
  cases ho : fv es with
  | no => rw [ho] at q; exact q.elim
  | exc c' fs => rw [ho] at q; exact fun cls d F1 H1 l xo => q cls d σ F1 H1 (st.step l) xo
  | ok r =>
    rw [ho] at q
    intro v F1 H1 l q1
    obtain ⟨F2, l2, s12, q2⟩ := q1.fz l
    have st2 := st.step l2
    simp only [O.out_ok] at q
    split at q
    · rename_i a c' ns ds d he hd
      split at q
      · rename_i hh
        obtain ⟨rfl, rfl, hf, hlen, n1, n2, n3⟩ := hh
        have rd : Rp X.K F2 d v := q2.sto hd
        have hvar : fVar 0 es = .ok (.val (.slf a c' ns ds)) := by unfold fVar; rw [he]
        refine ⟨F0, H0, F2, es, st2, ?_⟩
        rw [hvar]
        intro v3 F3 H3 l3 q3
        rw [Rr, Rp] at q3
        obtain ⟨rfl, dx, vs, g1, g2, g3⟩ := q3
        have st3 := st2.step l3
        have rd3 : Rp X.K F3 d v := rd.mono l3.f
        refine ⟨a, c', dx, _, rfl, st3.ok.sub _ _ g1, hc, hn, ?_, ?_⟩
        · have : (ns.zip vs).length ≤ ns.length := by rw [List.length_zip]; exact Nat.min_le_left _ _
          omega
        · exact q σ _ _ (StOk.fld st3 z0 zT he g1 g2 g3 rd3 hf n1 n2 n3)
      · exact q.elim
    · exact q.elim
/-! ### the maker -/
def startI (x c : Addr) (n : Nat) (ds : List D) : Env := (startE n (.cls x :: ds)).set 0 (.val (.slf x c [] []))
def endI (x : Addr) (es : Env) : O R := match (es[0]? : Option Sl) with
  | some (Sl.val (D.slf a c' ns ds')) => if a = x then .ok (.val (.ins c' ns ds')) else .no
  | _ => .no
theorem endI_ok {es : Env} {r : R} (h : endI x es = .ok r) : ∃ c' ns ds', es[0]? = some (.val (.slf x c' ns ds')) ∧ r = .val (.ins c' ns ds') := by
  unfold endI at h
  split at h
  · rename_i a c' ns ds' he
    split at h
    · rename_i ha
      subst ha
      cases h
      exact ⟨c', ns, ds', he, rfl⟩
    · cases h
  · cases h
theorem endI_exc {es : Env} {c : Addr} {fs : Option (List Str × List D)} (h : endI x es = .exc c fs) : False := by
  unfold endI at h
  split at h
  · split at h <;> cases h
  · cases h
def runI (c : Addr) (n : Nat) (body : Addr → Env → Out) (x : Addr) (ds : List D) : O R := match body x (startI x c n ds) with
  | .nx es => endI x es
  | .exc _ c' fs => .exc c' fs
  | _ => .no
end
def spI (K : PySem.W.Frag) (T : List Addr) (n : Nat) (c : Addr) (g : Addr → List D → O R) : Sp := fun vs H Q E => ∃ F ds H1 dx x args, vs = .ref x :: args ∧ vs.length = n ∧ H = upd (upd H1 dx (.own x)) x (.ins c dx []) ∧ H1 x = none ∧ H1 dx = none ∧ dx ≠ x ∧ Ok T F H1 ∧ RpL K H1 ds args ∧ match g x ds with
  | .ok (.val d) => ∀ F' H', Le T F H1 F' H' → Rp K F' d (.ref x) → Q .non H'
  | .exc c fs => ∀ cls d F' H', Le T F H1 F' H' → XOk K H' c fs cls d → E cls d H'
  | _ => False
section
variable {P : Program} {w : World} {K : PySem.W.Frag} {mg : Str → Option Value} {base : Heap} {T : List Addr}
theorem fn_okI {x qual : Str} {st : Stmt} {f c : Addr} {fd : FuncData} {N ps : List Str} {k : Nat} {dvs : List V} (F : FunD K x qual (defArgs st) (defBody st) (defScope st) dvs [] f fd) (S : FnScope N ps (defScope st)) (body : Addr → Env → Out) (hps : 0 < ps.length)
    (h : ∀ (y : Addr) (cdv : Value) (A : Around) (outer : List PySem.Env) (s : Shared) (H : Hp) (E : XK), Room k (A.deeper (envOfC qual (defScope st) s.heap.objs.size f cdv)) → DBs (cxOf (L2.CX P w) P w K mg base N qual (defScope st) f cdv A outer s H E) T (fun cls d _ H => E cls d H) y (defBody st) (body y)) :
    FnOk P w K mg base (L2.CX P w) (k + 1) f fd ps (spI K T ps.length c (runI c N.length body)) := by
  refine F.ok (CX := L2.CX P w) S (fun vs H Q E h => by obtain ⟨_, _, _, _, _, _, _, hl, _⟩ := h; exact hl) (fun cdv A outer s H vs Q E hr hsp => ?_)
  obtain ⟨F, ds, H1, dx, x, args, rfl, hl, rfl, hx, hdx, hne, ok, r, q⟩ := hsp
  have st0 : StOk K T F H1 F H1 (L2.start N (.ref x :: args)) (startE N.length (.cls x :: ds)) := start_ok (N := N) ok (RpL.cons (by rw [Rp]) r)
  have l1 : Le T F H1 F (upd H1 dx (.own x)) := Le.newH ok hdx
  have hx1 : (upd H1 dx (.own x)) x = none := by rw [upd_ne (Ne.symm hne)]; exact hx
  have l2 := Le.new l1.ok (o := .ins c dx []) hx1
  have st1 := st0.step (l1.trans l2)
  have rp : Rp K (upd F x (.ins c dx [])) (.slf x c [] []) (.ref x) := by
    rw [Rp]; exact ⟨rfl, dx, [], upd_same, rfl, RpL.nil⟩
  have st2 := StOk.set (i := 0) (v := .ref x) (s := .val (.slf x c [] [])) st1 rp
  have e0 : (L2.start N (.ref x :: args)).set 0 (some (.ref x)) = L2.start N (.ref x :: args) := rfl
  rw [e0] at st2
  refine ⟨_, h x cdv A outer s _ E hr F H1, hx, ok.nt hx, _, _, st2, ?_⟩
  unfold runI at q
  cases hb : body x (startI x c N.length ds) with
  | no => rw [hb] at q; exact q.elim
  | rt r => rw [hb] at q; exact q.elim
  | br es => rw [hb] at q; exact q.elim
  | ct es => rw [hb] at q; exact q.elim
  | exc es c' fs =>
    rw [hb] at q
    have hb' : body x ((startE N.length (.cls x :: ds)).set 0 (.val (.slf x c [] []))) = .exc es c' fs := hb
    rw [hb']
    exact fun cls d σ F' H' s xo => q cls d F' H' s.le xo
  | nx es =>
    rw [hb] at q
    have hb' : body x ((startE N.length (.cls x :: ds)).set 0 (.val (.slf x c [] []))) = .nx es := hb
    rw [hb']
    intro σ F' H' s
    simp only at q
    cases hE : endI x es with
    | no => rw [hE] at q; exact q.elim
    | exc c fs => exact (endI_exc hE).elim
    | ok r =>
      rw [hE] at q
      obtain ⟨c', ns, ds', he, rfl⟩ := endI_ok hE
      obtain ⟨v, s1, s2⟩ := s.env.val 0 _ he
      rw [Rp] at s2
      obtain ⟨rfl, dx', vs, g1, g2, g3⟩ := s2
      exact q F' H' s.le (by rw [Rp]; exact ⟨x, dx', vs, rfl, g1, g2, g3⟩)
end
/-! a call of the class -/
def fMake (mk : List D → O R) (dv : List D) (fr : Env → O (List R)) : Env → O R := fun es => (fr es).bind fun rs => match mk (rs.map R.dat ++ dv) with
  | .ok (.val d) => .ok (.val d)
  | .exc c fs => .exc c fs
  | _ => .no
def tMakeE (C : Addr) (sp : Sp) (dvs : List V) (E : L2.St → XK) (t : TA) : TE := fun σ H Q => t σ H fun vs H1 => ∀ x dx, H1 x = none → H1 dx = none → dx ≠ x → sp (.ref x :: (vs ++ dvs)) (upd (upd H1 dx (.own x)) x (.ins C dx [])) (fun v H2 => v = .non ∧ Q (.ref x) H2) (E σ)
section
variable {X : Cx} {CX : CXT} {k : Nat} {f C : Addr} {fd : FuncData} {ps : List Str} {sp : Sp} {E : L2.St → XK} {x : Str} {p pos : Pos} {e : Expr} {es : List Expr} {t : TA} {dvs : List V} {ds : List Value}
theorem pe_makeE (M : Mk X.K C f) (F : FnOk X.prog X.w X.K X.mg X.base CX k f fd ps sp) (hr : Room (k + 1) X.A) (hm : X.mg x = some (.ref C)) (hb : Binds X.K fd ps ds) (hd : Vals dvs ds) (hx : ∀ σ, PassesAt CX X σ (E σ)) (ha : PA X (e :: es) t) (hg : Gl X x := by rfl)
    (hdb : (x == ("__debug__" : Str)) = false := by decide) (he : starEach (e :: es) X.env = (false, eval e X.env) :: starEach es X.env := by rfl) (hpl : (backTo pos (starEach es X.env)).any (·.1) = false := by rfl) : PE X (.Call (.Name x p) (e :: es) [] pos) (tMakeE C sp dvs E t) := by
  refine ⟨fun pins s σ H Q I h => wpAny_Call_Name_kw (ld_glob I hg hm (PySem.W.callWith_K (h₀ := X.base) I.ok.mod.kin M.kp (thn (ha.run pos pins s σ H _ I h) fun us s1 ⟨vs, H1, I1, r, q⟩ => ⟨I1.kIn, ?_⟩) he hpl) hdb)⟩
  have q0 := q (s1.heap.objs.size + 1) s1.heap.objs.size (I1.hok.fresh (Nat.le_succ _)) (I1.hok.fresh (Nat.le_refl _)) (Nat.ne_of_lt (Nat.lt_succ_self _))
  have I2 := Inv.made (C := C) I1
  have r2 : Vals (V.ref (s1.heap.objs.size + 1) :: (vs ++ dvs)) (Value.ref (s1.heap.objs.size + 1) :: (us ++ ds)) := .cons rfl (r.append hd)
  have hl : (Value.ref (s1.heap.objs.size + 1) :: us ++ ds).length = ps.length := by
    have z := r2.length
    rw [F.len _ _ _ _ q0] at z
    exact z.symm
  refine wpAny_call (make_map (f := f) I1.kIn M.makes M.init (beq_iff_eq.mp M.fn) (codeAny_mono (F.run _ X.stack _ _ ⟨Value.ref (s1.heap.objs.size + 1) :: us, []⟩ (Value.ref (s1.heap.objs.size + 1) :: (us ++ ds)) _ _ (E σ) (hr.make C us [])
    (I2.env0.make C us []) (hb _ (Value.ref (s1.heap.objs.size + 1) :: us) I2.kIn hl) r2 q0) fun r s' h2 => ?_))
  cases r with
  | error er => exact hx σ pins _ _ er s' I2 h2
  | ok fl =>
    cases fl with
    | ret u =>
      obtain ⟨v, H', I3, rv, ev, q3⟩ := I2.after h2
      subst ev
      exact ⟨rv, ⟨V.ref (s1.heap.objs.size + 1), H', I3, rfl, q3⟩⟩
    | next => exact False.elim h2
    | brk => exact False.elim h2
    | cont => exact False.elim h2
end
section
variable {X : Cx} {T : List Addr} {W : WX} {k n : Nat} {f C : Addr} {fd : FuncData} {ps : List Str} {x : Str} {p pos : Pos} {e : Expr} {es : List Expr} {fr : Env → O (List R)} {dv : List D} {dvs : List V} {vds : List Value} {g : Addr → List D → O R} {mk : List D → O R}
theorem de_make (M : Mk X.K C f) (F : FnOk X.prog X.w X.K X.mg X.base (L2.CX X.prog X.w) k f fd ps (spI X.K T n C g)) (hmk : ∀ ds, mk ds ≠ .no → ∀ y, g y ds = mk ds) (tk : Takes X W) (hr : Room (k + 1) X.A) (hm : X.mg x = some (.ref C)) (hb : Binds X.K fd ps vds) (hd : Vals dvs vds) (hdv : ∀ H, RpL X.K H dv dvs)
    (ha : DA X T W (e :: es) fr) (hn : ∀ es rs, fr es = .ok rs → rs.length + dv.length + 1 = n) (hg : Gl X x := by rfl)
    (hdb : (x == ("__debug__" : Str)) = false := by decide) (he : starEach (e :: es) X.env = (false, eval e X.env) :: starEach es X.env := by rfl) (hpl : (backTo pos (starEach es X.env)).any (·.1) = false := by rfl) : DE X T W (.Call (.Name x p) (e :: es) [] pos) (fMake mk dv fr) :=
  pe_weak (pe_makeE M F hr hm hb hd (E := WE W) (fun σ => passAt tk σ) ha hg hdb he hpl) fun σ H Q ⟨F0, H0, F, es, st, h⟩ => by
    refine ⟨F0, H0, F, es, st, pa_seq st h fun rs vs F1 H1 hrs st1 l1 q1 h1 => fun y dy hy hdy hne => ?_⟩
    have ra := (q1.toH st1.ok st1.up).app (hdv H1)
    have len : vs.length = rs.length := q1.len.symm
    have nn : mk (rs.map R.dat ++ dv) ≠ .no := fun z => by rw [z] at h1; exact h1.elim
    have lv : dvs.length = dv.length := (hdv H1).len.symm
    refine ⟨F1, rs.map R.dat ++ dv, H1, dy, y, vs ++ dvs, rfl, ?_, rfl, hy, hdy, hne, st1.ok, ra, ?_⟩
    · rw [List.length_cons, List.length_append, len, lv]
      exact hn es rs hrs
    · rw [hmk _ nn y]
      cases hg : mk (rs.map R.dat ++ dv) with
      | no => exact absurd hg nn
      | exc c fs => rw [hg] at h1; exact fun cls d F' H' l xo => h1 cls d F' H' l xo
      | ok r =>
        rw [hg] at h1
        cases r with
        | val d => exact fun F' H' l rp => ⟨rfl, h1 (.ref y) F' H' l rp⟩
        | _ => exact h1.elim
end
end Fw
namespace Fw
open PySem PySem.Spec PyProof.Rows L2
section
variable {X : Cx} {T : List Addr} {W : WX} {a b c e : Expr} {es : List Expr} {fa fb fc : Env → O R} {pos p p2 q : Pos}
/-! ### a < b < c -/
def fChain (d1 d2 : R → R → Option R) (fa fb fc : Env → O R) : Env → O R := fun es => (fa es).bind fun x => (fb es).bind fun y => match d1 x.fz y.fz with
  | some (.val (.bl true)) => (fc es).bind fun z => O.of (d2 y.fz z.fz)
  | some (.val (.bl false)) => .ok (.val (.bl false))
  | _ => .no
theorem chain_weak {K : PySem.W.Frag} {r1 r2 : R2} {d1 d2 : R → R → Option R} (h1 : OpD K T r1 d1) (h2 : OpD K T r2 d2) {σ : L2.St} {H : Hp} {Q : VK} (h : tD K T W (fChain d1 d2 fa fb fc) σ H Q) : tChain r1 r2 (tD K T W fa) (tD K T W fb) (tD K T W fc) σ H Q := by
  obtain ⟨F0, H0, F, es, st, h⟩ := h
  refine ⟨F0, H0, F, es, st, pr_seq st h fun x vx F1 H1 _ st1 l1 q1 g1 => ?_⟩
  refine ⟨F0, H0, F1, es, st1, pr_seq st1 g1 fun y vy F2 H2 _ st2 l2 q2 g2 => ?_⟩
  cases hd : d1 x.fz y.fz with
  | none => rw [hd] at g2; exact g2.elim
  | some r =>
    rw [hd] at g2
    refine h1 H0 F2 H2 vx vy _ _ r _ st2.ok st2.up (q1.step l2) q2 hd fun v F3 H3 l3 q3 => ?_
    split at g2
    · rename_i e1
      cases e1
      rw [Rr, Rp] at q3
      refine ⟨true, q3, ?_⟩
      rw [if_pos rfl]
      have st3 := st2.step l3
      refine ⟨F0, H0, F3, es, st3, pr_seq st3 (PO.step g2 l3 fun _ _ _ _ => Rr.back l3) fun z vz F4 H4 _ st4 l4 q4 g4 => ?_⟩
      cases hd2 : d2 y.fz z.fz with
      | none => rw [hd2] at g4; exact g4.elim
      | some r' =>
        rw [hd2] at g4
        exact h2 H0 F4 H4 vy vz _ _ r' Q st4.ok st4.up ((q2.step l3).step l4) q4 hd2 g4
    · rename_i e1
      cases e1
      rw [Rr, Rp] at q3
      refine ⟨false, q3, ?_⟩
      rw [if_neg Bool.false_ne_true]
      exact g2 (.bl false) F3 H3 l3 (by rw [Rr, Rp])
    · exact g2.elim
theorem de_chain {op op' : CmpOp} {r r' : R2} {d1 d2 : R → R → Option R} (ho : OpR X (compareOp op) r) (h1 : OpD X.K T r d1) (ho' : OpR X (compareOp op') r') (h2 : OpD X.K T r' d2) (ha : DE X T W a fa) (hb : DE X T W b fb) (hc : DE X T W c fc)
    (hm : lastMarks [op, op'] [b, c] = false := by with_unfolding_all rfl) : DE X T W (.Compare a [op, op'] [b, c] pos) (fChain d1 d2 fa fb fc) := pe_weak (pe_chain ho ho' ha hb hc hm) fun σ H Q h => chain_weak h1 h2 h
/-! ### len(set(..)) of numbers -/
def difN (ns : List Int) : Nat := (PyProof.Rows.firstMet (fun i => ns.getD i 0) ns.length).length
theorem pe_lenSetG {ta : TE} (hg : Gl X "len") (hm : X.mg "len" = none) (hg2 : Gl X "set") (hm2 : X.mg "set" = none) (ha : PE X a ta) (hc : X.calm = true) (na : starEach [a] X.env = (false, eval a X.env) :: starEach [] X.env) :
    PE X (.Call (.Name "len" p) [.Call (.Name "set" p2) [a] [] q] [] pos) (fun σ H Q => ta σ H fun x H1 => ∃ (l : Addr) (ns : List Int), x = .ref l ∧ SqL X.K H1 l (ns.map V.int) ∧ ns.length ≤ 4000 ∧ Q (.int (difN ns : Nat)) H1) := by
  refine ⟨fun pins s σ H Q I h => ?_⟩
  refine Call_ (ld_blt I hg hm boot_len (PyProof.Rows.callWith_builtin1 (PyProof.Rows.args_cons ?_ rfl) rfl rfl))
  refine Call_ (ld_blt I hg2 hm2 boot_set (PyProof.Rows.callWith_type1 (PyProof.Rows.args_cons (thn (ha.run pins s σ H _ I h) fun v s1 ⟨x, H1, I1, r1, q1⟩ => PyProof.Rows.args_nil ?_) na) na rfl))
  obtain ⟨l, ns, rfl, hq, hl, q1⟩ := q1
  cases r1
  obtain ⟨its, r, pl, hz⟩ := I1.list hq
  have zl : its.toArray.size = ns.length := by rw [List.size_toArray, ← r.length, List.length_map]
  refine call_set_list (I1.ok.hd hc) pl.isList (by simpa using RZ.intsAre_vals r) (by rw [zl]; unfold scanBound; omega) fun h' tk hS hk => PyProof.Rows.args_nil ?_
  rw [zl] at hS
  obtain ⟨o, es, ep, t, ho, hex, hd, _, _, _, hf, hn⟩ := hS
  have le := PyProof.Rows.firstMet_length_le (fun i => ns.getD i 0) ns.length
  have I2 : Inv X pins σ H1 { s1 with heap := h', toks := tk } := I1.kept fun b o e => hk b o (Heap.lt_size e) e
  exact call_len_set ho hex hd hf (by rw [hn] <;> omega) ⟨.int (difN ns : Nat), H1, I2.tok _, ⟨_, by rw [hn] <;> rfl⟩, q1⟩
def lenSetR (r : R) : Option R := match r.itmL with
  | some xs => match intsOf xs with
    | some ns => if ns.length ≤ 4000 then some (.val (.int (difN ns : Nat))) else none
    | none => none
  | none => none
def fLenSet (fa : Env → O R) : Env → O R := fun es => (fa es).bind fun r => O.of (lenSetR r.fz)
theorem de_lenSet (hm : X.mg "len" = none) (hm2 : X.mg "set" = none) (ha : DE X T W a fa) (hg : Gl X "len" := by rfl) (hg2 : Gl X "set" := by rfl) (hc : X.calm = true := by rfl) (na : starEach [a] X.env = (false, eval a X.env) :: starEach [] X.env := by rfl) :
    DE X T W (.Call (.Name "len" p) [.Call (.Name "set" p2) [a] [] q] [] pos) (fLenSet fa) := pe_weak (pe_lenSetG hg hm hg2 hm2 ha hc na) fun σ H Q ⟨F0, H0, F, es, st, h⟩ => by
  refine ⟨F0, H0, F, es, st, pr_seq st h fun r v F1 H1 _ st1 l1 q1 h1 => ?_⟩
  unfold lenSetR at h1
  cases hi : r.fz.itmL with
  | none => rw [hi] at h1; exact h1.elim
  | some xs =>
    rw [hi] at h1
    simp only at h1
    cases hn : intsOf xs with
    | none => rw [hn] at h1; exact h1.elim
    | some ns =>
      rw [hn] at h1
      simp only at h1
      split at h1
      · rename_i hl
        obtain ⟨l, vs, rfl, s1, r1⟩ := q1.itmL st1.ok st1.up hi
        have ev := ints_rp r1 hn
        subst ev
        exact ⟨l, ns, rfl, s1, hl, h1 _ F1 H1 (Le.refl st1.ok) (by rw [Rr, Rp])⟩
      · exact h1.elim
/-! ### tuple(..), {}, ** -/
def dTupOf : List R → Option R
  | [r] => r.itmL.map fun xs => .val (.tup xs)
  | _ => none
theorem cd_tupOf {K : PySem.W.Frag} : CallD K T (fun xs H Q => ∃ p ys, xs = [.ref p] ∧ ((SqL K H p ys ∧ ∀ l, H l = none → Q (.ref l) (upd H l (.tup ys))) ∨ (SqT K H p ys ∧ Q (.ref p) H))) dTupOf := fun H0 F H vs rs c Q ok up q h k => by
  unfold dTupOf at h
  split at h
  · rename_i r
    cases hi : r.itmL with
    | none => rw [hi] at h; cases h
    | some xs =>
      rw [hi] at h
      cases h
      obtain ⟨v, rfl, q1⟩ := rql1 q
      obtain ⟨p, us, rfl, s1, r1⟩ := q1.itmL ok up hi
      exact ⟨p, us, rfl, Or.inl ⟨s1, fun l hl => k _ _ _ (Le.new ok hl) (rp_tup (ok.nf hl) r1)⟩⟩
  · cases h
theorem de_dict0 : DE X T W (.Dict [] [] pos) (fC .emp) := pe_weak pe_dnewK fun σ H Q ⟨F0, H0, F, es, st, q⟩ => fun p hp => q (.ref p) _ _ (Le.new st.ok hp) (by
  rw [Rr, Rp]; exact ⟨p, rfl, upd_same⟩)
def dPow := i2 shlC fun i j => .int (i ^ j.toNat)
theorem od_pow {K : PySem.W.Frag} : OpD K T (rI CPow fun i j => .int (i ^ j.toNat)) dPow := opd_I (fun i j h => by first | exact of_decide_eq_true h | (simpa [shlC, CPow] using h)) fun _ _ _ => by rw [Rp]
end
end Fw
namespace Fw
open PySem PySem.Spec PyProof.Rows L2
/-- nothing is handed back -/
def NoRt (g : Env → Out) : Prop := ∀ es r, g es ≠ .rt r
section
variable {g h : Env → Out} {c : Env → O Bool} {f : Env → O R} {i : Nat} {fz : Bool} {t : Tg}
theorem nrt_next : NoRt gNext := fun _ _ z => by cases z
theorem nrt_raise {a : Addr} : NoRt (gRaise a) := fun _ _ z => by cases z
theorem nrt_seq (h1 : NoRt g) (h2 : NoRt h) : NoRt (gSeq g h) := fun es r z => by
  unfold gSeq at z
  cases hg : g es with
  | nx e2 => rw [hg] at z; exact h2 e2 r z
  | rt r => exact h1 es r hg
  | _ => rw [hg] at z; cases z
theorem nrt_if (h1 : NoRt g) (h2 : NoRt h) : NoRt (gIf c g h) := fun es r z => by
  unfold gIf at z
  cases hc : c es with
  | ok b =>
    rw [hc] at z
    cases b with
    | true => exact h1 es r z
    | false => exact h2 es r z
  | exc a fs => rw [hc] at z; cases z
  | no => rw [hc] at z; cases z
theorem nrt_set : NoRt (gSet i fz f) := fun es r z => by
  unfold gSet at z
  cases hc : f es with
  | ok b =>
    rw [hc] at z
    simp only [O.out_ok] at z
    split at z <;> cases z
  | exc a fs => rw [hc] at z; cases z
  | no => rw [hc] at z; cases z
theorem nrt_expr : NoRt (gExpr f) := fun es r z => by
  unfold gExpr at z
  cases hc : f es with
  | ok b => rw [hc] at z; cases z
  | exc a fs => rw [hc] at z; cases z
  | no => rw [hc] at z; cases z
end
def clsB : Stmt → List Stmt
  | .ClassDef (body := b) .. => b
  | _ => []
end Fw
namespace Fw
open PySem PySem.Spec PyProof.Rows L2
/-! ### a new list of new lists -/
def Rel2 (K : PySem.W.Frag) (T : List Addr) (H F' H' : Hp) (vs : List V) (xss : List (List D)) : Prop := ∃ ps : List Addr, vs = ps.map V.ref ∧ ps.Nodup ∧ ps.length = xss.length ∧ ∀ (k : Nat) (q : Addr), ps[k]? = some q → H q = none ∧ F' q = none ∧ q ∉ T ∧ ∃ (us : List V) (xs : List D), xss[k]? = some xs ∧ H' q = some (.lst us) ∧ RpL K F' xs us
def tDA2 (K : PySem.W.Frag) (T : List Addr) (W : WX) (f : Env → O (List (List D))) : TA := fun σ H Q => ∃ F0 H0 F es, StOk K T F0 H0 F H σ es ∧ PO K T W F H σ (Rel2 K T H) Q (f es)
def DA2 (X : Cx) (T : List Addr) (W : WX) (es : List Expr) (f : Env → O (List (List D))) : Prop := PA X es (tDA2 X.K T W f)
def fNil2 : Env → O (List (List D)) := fun _ => .ok []
def fCons2 (fa : Env → O R) (fr : Env → O (List (List D))) : Env → O (List (List D)) := fun es => (fa es).bind fun r => match r with
  | .new xs => (fr es).bind fun xss => .ok (xs :: xss)
  | _ => .no
def has2 (es : Env) : Bool := es.any fun s => match s with
  | .own2 _ => true
  | _ => false
theorem has2_no {es : Env} (h : has2 es = false) {j : Nat} {xss : List (List D)} (e : es[j]? = some (.own2 xss)) : False := by
  have : has2 es = true := List.any_eq_true.mpr ⟨_, List.mem_iff_getElem?.mpr ⟨j, e⟩, rfl⟩
  rw [h] at this; cases this
section
variable {X : Cx} {T : List Addr} {W : WX} {e b : Expr} {es : List Expr} {fa fb : Env → O R} {fr : Env → O (List (List D))} {x : Str} {p1 p2 p3 pos : Pos}
theorem da2_nil : DA2 X T W [] fNil2 := pa_weak pa_nil fun σ H Q ⟨F0, H0, F, es, st, h⟩ => h [] F H (Le.refl st.ok) ⟨[], rfl, List.nodup_nil, rfl, fun k q z => by cases z⟩
theorem da2_cons (ha : DE X T W e fa) (hr : DA2 X T W es fr) (hst : starEach (e :: es) X.env = (false, eval e X.env) :: starEach es X.env := by rfl) : DA2 X T W (e :: es) (fCons2 fa fr) :=
  pa_weak (pa_cons ha hr hst) fun σ H Q ⟨F0, H0, F, es, st, h⟩ => by
    refine ⟨F0, H0, F, es, st, ?_⟩
    unfold fCons2 at h
    cases ho : fa es with
    | no => rw [ho] at h; exact h
    | exc c fs => rw [ho] at h; exact h
    | ok r =>
      rw [ho] at h
      cases r with
      | new xs =>
        intro v F1 H1 l q
        obtain ⟨p, vs, rfl, g1, g2, g3, g4, g5⟩ := q
        have st1 := st.step l
        refine ⟨F0, H0, F1, es, st1, ?_⟩
        simp only [O.bind_ok] at h
        cases hf : fr es with
        | no => rw [hf] at h; exact h
        | exc c fs => rw [hf] at h; exact fun cls d F' H' l' xo => h cls d F' H' (l.trans l') xo
        | ok xss =>
          rw [hf] at h
          intro vs2 F2 H2 l2 ⟨ps, k1, k2, k3, k4⟩
          subst k1
          refine h _ F2 H2 (l.trans l2) ⟨p :: ps, rfl, ?_, by simp [k3], fun k q hk => ?_⟩
          · refine List.nodup_cons.mpr ⟨fun hm => ?_, k2⟩
            obtain ⟨k, hk⟩ := List.mem_iff_getElem?.mp hm
            rw [(k4 k p hk).1] at g4
            cases g4
          · cases k with
            | zero =>
              cases hk
              exact ⟨g1, l2.n p g2 (by rw [g4]; simp), g3, vs, xs, rfl, l2.h p _ g3 g4, g5.mono l2.f⟩
            | succ k =>
              obtain ⟨f1, f2, f3, us, zs, f4, f5, f6⟩ := k4 k q hk
              refine ⟨?_, f2, f3, us, zs, f4, f5, f6⟩
              cases hq : H q with
              | none => rfl
              | some o => rw [l.h q o f3 hq] at f1; cases f1
      | val d => exact h.elim
      | brw d => exact h.elim
      | bor d => exact h.elim
def gOwn2 (i : Nat) (f : Env → O (List (List D))) : Env → Out := fun es => (f es).out es fun xss => if has2 (es.set i .no) = true ∨ 1000 < xss.length then .no else .nx (es.set i (.own2 xss))
theorem StOk.set2 {K : PySem.W.Frag} {F0 H0 F H : Hp} {σ : L2.St} {es : Env} {i : Nat} {p : Addr} {ps : List Addr} {xss : List (List D)} (st : StOk K T F0 H0 F H σ es) (h2 : has2 (es.set i .no) = false) (o : Own2 K T H0 F H p ps xss)
    (dj : ∀ (j : Nat) xs q, j ≠ i → es[j]? = some (.own xs) → σ[j]? = some (some (V.ref q)) → q ≠ p ∧ q ∉ ps) : StOk K T F0 H0 F H (σ.set i (some (.ref p))) (es.set i (.own2 xss)) where
  ok0 := st.ok0
  le := st.le
  env := by
    have ln := st.env.len
    have no : ∀ {j : Nat} {zss : List (List D)}, j ≠ i → es[j]? = some (.own2 zss) → False := fun {j zss} hj e => has2_no h2 (j := j) (xss := zss) (by rw [List.getElem?_set_ne (Ne.symm hj)]; exact e)
    refine ⟨by simp [ln], fun j d h => ?_, fun j d h => ?_, fun j xs h => ?_, fun j k xs ys q h1 h2 h3 h4 => ?_, fun j yss h => ?_⟩
    · rcases get_set h with ⟨e, e2⟩ | ⟨e, e2⟩
      · cases e2
      · rw [List.getElem?_set_ne e]; exact st.env.val j d e2
    · rcases get_set h with ⟨e, e2⟩ | ⟨e, e2⟩
      · cases e2
      · rw [List.getElem?_set_ne e]; exact st.env.brw j d e2
    · rcases get_set h with ⟨e, e2⟩ | ⟨e, e2⟩
      · cases e2
      · rw [List.getElem?_set_ne e]; exact st.env.own j xs e2
    · rcases get_set h1 with ⟨e, e2⟩ | ⟨e, e2⟩
      · cases e2
      · rcases get_set h2 with ⟨f, f2⟩ | ⟨f, f2⟩
        · cases f2
        · rw [List.getElem?_set_ne e] at h3
          rw [List.getElem?_set_ne f] at h4
          exact st.env.uni j k xs ys q e2 f2 h3 h4
    · rcases get_set h with ⟨e, e2⟩ | ⟨e, e2⟩
      · subst e
        cases e2
        have hi : i < σ.length := by
          rw [ln]
          have := (List.getElem?_eq_some_iff.mp h).1
          simpa using this
        refine ⟨p, ps, by simp [hi], o, fun k xs q hk hq => ?_, fun k zss hk => ?_⟩
        · rcases get_set hk with ⟨f, f2⟩ | ⟨f, f2⟩
          · cases f2
          · rw [List.getElem?_set_ne f] at hq
            exact dj k xs q (Ne.symm f) f2 hq
        · rcases get_set hk with ⟨f, f2⟩ | ⟨f, f2⟩
          · exact f.symm
          · exact (no (Ne.symm f) f2).elim
      · exact (no (Ne.symm e) e2).elim
theorem ds_own2 {i : Nat} {pos' lp : Pos} {kk : Nat} (hN : X.N.Nodup) (he : DA2 X T W es fr) (hi : X.N[i]? = some x := by rfl) (hx : Loc X.env.scope x := by first | exact Or.inl rfl | exact Or.inr rfl) (hs : swapsWith (.List es lp) (some (.Name x pos')) pos.line X.env = pure false := by rfl)
    (hf : X.fn x = true ∨ X.env.scope.names.lookup x = some .local := by first | exact .inl rfl | exact .inr rfl) : DS X T W (.Assign [.Name x pos'] (.List es lp) pos) (gOwn2 i fr) := fun F0 H0 => ps_weak (ps_set hN hi hx (pe_lst he) hs hf) fun D σ H ⟨F, es, st, q⟩ => by
  refine ⟨F0, H0, F, es, st, out_seq st q fun xss vs F1 H1 _ st1 l1 ⟨ps, k1, k2, k3, k4⟩ h1 => ?_⟩
  subst k1
  split at h1
  · exact h1.elim
  · rename_i hh
    have hb : has2 (es.set i .no) = false := by
      cases z : has2 (es.set i .no) with
      | false => rfl
      | true => exact absurd (Or.inl z) hh
    have hl : xss.length ≤ 1000 := by
      by_cases z : 1000 < xss.length
      · exact absurd (Or.inr z) hh
      · omega
    refine ⟨by rw [List.length_map, k3]; exact sz (by omega), fun p hp => ?_⟩
    have l2 := Le.newH st1.ok (o := .lst (ps.map V.ref)) hp
    have st2 := st1.step l2
    have np : ∀ {q : Addr} {k : Nat}, ps[k]? = some q → q ≠ p := fun {q k} hk z => by
      obtain ⟨_, _, _, us, xs, _, f5, _⟩ := k4 k q hk
      rw [z, hp] at f5; cases f5
    refine h1 _ _ _ (Sub.refl _) (StOk.set2 st2 hb ⟨st1.h0 (st1.ok.nt hp) hp, st1.ok.nf hp, st1.ok.nt hp, upd_same, fun hm => ?_, k2, k3, fun k q hk => ?_⟩ fun j xs q hj hy hq => ?_)
    · obtain ⟨k, hk⟩ := List.mem_iff_getElem?.mp hm
      exact np hk rfl
    · obtain ⟨f1, f2, f3, us, xs, f4, f5, f6⟩ := k4 k q hk
      exact ⟨st.h0 f3 f1, f2, f3, us, xs, f4, by rw [upd_ne (np hk)]; exact f5, f6⟩
    · obtain ⟨a, us, g1, g2, g3, g4, g5, g6⟩ := st.env.own j xs hy
      rw [g1] at hq
      cases hq
      refine ⟨fun z => ?_, fun hm => ?_⟩
      · have := l1.h q _ g4 g5
        rw [z, hp] at this; cases this
      · obtain ⟨k, hk⟩ := List.mem_iff_getElem?.mp hm
        rw [(k4 k q hk).1] at g5; cases g5
/-- the whole, as it stands -/
theorem own2_rp {K : PySem.W.Frag} {F0 H0 F H : Hp} {σ : L2.St} {es : Env} {p : Addr} {ps : List Addr} {xss : List (List D)} (st : StOk K T F0 H0 F H σ es) (o : Own2 K T H0 F H p ps xss) : Rp K H (.lst (xss.map .lst)) (.ref p) := by
  obtain ⟨k1, k2, k3, k4, k5, k6, k7, k8⟩ := o
  rw [Rp]
  refine ⟨p, ps.map V.ref, rfl, SqL.of k4, ?_⟩
  clear k4 k5 k6
  induction ps generalizing xss with
  | nil =>
    cases xss with
    | nil => exact RpL.nil
    | cons a b => cases k7
  | cons q ps ih =>
    cases xss with
    | nil => cases k7
    | cons xs xss =>
      obtain ⟨f1, f2, f3, us, zs, f4, f5, f6⟩ := k8 0 q rfl
      cases f4
      refine RpL.cons ?_ (ih (by simpa using k7) fun k r hk => ?_)
      · rw [Rp]; exact ⟨q, us, rfl, SqL.of f5, f6.mono st.ok.sub⟩
      · exact k8 (k + 1) r hk
/-! x[j] -/
def fIx2 (i j : Nat) : Env → O R := fun es => match es[i]? with
  | some (.own2 xss) => match xss[j]? with
    | some xs => .ok (.bor xs)
    | none => .no
  | _ => .no
theorem de_ix2 (i j : Nat) {z : Int} {k : Nat} (hz : z = (j : Nat) := by rfl) (hN : X.N[i]? = some x := by rfl) (hv : Vis X.env.scope x := by first | exact Or.inl rfl | exact Or.inr (Or.inl rfl) | exact Or.inr (Or.inr rfl)) (hd : (x == ("__debug__" : Str)) = false := by decide)
    (hcd : (x == ("__classdict__" : Str)) = false := by decide) : DE X T W (.Subscript (.Name x p1) (.Constant (.int z) k p2) pos) (fIx2 i j) :=
  pe_weak (pe_ix ix_list (pv i hN hv hd hcd) pe_int (fun _ _ => rfl)) fun σ H Q ⟨F0, H0, F, es, st, h⟩ => by
    unfold fIx2 at h
    split at h
    · rename_i xss e1
      cases hx : xss[j]? with
      | none => rw [hx] at h; exact h.elim
      | some xs =>
        rw [hx] at h
        obtain ⟨p, ps, g1, g2, _, _⟩ := st.env.two i xss e1
        obtain ⟨k1, k2, k3, k4, k5, k6, k7, k8⟩ := g2
        have hj : j < ps.length := by rw [k7]; exact (List.getElem?_eq_some_iff.mp hx).1
        obtain ⟨f1, f2, f3, us, zs, f4, f5, f6⟩ := k8 j ps[j] (List.getElem?_eq_getElem hj)
        rw [hx] at f4
        cases f4
        refine ⟨.ref p, g1, p, ps.map V.ref, z, .ref ps[j], rfl, rfl, SqL.of k4, ?_, h (.ref ps[j]) F H (Le.refl st.ok) ⟨ps[j], us, rfl, f2, f3, f5, f6⟩⟩
        subst hz
        unfold atI ixN
        simp [hj]
    · exact h.elim
/-! x != b -/
def fNe2 (i : Nat) (fb : Env → O R) : Env → O R := fun es => match es[i]? with
  | some (.own2 xss) => (fb es).bind fun r => O.of (dNe (.val (.lst (xss.map .lst))) r.fz)
  | _ => .no
theorem ne2_weak {i : Nat} {σ : L2.St} {H : Hp} {Q : VK} (h : tD X.K T W (fNe2 i fb) σ H Q) : tOp (rNeD X.K) (tVar i) (tD X.K T W fb) σ H Q := by
  obtain ⟨F0, H0, F, es, st, h⟩ := h
  unfold fNe2 at h
  split at h
  · rename_i xss e1
    obtain ⟨p, ps, g1, g2, _, _⟩ := st.env.two i xss e1
    refine ⟨.ref p, g1, F0, H0, F, es, st, pr_seq st h fun r v F1 H1 _ st1 l1 q1 h1 => ?_⟩
    have rp := own2_rp st1 (g2.step l1)
    unfold dNe at h1
    split at h1
    · rename_i e
      rw [Bool.and_eq_true] at e
      refine ⟨py (.lst (xss.map .lst)), py r.fz.dat, rp_dp 60 _ e.1 rp, rp_dp 60 _ e.2 (q1.toH st1.ok st1.up), shp_shaped e.1, shp_shaped e.2, ?_⟩
      have ee : PyData.eqv (py (.lst (xss.map .lst))) (py r.fz.dat) = deq (.lst (xss.map .lst)) r.fz.dat := eqv_deq 60 60 _ _ e.1 e.2
      rw [ee]
      exact h1 _ F1 H1 (Le.refl st1.ok) (by rw [Rr, Rp]; rfl)
    · exact h1.elim
  · exact h.elim
theorem de_ne2 (i : Nat) (hu : X.A.units + 64 < cLine) (hb : DE X T W b fb) (hN : X.N[i]? = some x := by rfl) (hv : Vis X.env.scope x := by first | exact Or.inl rfl | exact Or.inr (Or.inl rfl) | exact Or.inr (Or.inr rfl)) (hd : (x == ("__debug__" : Str)) = false := by decide)
    (hcd : (x == ("__classdict__" : Str)) = false := by decide) (hm : behindInMarks .NotEq b = false := by first | exact nomark _ | rfl | with_unfolding_all rfl) : DE X T W (.Compare (.Name x p1) [.NotEq] [b] pos) (fNe2 i fb) :=
  pe_weak (pe_cmpR (op_neD hu) (pv i hN hv hd hcd) hb hm) fun σ H Q h => ne2_weak h
theorem dt_ne2 (i : Nat) (hu : X.A.units + 64 < cLine) (hb : DE X T W b fb) (hN : X.N[i]? = some x := by rfl) (hv : Vis X.env.scope x := by first | exact Or.inl rfl | exact Or.inr (Or.inl rfl) | exact Or.inr (Or.inr rfl)) (hd : (x == ("__debug__" : Str)) = false := by decide)
    (hcd : (x == ("__classdict__" : Str)) = false := by decide) (hm : behindInMarks .NotEq b = false := by first | exact nomark _ | rfl | with_unfolding_all rfl) : DT X T W (.Compare (.Name x p1) [.NotEq] [b] pos) (fTest (fNe2 i fb)) :=
  pt_weak (pt_cmpR (op_neD hu) (pv i hN hv hd hcd) hb hm) fun σ H Q h => ne2_weak (test_weak h)
/-! an inner list changes -/
theorem StOk.mut2 {K : PySem.W.Frag} {F0 H0 F H : Hp} {σ : L2.St} {es : Env} {i j : Nat} {p q : Addr} {ps : List Addr} {xss : List (List D)} {us' : List V} {xs' : List D} (st : StOk K T F0 H0 F H σ es) (he : es[i]? = some (.own2 xss)) (hp : σ[i]? = some (some (.ref p))) (o : Own2 K T H0 F H p ps xss)
    (hj : ps[j]? = some q) (r : RpL K F xs' us') : StOk K T F0 H0 F (upd H q (.lst us')) σ (es.set i (.own2 (xss.set j xs'))) := by
  obtain ⟨p', ps', g1, g2, g3, g4⟩ := st.env.two i xss he
  have ep : p' = p := by rw [hp] at g1; cases g1; rfl
  subst ep
  have eps : ps' = ps := refs_inj (HO.lst.inj (Option.some.inj (g2.2.2.2.1.symm.trans o.2.2.2.1)))
  subst eps
  obtain ⟨k1, k2, k3, k4, k5, k6, k7, k8⟩ := g2
  obtain ⟨f1, f2, f3, us, zs, f4, f5, f6⟩ := k8 j q hj
  have hi : i < es.length := (List.getElem?_eq_some_iff.mp he).1
  have qp : q ≠ p' := fun z => k5 (z ▸ List.mem_iff_getElem?.mpr ⟨j, hj⟩)
  refine ⟨st.ok0, st.le.mut f1 f2 f3, ⟨by simpa using st.env.len, fun m d h => ?_, fun m d h => ?_, fun m ys h => ?_, fun m k xs ys a h1 h2 h3 h4 => ?_, fun m yss h => ?_⟩⟩
  · rcases get_set h with ⟨e, e2⟩ | ⟨e, e2⟩
    · cases e2
    · exact st.env.val m d e2
  · rcases get_set h with ⟨e, e2⟩ | ⟨e, e2⟩
    · cases e2
    · exact st.env.brw m d e2
  · rcases get_set h with ⟨e, e2⟩ | ⟨e, e2⟩
    · cases e2
    · obtain ⟨a, vs, h1, h2, h3, h4, h5, h6⟩ := st.env.own m ys e2
      have : a ≠ q := fun z => (g3 m ys a e2 h1).2 (z ▸ List.mem_iff_getElem?.mpr ⟨j, hj⟩)
      exact ⟨a, vs, h1, h2, h3, h4, by rw [upd_ne this]; exact h5, h6⟩
  · have w : ∀ {m : Nat} {ys : List D}, (es.set i (.own2 (xss.set j xs')))[m]? = some (.own ys) → es[m]? = some (.own ys) := fun {m ys} h => by
      rcases get_set h with ⟨e, e2⟩ | ⟨_, e2⟩
      · cases e2
      · exact e2
    exact st.env.uni m k xs ys a (w h1) (w h2) h3 h4
  · rcases get_set h with ⟨e, e2⟩ | ⟨e, e2⟩
    · subst e
      cases e2
      refine ⟨p', ps', hp, ⟨k1, k2, k3, by rw [upd_ne (Ne.symm qp)]; exact k4, k5, k6, by simp [k7], fun k a hk => ?_⟩, fun k xs a hk ha => ?_, fun k zss hk => ?_⟩
      · by_cases hkj : k = j
        · subst hkj
          rw [hj] at hk
          cases hk
          have hlt : k < xss.length := by rw [← k7]; exact (List.getElem?_eq_some_iff.mp hj).1
          exact ⟨f1, f2, f3, us', xs', by simp [hlt], upd_same, r⟩
        · obtain ⟨h1, h2, h3, vs, ys, h4, h5, h6⟩ := k8 k a hk
          have ne : a ≠ q := fun z => by
            subst z
            obtain ⟨a1, b1⟩ := List.getElem?_eq_some_iff.mp hk
            obtain ⟨a2, b2⟩ := List.getElem?_eq_some_iff.mp hj
            rcases Nat.lt_or_gt_of_ne hkj with z | z
            · exact List.pairwise_iff_getElem.mp k6 k j a1 a2 z (b1.trans b2.symm)
            · exact List.pairwise_iff_getElem.mp k6 j k a2 a1 z (b2.trans b1.symm)
          exact ⟨h1, h2, h3, vs, ys, by rw [List.getElem?_set_ne (fun z => hkj z.symm)]; exact h4, by rw [upd_ne ne]; exact h5, h6⟩
      · rcases get_set hk with ⟨f, f2⟩ | ⟨_, f2⟩
        · cases f2
        · exact g3 k xs a f2 ha
      · rcases get_set hk with ⟨f, _⟩ | ⟨_, f2⟩
        · exact f.symm
        · exact g4 k zss f2
    · exact absurd (g4 m yss e2) (Ne.symm e)
def gApp2 (i j : Nat) (f : Env → O R) : Env → Out := fun es => match es[i]? with
  | some (.own2 xss) => match xss[j]? with
    | some xs => (f es).out es fun r => match r.fz.sto with
      | some d => if xs.length < 90000 then .nx (es.set i (.own2 (xss.set j (xs ++ [d])))) else .no
      | none => .no
    | none => .no
  | _ => .no
def gClr2 (i j : Nat) : Env → Out := fun es => match es[i]? with
  | some (.own2 xss) => if j < xss.length then .nx (es.set i (.own2 (xss.set j []))) else .no
  | _ => .no
theorem ix2_run {K : PySem.W.Frag} {F0 H0 F H : Hp} {σ : L2.St} {es : Env} {i j : Nat} {xss : List (List D)} {xs : List D} (st : StOk K T F0 H0 F H σ es) (he : es[i]? = some (.own2 xss)) (hx : xss[j]? = some xs) :
    ∃ p ps q us, σ[i]? = some (some (.ref p)) ∧ Own2 K T H0 F H p ps xss ∧ ps[j]? = some q ∧ H q = some (.lst us) ∧ RpL K F xs us ∧ q ∉ T ∧ ∀ Q : VK, Q (.ref q) H → tOp (rIxL K) (tVar i) (tC (.int (j : Nat))) σ H Q := by
  obtain ⟨p, ps, g1, g2, _, _⟩ := st.env.two i xss he
  have g2' := g2
  obtain ⟨k1, k2, k3, k4, k5, k6, k7, k8⟩ := g2
  have hj : j < ps.length := by rw [k7]; exact (List.getElem?_eq_some_iff.mp hx).1
  obtain ⟨f1, f2, f3, us, zs, f4, f5, f6⟩ := k8 j ps[j] (List.getElem?_eq_getElem hj)
  rw [hx] at f4
  cases f4
  refine ⟨p, ps, ps[j], us, g1, g2', List.getElem?_eq_getElem hj, f5, f6, f3, fun Q hQ => ⟨.ref p, g1, p, ps.map V.ref, (j : Nat), .ref ps[j], rfl, rfl, SqL.of k4, ?_, hQ⟩⟩
  unfold atI ixN
  simp [hj]
theorem ds_app2 {fa : Env → O R} {k : Nat} (i j : Nat) (he : DE X T W e fa) (hN : X.N[i]? = some x := by rfl) (hv : Vis X.env.scope x := by first | exact Or.inl rfl | exact Or.inr (Or.inl rfl) | exact Or.inr (Or.inr rfl)) (hd : (x == ("__debug__" : Str)) = false := by decide)
    (hcd : (x == ("__classdict__" : Str)) = false := by decide) {sp p4 : Pos}
    (hst : starEach [e] X.env = (false, eval e X.env) :: starEach [] X.env := by rfl)
    (hbase : attributeBase (.Subscript (.Name x p1) (.Constant (.int (j : Nat)) k p4) sp) "append" X.env (eval (.Subscript (.Name x p1) (.Constant (.int (j : Nat)) k p4) sp) X.env) = eval (.Subscript (.Name x p1) (.Constant (.int (j : Nat)) k p4) sp) X.env := by rfl)
    (hfew : ((backTo p3 (starEach [e] X.env)).all (fun x => !x.1) && (backToKw p3 (keywordEach [] X.env)).all (fun x => x.1.isSome) && decide ([e].length + ([] : List Keyword).length + (if ([] : List Keyword).isEmpty then 0 else 1) < 30)) = true := by rfl)
    (hline : (p2.endLine == p3.line) = true := by rfl)
    (hs : swapsWith (.Call (.Attribute (.Subscript (.Name x p1) (.Constant (.int (j : Nat)) k p4) sp) "append" p2) [e] [] p3) none pos.line X.env = pure false := by rfl) :
    DS X T W (.Expr (.Call (.Attribute (.Subscript (.Name x p1) (.Constant (.int (j : Nat)) k p4) sp) "append" p2) [e] [] p3) pos) (gApp2 i j fa) := fun F0 H0 =>
  ps_weak (ps_expr (pe_bm PySem.F.plainAttrs_list PySem.F.slot_list_append PySem.F.type_list_append mt_append (pe_ix ix_list (pv i hN hv hd hcd) pe_int (fun _ _ => rfl)) (pa_cons he pa_nil hst) hbase hfew hline hst rfl) hs) fun D σ H ⟨F, es, st, q⟩ => by
    unfold gApp2 at q
    split at q
    · rename_i xss e1
      cases hx : xss[j]? with
      | none => rw [hx] at q; exact q.elim
      | some xs =>
        rw [hx] at q
        obtain ⟨p, ps, a, us, g1, g2, g3, g4, g5, g6, g7⟩ := ix2_run st e1 hx
        refine g7 _ ⟨own_ty g4, F0, H0, F, es, st, out_seq st q fun r v F1 H1 _ _ l1 q1 q => ?_⟩
        split at q
        · rename_i d e2
          split at q
          · rename_i hl
            obtain ⟨F2, l2, s2, q2⟩ := q1.fz l1
            have st2 := st.step l2
            have rr : RpL X.K F2 (xs ++ [d]) (us ++ [v]) := (g5.mono l2.f).app (RpL.cons (q2.sto e2) RpL.nil)
            exact ⟨a, us, v, rfl, rfl, l2.h a _ g6 g4, by rw [← g5.len]; exact szl (by omega), q _ F2 _ s2 (st2.mut2 e1 g1 (g2.step l2) g3 rr)⟩
          · exact q.elim
        · exact q.elim
    · exact q.elim
theorem ds_clr2 {k : Nat} (i j : Nat) (hN : X.N[i]? = some x := by rfl) (hv : Vis X.env.scope x := by first | exact Or.inl rfl | exact Or.inr (Or.inl rfl) | exact Or.inr (Or.inr rfl)) (hd : (x == ("__debug__" : Str)) = false := by decide)
    (hcd : (x == ("__classdict__" : Str)) = false := by decide) {sp p4 : Pos}
    (hbase : attributeBase (.Subscript (.Name x p1) (.Constant (.int (j : Nat)) k p4) sp) "clear" X.env (eval (.Subscript (.Name x p1) (.Constant (.int (j : Nat)) k p4) sp) X.env) = eval (.Subscript (.Name x p1) (.Constant (.int (j : Nat)) k p4) sp) X.env := by rfl)
    (hline : (p2.endLine == p3.line) = true := by rfl)
    (hs : swapsWith (.Call (.Attribute (.Subscript (.Name x p1) (.Constant (.int (j : Nat)) k p4) sp) "clear" p2) [] [] p3) none pos.line X.env = pure false := by rfl) :
    DS X T W (.Expr (.Call (.Attribute (.Subscript (.Name x p1) (.Constant (.int (j : Nat)) k p4) sp) "clear" p2) [] [] p3) pos) (gClr2 i j) := fun F0 H0 =>
  ps_weak (ps_expr (pe_bm0 PySem.F.plainAttrs_list PySem.F.slot_list_clear PySem.F.type_list_clear mt_clear (pe_ix ix_list (pv i hN hv hd hcd) pe_int (fun _ _ => rfl)) hbase hline) hs) fun D σ H ⟨F, es, st, q⟩ => by
    unfold gClr2 at q
    split at q
    · rename_i xss e1
      split at q
      · rename_i hj
        obtain ⟨p, ps, a, us, g1, g2, g3, g4, g5, g6, g7⟩ := ix2_run (xs := xss[j]) st e1 (List.getElem?_eq_getElem hj)
        exact g7 _ ⟨own_ty g4, a, us, rfl, rfl, g4, q σ F _ (Sub.refl _) (st.mut2 e1 g1 g2 g3 RpL.nil)⟩
      · exact q.elim
    · exact q.elim
end
end Fw
namespace Fw
open PySem PySem.Spec PyProof.Rows L2
section
variable {K : PySem.W.Frag} {T : List Addr} {F0 H0 F H : Hp} {σ : L2.St} {es : Env}
/-- a new object that no slot tells of changes -/
theorem StOk.mutFree {q : Addr} {o : HO} (st : StOk K T F0 H0 F H σ es) (f1 : H0 q = none) (f2 : F q = none) (f3 : q ∉ T) (no2 : has2 es = false) (dj : ∀ (j : Nat) xs a, es[j]? = some (.own xs) → σ[j]? = some (some (V.ref a)) → a ≠ q) : StOk K T F0 H0 F (upd H q o) σ es :=
  ⟨st.ok0, st.le.mut f1 f2 f3, ⟨st.env.len, st.env.val, st.env.brw, fun m ys h => by
    obtain ⟨a, vs, h1, h2, h3, h4, h5, h6⟩ := st.env.own m ys h
    exact ⟨a, vs, h1, h2, h3, h4, by rw [upd_ne (dj m ys a h h1)]; exact h5, h6⟩, st.env.uni, fun m yss h => (has2_no no2 h).elim⟩⟩
end
def gForApp2 (i r : Nat) : Env → Out := fun es => match es[i]? with
  | some (.own2 xss) => if r < es.length ∧ has2 ((es.set i .no).set r .no) = false ∧ (xss.all fun xs => decide (xs.length ≤ 90000)) = true then .nx ((es.set i .no).set r .no) else .no
  | _ => .no
section
variable {X : Cx} {T : List Addr} {W : WX} {x y : Str} {p1 p2 p3 p4 p5 p6 pos : Pos}
theorem ds_forApp2 {k : Nat} (i r : Nat) (hne : i ≠ r) (hN : X.N.Nodup) (hp : PassesOwn (model X.prog X.w) X.A X.env X.xe) (hi : X.N[i]? = some x := by rfl) (hr : X.N[r]? = some y := by rfl) (hv : Vis X.env.scope x := by first | exact Or.inl rfl | exact Or.inr (Or.inl rfl) | exact Or.inr (Or.inr rfl)) (hd : (x == ("__debug__" : Str)) = false := by decide)
    (hcd : (x == ("__classdict__" : Str)) = false := by decide) (hv2 : Vis X.env.scope y := by first | exact Or.inl rfl | exact Or.inr (Or.inl rfl) | exact Or.inr (Or.inr rfl)) (hd2 : (y == ("__debug__" : Str)) = false := by decide)
    (hcd2 : (y == ("__classdict__" : Str)) = false := by decide) (hx : Loc X.env.scope y := by first | exact Or.inl rfl | exact Or.inr rfl) (hf : X.fn y = true ∨ X.env.scope.names.lookup y = some .local := by first | exact .inl rfl | exact .inr rfl) (hc : X.calm = true := by rfl)
    (hst : starEach [.Constant .none k p6] X.env = (false, eval (.Constant .none k p6) X.env) :: starEach [] X.env := by rfl)
    (hbase : attributeBase (.Name y p3) "append" X.env (eval (.Name y p3) X.env) = eval (.Name y p3) X.env := by rfl)
    (hfew : ((backTo p5 (starEach [.Constant .none k p6] X.env)).all (fun x => !x.1) && (backToKw p5 (keywordEach [] X.env)).all (fun x => x.1.isSome) && decide ([Expr.Constant .none k p6].length + ([] : List Keyword).length + (if ([] : List Keyword).isEmpty then 0 else 1) < 30)) = true := by rfl)
    (hline : (p4.endLine == p5.line) = true := by rfl) {ep : Pos}
    (hs : swapsWith (.Call (.Attribute (.Name y p3) "append" p4) [.Constant .none k p6] [] p5) none ep.line X.env = pure false := by rfl) (hfs : ∀ z, foldedSetIterable (.Name x p2) X.env z = pure z := by intro _; rfl) :
    DS X T W (.For (.Name y p1) (.Name x p2) [.Expr (.Call (.Attribute (.Name y p3) "append" p4) [.Constant .none k p6] [] p5) ep] [] pos) (gForApp2 i r) := fun F0 H0 =>
  ps_weak (ps_for hp hc (pi_list (pv i hi hv hd hcd)) (pg_name (i := r) hN hr hx hf) (pss_one (ps_expr (pe_bm PySem.F.plainAttrs_list PySem.F.slot_list_append PySem.F.type_list_append mt_append (pv r hr hv2 hd2 hcd2) (pa_cons pe_non pa_nil hst) hbase hfew hline hst rfl) hs)) hfs) fun D σ H ⟨F, es, st, q⟩ => by
    unfold gForApp2 at q
    split at q
    · rename_i xss e1
      split at q
      · rename_i hh
        obtain ⟨hlt, h2, hall⟩ := hh
        obtain ⟨p, ps, g1, g2, g3, g4⟩ := st.env.two i xss e1
        obtain ⟨k1, k2, k3, k4, k5, k6, k7, k8⟩ := g2
        have e0 : ((es.set i .no).set r .no)[r]? = some .no := by
          rw [List.getElem?_set_self (by simpa using hlt)]
        have stw : StOk X.K T F0 H0 F H (L2.wipe σ [r, i]) ((es.set i .no).set r .no) := st.wipe [r, i]
        have hkeep : ∀ {j : Nat} {xs : List Fw.D}, ((es.set i .no).set r .no)[j]? = some (.own xs) → j ≠ r ∧ es[j]? = some (.own xs) := fun {j xs} h => by
          rcases get_set h with ⟨_, e2⟩ | ⟨e, e2⟩
          · cases e2
          · rcases get_set e2 with ⟨_, e3⟩ | ⟨_, e3⟩
            · cases e3
            · exact ⟨Ne.symm e, e3⟩
        have st0 : StOk X.K T F0 H0 F H σ ((es.set i .no).set r .no) := by
          refine ⟨st.ok0, st.le, ⟨by simpa using st.env.len, fun j d h => ?_, fun j d h => ?_, fun j xs h => ?_, fun j m xs ys a h1 h2 h3 h4 => ?_, fun j yss h => (has2_no h2 h).elim⟩⟩
          · rcases get_set h with ⟨_, e2⟩ | ⟨_, e2⟩
            · cases e2
            · rcases get_set e2 with ⟨_, e3⟩ | ⟨_, e3⟩
              · cases e3
              · exact st.env.val j d e3
          · rcases get_set h with ⟨_, e2⟩ | ⟨_, e2⟩
            · cases e2
            · rcases get_set e2 with ⟨_, e3⟩ | ⟨_, e3⟩
              · cases e3
              · exact st.env.brw j d e3
          · exact st.env.own j xs (hkeep h).2
          · exact st.env.uni j m xs ys a (hkeep h1).2 (hkeep h2).2 h3 h4
        refine ⟨.ref p, g1, p, rfl, ⟨_, SqL.of k4⟩, ?_⟩
        refine for_it (walk_list (xs := ps.map V.ref)) (fun n σ2 H2 => StOk X.K T F0 H0 F H2 σ2 ((es.set i .no).set r .no) ∧ H2 p = some (.lst (ps.map V.ref)) ∧ (∀ (j : Nat) xs a, ((es.set i .no).set r .no)[j]? = some (.own xs) → σ2[j]? = some (some (V.ref a)) → a ≠ p ∧ a ∉ ps) ∧
          ∀ (m : Nat) (a : Addr), n ≤ m → ps[m]? = some a → ∃ us : List V, H2 a = some (.lst us) ∧ us.length ≤ 90000) ⟨st0, k4, fun j xs a h1 h2 => g3 j xs a (hkeep h1).2 h2, fun m a _ hm => ?_⟩ ?_ ?_ ?_
        · obtain ⟨f1, f2, f3, us, zs, f4, f5, f6⟩ := k8 m a hm
          refine ⟨us, f5, ?_⟩
          rw [← f6.len]
          exact of_decide_eq_true (List.all_eq_true.mp hall zs (List.mem_iff_getElem?.mpr ⟨m, f4⟩))
        · intro n σ2 H2 _ hP
          exact SqL.of hP.2.1
        · intro n v σ2 H2 H3 hn hP hY
          obtain ⟨s2, a2, d2, l2⟩ := hP
          obtain ⟨rfl, hx2⟩ := hY
          have hn' : n < ps.length := by simpa using hn
          have ev : v = .ref ps[n] := by
            have z : (ps.map V.ref)[n]? = some v := hx2
            rw [List.getElem?_map, List.getElem?_eq_getElem hn'] at z
            exact (Option.some.inj z).symm
          subst ev
          obtain ⟨us, b1, b2⟩ := l2 n ps[n] (Nat.le_refl _) (List.getElem?_eq_getElem hn')
          obtain ⟨f1, f2, f3, _⟩ := k8 n ps[n] (List.getElem?_eq_getElem hn')
          have hrl : r < σ2.length := by rw [s2.env.len]; simpa using hlt
          have s3 := StOk.set (i := r) (v := .ref ps[n]) (s := .no) s2 True.intro
          rw [List.set_set] at s3
          have d3 : ∀ (j : Nat) xs a, ((es.set i .no).set r .no)[j]? = some (.own xs) → (σ2.set r (some (.ref ps[n])))[j]? = some (some (V.ref a)) → a ≠ p ∧ a ∉ ps := fun j xs a h1 h2 => by
            rw [List.getElem?_set_ne (Ne.symm (hkeep h1).1)] at h2
            exact d2 j xs a h1 h2
          have mem : ps[n] ∈ ps := List.getElem_mem hn'
          have np : ps[n] ≠ p := fun z => k5 (z ▸ mem)
          refine ⟨.ref ps[n], by simp [hrl], own_ty b1, ps[n], us, .non, rfl, rfl, b1, szl (by omega), ?_⟩
          refine ⟨s3.mutFree f1 f2 f3 h2 fun j xs a h1 h2 z => (d3 j xs a h1 h2).2 (z ▸ mem), by rw [upd_ne (Ne.symm np)]; exact a2, d3, fun m a hm ha => ?_⟩
          obtain ⟨vs, c1, c2⟩ := l2 m a (by omega) ha
          have ne : a ≠ ps[n] := fun z => by
            obtain ⟨a1, b1'⟩ := List.getElem?_eq_some_iff.mp ha
            exact List.pairwise_iff_getElem.mp k6 n m hn' a1 (by omega) (by rw [b1', z])
          exact ⟨vs, by rw [upd_ne ne]; exact c1, c2⟩
        · intro σ2 H2 hP
          exact q σ2 F H2 (Sub.refl _) hP.1
      · exact q.elim
    · exact q.elim
end
end Fw
namespace Fw
open PySem PySem.Spec PyProof.Rows L2
/-! ### defs whose arguments are kept: what is handed in is frozen -/
def startF (n : Nat) (ds : List D) : Env := ds.map .val ++ List.replicate (n - ds.length) .no
def run0F (n : Nat) (body : Env → Out) (ds : List D) : O R := match body (startF n ds) with
  | .nx _ => .ok (.val .non)
  | .rt r => .ok r
  | _ => .no
def spDF (K : PySem.W.Frag) (T : List Addr) (n : Nat) (g : List D → O R) : Sp := fun vs H Q E => ∃ F ds, vs.length = n ∧ Ok T F H ∧ RpL K F ds vs ∧ match g ds with
  | .ok (.val d) => ∀ v F' H', Le T F H F' H' → Rr K T H H F' H' v (.val d) → Q v H'
  | .ok (.new xs) => ∀ v F' H', Le T F H F' H' → Rr K T H H F' H' v (.new xs) → Q v H'
  | _ => False
section
variable {K : PySem.W.Frag} {T : List Addr} {F H : Hp}
theorem startF_ok {N : List Str} {ds : List D} {vs : List V} (ok : Ok T F H) (r : RpL K F ds vs) : StOk K T F H F H (L2.start N vs) (startF N.length ds) where
  ok0 := ok
  le := Le.refl ok
  env := by
    have ln := r.len
    have at_ : ∀ {i : Nat} {s : Sl}, (startF N.length ds)[i]? = some s → s ≠ .no → ∃ d v, s = .val d ∧ (L2.start N vs)[i]? = some (some v) ∧ Rp K F d v := fun {i s} h hn => by
      unfold startF at h
      by_cases hi : i < ds.length
      · rw [List.getElem?_append_left (by simpa using hi), List.getElem?_map] at h
        cases hd : ds[i]? with
        | none => rw [hd] at h; cases h
        | some d =>
          rw [hd] at h
          cases h
          obtain ⟨v, h1, h2⟩ := r.get hd
          refine ⟨d, v, rfl, ?_, h2⟩
          unfold L2.start
          rw [List.getElem?_append_left (by simp; omega), List.getElem?_map, h1]; rfl
      · rw [List.getElem?_append_right (by simp; omega), List.getElem?_replicate] at h
        split at h
        · cases h; exact absurd rfl hn
        · cases h
    refine ⟨by simp [L2.start, startF, ln], fun i d h => ?_, fun i d h => ?_, fun i xs h => ?_, fun i j xs ys p h1 h2 h3 h4 => ?_, fun i xss h => ?_⟩
    · obtain ⟨d', v, h1, h2, h3⟩ := at_ h (by simp)
      cases h1
      exact ⟨v, h2, h3⟩
    · obtain ⟨d', v, h1, _⟩ := at_ h (by simp)
      cases h1
    · obtain ⟨d', v, h1, _⟩ := at_ h (by simp)
      cases h1
    · obtain ⟨d', v, g1, _⟩ := at_ h1 (by simp)
      cases g1
    · obtain ⟨d', v, g1, _⟩ := at_ h (by simp)
      cases g1
end
section
variable {P : Program} {w : World} {K : PySem.W.Frag} {mg : Str → Option Value} {base : Heap} {T : List Addr}
theorem fn_okF {x qual : Str} {st : Stmt} {f : Addr} {fd : FuncData} {N ps : List Str} {k : Nat} (F : Fun K x qual st f fd) (S : FnScope N ps (defScope st)) (body : Env → Out)
    (h : ∀ (cdv : Value) (A : Around) (outer : List PySem.Env) (s : Shared) (H : Hp) (E : XK), Room k (A.deeper (envOfC qual (defScope st) s.heap.objs.size f cdv)) → DSs (cxOf CX0 P w K mg base N qual (defScope st) f cdv A outer s H E).nox T W0 (defBody st) body) :
    FnOk P w K mg base CX0 (k + 1) f fd ps (spDF K T ps.length (run0F N.length body)) := by
  refine F.ok S (fun vs H Q E h => by obtain ⟨F, ds, hl, _⟩ := h; exact hl) (fun cdv A outer s H vs Q E hr hsp => ?_)
  obtain ⟨F, ds, hl, ok, r, q⟩ := hsp
  refine ⟨_, h cdv A outer s H E hr F H, F, _, startF_ok (N := N) ok r, ?_⟩
  unfold run0F at q
  cases hb : body (startF N.length ds) with
  | nx es => rw [hb] at q; exact fun σ F' H' z s => q .non F' H' s.le (by rw [Rr, Rp])
  | br es => rw [hb] at q; exact q.elim
  | ct es => rw [hb] at q; exact q.elim
  | no => rw [hb] at q; exact q.elim
  | exc es c fs => rw [hb] at q; exact q.elim
  | rt r =>
    rw [hb] at q
    cases r with
    | val d => exact fun v F' H' l p => q v F' H' l p
    | new xs => exact fun v F' H' l p => q v F' H' l p
    | brw d => exact q.elim
    | bor xs => exact q.elim
end
def isVal : R → Bool
  | .val _ => true
  | _ => false
theorem rqlAll {K : PySem.W.Frag} {T : List Addr} {H0 F H : Hp} : ∀ {rs : List R} {vs : List V}, rs.all isVal = true → RqL K T H0 F H rs vs → RpL K F (rs.map R.dat) vs
  | [], vs, _, h => by cases h; exact RpL.nil
  | r :: rs, vs, a, h => by
    obtain ⟨v, t, h1, h2, h3⟩ := h
    subst h1
    rw [List.all_cons, Bool.and_eq_true] at a
    cases r with
    | val d => exact RpL.cons h2 (rqlAll a.2 h3)
    | brw d => exact absurd a.1 (by simp [isVal])
    | new d => exact absurd a.1 (by simp [isVal])
    | bor d => exact absurd a.1 (by simp [isVal])
def fCallF (g : List D → O R) (fr : Env → O (List R)) : Env → O R := fun es => (fr es).bind fun rs => if rs.all isVal = true then (match g (rs.map R.dat) with
  | .ok (.val d) => .ok (.val d)
  | .ok (.new xs) => .ok (.new xs)
  | _ => .no) else .no
section
variable {X : Cx} {T : List Addr} {W : WX} {e : Expr} {es : List Expr} {x : Str}
theorem de_callF {CX : CXT} {Ec : XK} {k n : Nat} {f : Addr} {fd : FuncData} {ps : List Str} {g : List D → O R} {fr : Env → O (List R)} {pos p : Pos} (F : FnOk X.prog X.w X.K X.mg X.base CX k f fd ps (spDF X.K T n g)) (hx : Passes CX X Ec) (hr : Room k X.A) (hm : X.mg x = some (.ref f))
    (hk : PySem.W.keepIn X.K (.ref f) = true) (hb : Binds X.K fd ps []) (ha : DA X T W (e :: es) fr) (hn : ∀ es rs, fr es = .ok rs → rs.length = n) (hg : Gl X x := by rfl) (hdb : (x == ("__debug__" : Str)) = false := by decide)
    (he : starEach (e :: es) X.env = (false, eval e X.env) :: starEach es X.env := by rfl) (hpl : (backTo pos (starEach es X.env)).any (·.1) = false := by rfl) : DE X T W (.Call (.Name x p) (e :: es) [] pos) (fCallF g fr) :=
  pe_weak (pe_call F hr hg hm hk hb .nil hx ha hdb he hpl) fun σ H Q ⟨F0, H0, F, es, st, h⟩ => by
    refine ⟨F0, H0, F, es, st, pa_seq st h fun rs vs F1 H1 hrs st1 l1 q1 h1 => ?_⟩
    rw [List.append_nil]
    split at h1
    · rename_i hv
      refine ⟨F1, rs.map R.dat, by rw [← q1.len]; exact hn es rs hrs, st1.ok, rqlAll hv q1, ?_⟩
      cases hg : g (rs.map R.dat) with
      | no => rw [hg] at h1; exact h1
      | exc c fs => rw [hg] at h1; exact h1.elim
      | ok r =>
        rw [hg] at h1
        cases r with
        | val d => exact fun v F' H' l q => h1 v F' H' l q
        | new xs => exact fun v F' H' l q => h1 v F' H' l q
        | brw d => exact h1
        | bor xs => exact h1
    · exact h1.elim
end
end Fw
namespace Fw
open PySem PySem.Spec PyProof.Rows L2
/-- a sign of a text -/
def inT (cs : List Nat) (c : Nat) : Bool := decide (c ∈ cs)
section
variable {X : Cx}
/-- x in A, A a text of the module -/
theorem elt_inT {scope : Scope} {x a : Str} {cs : List Nat} {p1 p2 p6 : Pos} (md : X.base.Ns mainGlobals X.mg) (hA : ∃ t, X.mg a = some (.str (tx cs) t)) (hk : scope.kind = .function := by rfl) (hl : scope.names.lookup x = some .local := by rfl)
    (ga : scope.names.lookup a = some .globalImplicit := by rfl) (hd : (x == ("__debug__" : Str)) = false := by decide) (da : (a == ("__debug__" : Str)) = false := by decide) :
    EltG X scope x (.Compare (.Name x p1) [.In] [.Name a p2] p6) (inT cs) := by
  intro ce B E' c t s2 m hB0 hs hg hb hn hm
  obtain ⟨ta, hA⟩ := hA
  have kd : ce.scope.kind = .function := by rw [hs]; exact hk
  refine wpAny_Compare1 ?_
  refine wpAny_Name (wpAny_loadName_local kd (show ce.scope.names.lookup x = some .local by rw [hs]; exact hl) hn hm ?_) hd
  refine ld_mod md kd (show ce.scope.names.lookup a = some .globalImplicit by rw [hs]; exact ga) hg hb hA ?_ da
  refine PyProof.Rows.in_str ?_
  rw [PySem.StrLaws.found_one, tx_list]
  exact ⟨rfl, s2.heap, s2.toks, rfl, fun _ _ h => h⟩
end
end Fw
namespace Fw
open PySem PySem.Spec PyProof.Rows L2
open Classical in
/-- the classes by their places -/
noncomputable def clOf (K : PySem.W.Frag) (a : String → Addr) : Cl where
  at_ := a
  kx := fun c d => if ExcC K c then (match d with
    | .cls c' => PySem.W.kitOne K (.ref c) (.ref c')
    | .ty n => PySem.W.kitOne K (.ref c) (.type n)
    | _ => none) else none
  ex := fun c c' => PySem.W.exmOne K (.ref c) (.ref c')
theorem cl_mk (K : PySem.W.Frag) (a : String → Addr) : ∃ cl : Cl, (∀ s, cl.at_ s = a s) ∧ ClOk K cl ∧ (∀ c c' b, ExcC K c → PySem.W.kitOne K (.ref c) (.ref c') = some b → cl.kx c (.cls c') = some b) ∧
    (∀ c n b, ExcC K c → PySem.W.kitOne K (.ref c) (.type n) = some b → cl.kx c (.ty n) = some b) ∧ ∀ c c' b, PySem.W.exmOne K (.ref c) (.ref c') = some b → cl.ex c c' = some b := by
  refine ⟨clOf K a, fun _ => rfl, ⟨fun c d b h => ?_, fun c c' b h => h⟩, fun c c' b hE h => ?_, fun c n b hE h => ?_, fun c c' b h => h⟩
  · unfold clOf at h
    simp only at h
    split at h
    · rename_i hE
      refine ⟨hE, ?_⟩
      cases d with
      | cls c' => exact h
      | ty n => exact h
      | _ => cases h
    · cases h
  · unfold clOf
    simp only
    rw [if_pos hE]; exact h
  · unfold clOf
    simp only
    rw [if_pos hE]; exact h
theorem kit_t {K : PySem.W.Frag} {c d : Addr} (h1 : PySem.W.isClsIn K d = true) (h2 : PySem.W.typeIn K (.ref d) = some (.type "type")) (h3 : PySem.W.subIn K (.ref c) (.ref d) = some true) : PySem.W.kitOne K (.ref c) (.ref d) = some true := by
  unfold PySem.W.kitOne
  split
  · rfl
  · have h1' : (PySem.W.clsIn K d).isSome = true := h1
    show (if ((PySem.W.clsIn K d).isSome && PySem.W.typeIn K (.ref d) == some (.type "type")) = true then _ else none) = _
    rw [if_pos (by rw [h1', h2]; rfl), h3]
theorem kit_f {K : PySem.W.Frag} {c d : Addr} (h1 : PySem.W.isClsIn K d = true) (h2 : PySem.W.typeIn K (.ref d) = some (.type "type")) (h3 : PySem.W.subIn K (.ref c) (.ref d) = some false) (h4 : PySem.W.subIn K (.ref d) (.ref d) = some true) : PySem.W.kitOne K (.ref c) (.ref d) = some false := by
  unfold PySem.W.kitOne
  split
  · rename_i h
    have e : c = d := by simpa using h
    rw [e, h4] at h3
    cases h3
  · have h1' : (PySem.W.clsIn K d).isSome = true := h1
    show (if ((PySem.W.clsIn K d).isSome && PySem.W.typeIn K (.ref d) == some (.type "type")) = true then _ else none) = _
    rw [if_pos (by rw [h1', h2]; rfl), h3]
theorem kit_v {K : PySem.W.Frag} {c : Addr} (h3 : PySem.W.subIn K (.ref c) (.type "ValueError") = some true) : PySem.W.kitOne K (.ref c) (.type "ValueError") = some true := by
  unfold PySem.W.kitOne
  rw [if_neg (by simp)]
  show (if PySem.W.kitMeta "ValueError" = true then _ else none) = _
  rw [h3]
  exact if_pos (by decide +kernel)
theorem exm_t {K : PySem.W.Frag} {c d : Addr} (h0 : PySem.W.subIn K (.ref d) (.type "BaseException") = some true) (h1 : PySem.W.isClsIn K d = true) (h2 : PySem.W.typeIn K (.ref d) = some (.type "type")) (h3 : PySem.W.subIn K (.ref c) (.ref d) = some true) : PySem.W.exmOne K (.ref c) (.ref d) = some true := by
  unfold PySem.W.exmOne
  rw [h0, if_pos (by rfl)]
  have h1' : (PySem.W.clsIn K d).isSome = true := h1
  show (if ((PySem.W.clsIn K d).isSome && PySem.W.typeIn K (.ref d) == some (.type "type")) = true then _ else none) = _
  rw [if_pos (by rw [h1', h2]; rfl), h3]
end Fw
namespace Fw
open PySem PySem.Spec PyProof.Rows L2
/-! ### a list of one's own that is kept as it is from here on -/
section
variable {K : PySem.W.Frag} {T : List Addr} {F0 H0 F H : Hp} {σ : L2.St} {es : Env}
theorem StOk.frzOwn {i : Nat} {xs : List D} (st : StOk K T F0 H0 F H σ es) (he : es[i]? = some (.own xs)) : ∃ F', Sub F F' ∧ StOk K T F0 H0 F' H σ (es.set i (.val (.lst xs))) := by
  obtain ⟨p, vs, h1, h2, h3, h4, h5, h6⟩ := st.env.own i xs he
  have sb : Sub F (upd F p (.lst vs)) := Sub.new h3
  refine ⟨upd F p (.lst vs), sb, st.ok0, st.le.frz h2 h5 h3 h4, ⟨by simpa using st.env.len, fun j d h => ?_, fun j d h => ?_, fun j ys h => ?_, fun j k xs ys q g1 g2 g3 g4 => ?_, fun j yss h => ?_⟩⟩
  · rcases get_set h with ⟨e, e2⟩ | ⟨e, e2⟩
    · cases e2
      subst e
      exact ⟨.ref p, h1, rp_lst h3 h6⟩
    · obtain ⟨v, g1, g2⟩ := st.env.val j d e2
      exact ⟨v, g1, g2.mono sb⟩
  · rcases get_set h with ⟨e, e2⟩ | ⟨e, e2⟩
    · cases e2
    · exact st.env.brw j d e2
  · rcases get_set h with ⟨e, e2⟩ | ⟨e, e2⟩
    · cases e2
    · obtain ⟨q, us, g1, g2, g3, g4, g5, g6⟩ := st.env.own j ys e2
      have : q ≠ p := fun z => by
        subst z
        exact e (st.env.uni i j xs ys q he e2 h1 g1)
      exact ⟨q, us, g1, g2, by rw [upd_ne this]; exact g3, g4, g5, g6.mono sb⟩
  · rcases get_set g1 with ⟨e, e2⟩ | ⟨e, e2⟩
    · cases e2
    · rcases get_set g2 with ⟨f, f2⟩ | ⟨f, f2⟩
      · cases f2
      · exact st.env.uni j k _ _ q e2 f2 g3 g4
  · rcases get_set h with ⟨e, e2⟩ | ⟨e, e2⟩
    · cases e2
    · obtain ⟨p2, ps, g1, g2, g3, g4⟩ := st.env.two j yss e2
      obtain ⟨n1, n2⟩ := g3 i xs p he h1
      obtain ⟨k1, k2, k3, k4, k5, k6, k7, k8⟩ := g2
      refine ⟨p2, ps, g1, ⟨k1, by rw [upd_ne (Ne.symm n1)]; exact k2, k3, k4, k5, k6, k7, fun m q hm => ?_⟩, fun m zs q hm hq => ?_, fun m zss hm => ?_⟩
      · obtain ⟨f1, f2, f3, us, zs, f4, f5, f6⟩ := k8 m q hm
        have : q ≠ p := fun z => n2 (z ▸ List.mem_iff_getElem?.mpr ⟨m, hm⟩)
        exact ⟨f1, by rw [upd_ne this]; exact f2, f3, us, zs, f4, f5, f6.mono sb⟩
      · rcases get_set hm with ⟨f, f2⟩ | ⟨_, f2⟩
        · cases f2
        · exact g3 m zs q f2 hq
      · rcases get_set hm with ⟨f, f2⟩ | ⟨_, f2⟩
        · cases f2
        · exact g4 m zss f2
end
def gFrz (i : Nat) (g : Env → Out) : Env → Out := fun es => match es[i]? with
  | some (.own xs) => g (es.set i (.val (.lst xs)))
  | _ => g es
section
variable {X : Cx} {T : List Addr} {W : WX} {st : Stmt} {g : Env → Out}
theorem ds_frz (i : Nat) (h : DS X T W st g) : DS X T W st (gFrz i g) := fun F0 H0 => ps_weak (h F0 H0) fun D σ H ⟨F, es, s, q⟩ => by
  unfold gFrz at q
  split at q
  · rename_i xs he
    obtain ⟨F', sb, s'⟩ := s.frzOwn he
    exact ⟨F', _, s', q.sub sb⟩
  · exact ⟨F, es, s, q⟩
end
/-! ### tuple * int -/
theorem tuple_mul1 (l : Addr) (items : Array Value) (n : Nat) (dd : Option Addr) (sl : Array (Option Value)) (u : Tok) :
    Meets (Builtin.«tuple.__mul__» ⟨[.ref l, .int 1 u], []⟩) (fun _ R s => s.heap.get? l = some { cls := .type "tuple", dict := dd, data := .seq items n, slots := sl } ∧ R (.ok (.ret (Value.ref l))) s) :=
  .of_wp fun prog w A R s h => by
    obtain ⟨hp, g, d, tk, os⟩ := s
    obtain ⟨hl, h⟩ := h
    have f1 := AutoSeq1.idx_int
    wp_walk using wpAny_loadPart' hl
    repeat (first
      | (refine wpAny_ite_false (by decide) ?_; wp_walk using wpAny_loadPart' hl)
      | (refine wpAny_ite_true (by simp) ?_; wp_walk using wpAny_loadPart' hl))
    exact ⟨_, rfl, h⟩
def rRepT1 (K : PySem.W.Frag) : R2 := fun x y H Q => ∃ l xs, x = .ref l ∧ y = .int 1 ∧ SqT K H l xs ∧ Q (.ref l) H
section
variable {X : Cx}
theorem op_repT1 : OpR X (binaryOp .Mult) (rRepT1 X.K) := by
  intro pins s σ H x y v u Q I rx ry h
  obtain ⟨l, xs, rfl, rfl, hT, q⟩ := h
  cases rx
  obtain ⟨t, rfl⟩ := ry
  obtain ⟨its, r, ⟨⟨cls, dd, data, sl⟩, ho, hc, n, hd⟩, hs⟩ := I.tuple hT
  simp only at hc hd
  subst hc hd
  refine wpAny_binaryOp_repeat_ref (T := "tuple") (U := "int") (by decide) ⟨_, ho, rfl⟩ (fun s' => typeIs_int s' 1 t) noFill_tuple_mul F.fills_int_mul F.slot_int_rmul repeat_tuple F.slot_int_index.lookup
    (call_meets F.slot_int_rmul (typeIs_int s 1 t) F.entry_int_rmul (F.args_int_rmul_2 _ _) (int_rmul_tuple 1 t l its.toArray n dd sl)
      ⟨ho, rfl, ⟨_, ho, rfl⟩, call_meets F.slot_tuple_mul ⟨_, ho, rfl⟩ F.entry_tuple_mul (F.args_tuple_mul_2 _ _) (tuple_mul1 l its.toArray n dd sl t) ⟨ho, ?_⟩⟩)
  exact ⟨.ref l, H, I, rfl, q⟩
end
def dMulT : R → R → Option R
  | .val (.tup xs), .val (.int n) => if n = 1 then some (.val (.tup xs)) else if xs ≠ [] ∧ 2 ≤ n ∧ n ≤ 1000 ∧ xs.length ≤ 1000 then some (.val (.tup (List.replicate n.toNat xs).flatten)) else none
  | _, _ => none
def rMulT (K : PySem.W.Frag) : R2 := fun x y H Q => rRepT K x y H Q ∨ rRepT1 K x y H Q
theorem op_mulT {X : Cx} : OpR X (binaryOp .Mult) (rMulT X.K) := OpR.or op_repT op_repT1
theorem RpL.rep {K : PySem.W.Frag} {H : Hp} {ds : List D} {vs : List V} (h : RpL K H ds vs) : ∀ n : Nat, RpL K H (List.replicate n ds).flatten (List.replicate n vs).flatten
  | 0 => RpL.nil
  | n + 1 => by rw [List.replicate_succ, List.replicate_succ, List.flatten_cons, List.flatten_cons]; exact h.app (h.rep n)
theorem od_mulT {K : PySem.W.Frag} {T : List Addr} : OpD K T (rMulT K) dMulT := fun H0 F H x y a b c Q ok up q1 q2 h k => by
  unfold dMulT at h
  split at h
  · rename_i xs n
    have e2 := rq_int q2
    subst e2
    rw [Rq, Rp] at q1
    obtain ⟨l, vs, rfl, h1, h2⟩ := q1
    split at h
    · rename_i hn
      cases h
      subst hn
      exact .inr ⟨l, vs, rfl, rfl, ok.sub.t h1, k _ F H (Le.refl ok) (by rw [Rr, Rp]; exact ⟨l, vs, rfl, h1, h2⟩)⟩
    · split at h
      · rename_i hn
        cases h
        refine .inl ⟨l, n, vs, rfl, rfl, ok.sub.t h1, ?_, hn.2.1, hn.2.2.1, by rw [← h2.len]; exact hn.2.2.2, fun p hp => ?_⟩
        · intro z
          subst z
          have := h2.len
          exact hn.1 (List.eq_nil_of_length_eq_zero this)
        · exact k _ _ _ (Le.new ok hp) (rp_tup (ok.nf hp) (h2.rep n.toNat))
      · cases h
  · cases h
/-! ### comprehensions of two clauses -/
theorem walk_gen {J : It} {n : Nat} {G : Hp → Prop} {Y : Nat → Hp → V → Hp → Prop} (w : Walk J n G Y) {B : (Hp → Prop) → V → Hp → Hp → Prop} {Hs : Hp} {Qd : Hp → Prop} (Pv : Nat → Hp → Prop) (h0 : Pv 0 Hs) (hG : ∀ i H, i ≤ n → Pv i H → G H)
    (hs : ∀ i x H H', i < n → Pv i H → Y i H x H' → B (Pv (i + 1)) x H H') (hd : ∀ H, Pv n H → Qd H) :
    ∃ W : Nat → Nat → Hp → Prop, (∃ m, W 0 m Hs) ∧ ∀ i m H, W i m H →
      (J.stop i H ∧ Qd H) ∨ (J.go i H ∧ ∃ Nx : Hp → Prop, (∀ H', Nx H' → ∃ m', m' < m ∧ W (i + 1) m' H') ∧ ∀ x H', J.yld i H x H' → B Nx x H H') := by
  refine ⟨fun i m H => m = n - i ∧ i ≤ n ∧ Pv i H, ⟨n, by simp, Nat.zero_le _, h0⟩, ?_⟩
  rintro i m H ⟨rfl, hi, p⟩
  have q := hG i H hi p
  by_cases hlt : i < n
  · exact .inr ⟨w.goes i H hlt q, Pv (i + 1), fun H' p' => ⟨n - (i + 1), by omega, rfl, hlt, p'⟩, fun x H' y => hs i x H H' hlt p (w.yields i H x H' hlt q y)⟩
  · have e : i = n := by omega
    subst e
    exact .inl ⟨w.stops H q, hd H p⟩
def noOwnS : Sl → Bool
  | .own _ => false
  | .own2 _ => false
  | _ => true
theorem noOwn_at {es : Env} (h : es.all noOwnS = true) {j : Nat} {s : Sl} (e : es[j]? = some s) : noOwnS s = true := List.all_eq_true.mp h s (List.mem_iff_getElem?.mpr ⟨j, e⟩)
theorem noOwn_has2 {es : Env} (h : es.all noOwnS = true) : has2 es = false := by
  cases e : has2 es with
  | false => rfl
  | true =>
    obtain ⟨s, hs, h2⟩ := List.any_eq_true.mp e
    have := List.all_eq_true.mp h s hs
    cases s <;> simp_all [noOwnS]
def lcL2 (tg : Tg) (src1 : Env → O (List R)) (vs1 : List Nat) (tg1 : Tg) (elt : Env → O R) (es : Env) : List R → O (List D)
  | [] => .ok []
  | x :: xs => match stTg tg x es with
    | none => .no
    | some e1 => if e1.all noOwnS = true then (noX (src1 e1)).bind fun ys => (noX (lcL tg1 fYes elt (wipeE e1 vs1) ys)).bind fun ds => (lcL2 tg src1 vs1 tg1 elt es xs).bind fun r => .ok (ds ++ r) else .no
def fLc2 (src : Env → O (List R)) (vs : List Nat) (tg : Tg) (src1 : Env → O (List R)) (vs1 : List Nat) (tg1 : Tg) (elt : Env → O R) : Env → O R := fun es => (src es).bind fun xs => (noX (lcL2 tg src1 vs1 tg1 elt (wipeE es vs) xs)).bind fun ds => if ds.length ≤ 90000 then .ok (.new ds) else .no
section
variable {X : Cx} {T : List Addr} {W : WX}
theorem lc2_weak {K : PySem.W.Frag} {src src1 : Env → O (List R)} {vs vs1 : List Nat} {tg tg1 : Tg} {elt : Env → O R} {σ : L2.St} {H : Hp} {Q : VK} (hvs : ∀ i ∈ tg.at, i ∈ vs) (hvs1 : ∀ i ∈ tg1.at, i ∈ vs1) (h : tD K T W (fLc2 src vs tg src1 vs1 tg1 elt) σ H Q) :
    tLc2 (tI false K T W src) (tgOf K tg) (tT K T W0 fYes) (tI true K T W0 src1) (tgOf K tg1) (tT K T W0 fYes) (tD K T W0 elt) vs vs1 σ H Q := by
  obtain ⟨F0, H0, F, es, st, h⟩ := h
  unfold fLc2 at h
  refine ⟨F0, H0, F, es, st, ?_⟩
  cases hs : src es with
  | no => rw [hs] at h; exact h
  | exc c fs => rw [hs] at h; exact h
  | ok xs =>
    rw [hs] at h
    intro J F1 H1 l1 ⟨G, Y, w, hG, hY⟩ Dl hD
    rw [O.bind_ok] at h
    cases hds : lcL2 tg src1 vs1 tg1 elt (wipeE es vs) xs with
    | no => rw [hds] at h; exact h.elim
    | exc c fs => rw [hds] at h; exact h.elim
    | ok ds =>
      rw [hds] at h
      simp only [noX, O.bind_ok] at h
      split at h
      · rename_i hlen
        have st1 := st.step l1
        have nT : Dl ∉ T := st1.ok.nt hD
        have h0D : H0 Dl = none := st1.h0 nT hD
        refine walk_gen w (fun i H2 => ∃ F2 ds1 ds2 vs2, Le T F1 H1 F2 H2 ∧ F2 Dl = none ∧ H2 Dl = some (.lst vs2) ∧ RpL K F2 ds1 vs2 ∧ lcL2 tg src1 vs1 tg1 elt (wipeE es vs) (xs.drop i) = .ok ds2 ∧ ds = ds1 ++ ds2)
          ⟨F1, [], ds, [], Le.newH st1.ok hD, st1.ok.nf hD, upd_same, RpL.nil, hds, rfl⟩ ?_ ?_ ?_
        · intro i H2 hi ⟨F2, ds1, ds2, vs2, l2, _⟩
          exact hG F2 H2 ⟨l2, st1.le.trans l2⟩
        · intro i x H2 H3 hi ⟨F2, ds1, ds2, vs2, l2, hF, hH, hr, hl, he⟩ hy
          obtain ⟨F3, r, hx, l3, q3⟩ := hY i H2 x H3 F2 hi ⟨l2, st1.le.trans l2⟩ hy
          have hdr : xs.drop i = r :: xs.drop (i + 1) := by
            have : i < xs.length := hi
            rw [List.drop_eq_getElem_cons this]
            rw [List.getElem?_eq_getElem this] at hx
            rw [Option.some.inj hx]
          rw [hdr] at hl
          simp only [lcL2] at hl
          have st3 : StOk K T F0 H0 F3 H3 (L2.wipe σ vs) (wipeE es vs) := ((st1.step l2).step l3).wipe vs
          cases h1 : stTg tg r (wipeE es vs) with
          | none => rw [h1] at hl; cases hl
          | some e1 =>
            rw [h1] at hl
            simp only at hl
            split at hl
            · rename_i hno
              refine tg_ok st3 q3 h1 fun σ' st' hw => ⟨?_, ?_⟩
              · rw [hw vs hvs]
                apply List.ext_getElem?
                intro j
                rw [wipe_get, wipe_get, wipe_length]
                split <;> rfl
              · refine ⟨F0, H0, F3, e1, st', ?_⟩
                intro b' F4 H4 l4 eb
                subst eb
                rw [if_pos rfl]
                have st4 := st'.step l4
                refine ⟨F0, H0, F4, e1, st4, ?_⟩
                cases hs1 : src1 e1 with
                | no => rw [hs1] at hl; cases hl
                | exc c fs => rw [hs1] at hl; cases hl
                | ok ys =>
                  rw [hs1] at hl
                  simp only [noX, O.bind_ok] at hl
                  cases hdi : lcL tg1 fYes elt (wipeE e1 vs1) ys with
                  | no => rw [hdi] at hl; cases hl
                  | exc c fs => rw [hdi] at hl; cases hl
                  | ok dsi =>
                    rw [hdi] at hl
                    simp only [noX, O.bind_ok] at hl
                    cases hrest : lcL2 tg src1 vs1 tg1 elt (wipeE es vs) (xs.drop (i + 1)) with
                    | no => rw [hrest] at hl; cases hl
                    | exc c fs => rw [hrest] at hl; cases hl
                    | ok dsr =>
                      rw [hrest] at hl
                      cases hl
                      intro J1 F5 H5 l5 ⟨G1, Y1, w1, hG1, hY1⟩
                      have hF3 : F3 Dl = none := l3.n Dl hF (by rw [hH]; simp)
                      have hH3 : H3 Dl = some (.lst vs2) := l3.h Dl _ nT hH
                      have hF4 : F4 Dl = none := l4.n Dl hF3 (by rw [hH3]; simp)
                      have hH4 : H4 Dl = some (.lst vs2) := l4.h Dl _ nT hH3
                      have hF5 : F5 Dl = none := l5.n Dl hF4 (by rw [hH4]; simp)
                      have hH5 : H5 Dl = some (.lst vs2) := l5.h Dl _ nT hH4
                      refine walk_gen w1 (fun j H6 => ∃ F6 e1s e2s vs3, StOk K T F0 H0 F6 H6 σ' e1 ∧ Le T F1 H1 F6 H6 ∧ Sub F5 F6 ∧ F6 Dl = none ∧ H6 Dl = some (.lst vs3) ∧ RpL K F6 (ds1 ++ e1s) vs3 ∧ lcL tg1 fYes elt (wipeE e1 vs1) (ys.drop j) = .ok e2s ∧ dsi = e1s ++ e2s)
                        ⟨F5, [], dsi, vs2, st4.step l5, ((l2.trans l3).trans l4).trans l5, Sub.refl _, hF5, hH5, by rw [List.append_nil]; exact hr.mono ((l3.f.trans l4.f).trans l5.f), hdi, rfl⟩ ?_ ?_ ?_
                      · intro j H6 hj ⟨F6, e1s, e2s, vs3, st6, l6, lf, _⟩
                        exact hG1 F6 H6 ⟨lf, st6.le⟩
                      · intro j y H6 H7 hj ⟨F6, e1s, e2s, vs3, st6, l6, lf, hF6, hH6, hr6, hl6, he6⟩ hy1
                        obtain ⟨F7, r1, hx1, l7, q7⟩ := hY1 j H6 y H7 F6 hj ⟨lf, st6.le⟩ hy1
                        have hdr1 : ys.drop j = r1 :: ys.drop (j + 1) := by
                          have : j < ys.length := hj
                          rw [List.drop_eq_getElem_cons this]
                          rw [List.getElem?_eq_getElem this] at hx1
                          rw [Option.some.inj hx1]
                        rw [hdr1] at hl6
                        simp only [lcL] at hl6
                        have st7 : StOk K T F0 H0 F7 H7 (L2.wipe σ' vs1) (wipeE e1 vs1) := (st6.step l7).wipe vs1
                        cases h7 : stTg tg1 r1 (wipeE e1 vs1) with
                        | none => rw [h7] at hl6; cases hl6
                        | some e7 =>
                          rw [h7] at hl6
                          simp only at hl6
                          refine tg_ok st7 q7 h7 fun σ7 st7' hw7 => ⟨?_, ?_⟩
                          · rw [hw7 vs1 hvs1]
                            apply List.ext_getElem?
                            intro j
                            rw [wipe_get, wipe_get, wipe_length]
                            split <;> rfl
                          · refine ⟨F0, H0, F7, e7, st7', ?_⟩
                            intro b8 F8 H8 l8 eb8
                            subst eb8
                            rw [if_pos rfl]
                            refine ⟨F0, H0, F8, e7, st7'.step l8, ?_⟩
                            simp only [fYes, noX, O.bind_ok, if_true] at hl6
                            cases hel : elt e7 with
                            | no => rw [hel] at hl6; cases hl6
                            | exc c fs => rw [hel] at hl6; cases hl6
                            | ok r2 =>
                              rw [hel] at hl6
                              simp only [noX, O.bind_ok] at hl6
                              intro u F9 H9 l9 q9
                              obtain ⟨F10, l10, _, q10⟩ := q9.fz l9
                              split at hl6
                              · cases hl6
                              · rename_i d hd
                                cases hrest1 : lcL tg1 fYes elt (wipeE e1 vs1) (ys.drop (j + 1)) with
                                | no => rw [hrest1] at hl6; cases hl6
                                | exc c fs => rw [hrest1] at hl6; cases hl6
                                | ok ds3 =>
                                  rw [hrest1] at hl6
                                  cases hl6
                                  have hF7 : F7 Dl = none := l7.n Dl hF6 (by rw [hH6]; simp)
                                  have hH7 : H7 Dl = some (.lst vs3) := l7.h Dl _ nT hH6
                                  have hF8 : F8 Dl = none := l8.n Dl hF7 (by rw [hH7]; simp)
                                  have hH8 : H8 Dl = some (.lst vs3) := l8.h Dl _ nT hH7
                                  have hF9 : F10 Dl = none := l10.n Dl hF8 (by rw [hH8]; simp)
                                  have hH9 : H9 Dl = some (.lst vs3) := l10.h Dl _ nT hH8
                                  have hsub : Sub F6 F10 := (l7.f.trans l8.f).trans l10.f
                                  have st9 : StOk K T F0 H0 F10 H9 σ' e1 := ((st6.step l7).step l8).step l10
                                  have ll : vs3.length = ds1.length + e1s.length := by rw [← hr6.len, List.length_append]
                                  refine ⟨vs3, hH9, szl ?_, F10, e1s ++ [d], ds3, vs3 ++ [u], st9.mutFree h0D hF9 nT (noOwn_has2 hno) (fun j xs a hj _ => by have := noOwn_at hno hj; cases this), (((l6.trans l7).trans l8).trans l10).mut hD hF9 nT, lf.trans hsub, hF9, upd_same, ?_, rfl, by rw [he6]; simp⟩
                                  · rw [he, he6] at hlen
                                    simp only [List.length_append, List.length_cons] at hlen
                                    omega
                                  · rw [← List.append_assoc]
                                    exact (hr6.mono hsub).app (RpL.cons (q10.sto hd) RpL.nil)
                      · intro H6 ⟨F6, e1s, e2s, vs3, st6, l6, lf, hF6, hH6, hr6, hl6, he6⟩
                        have e0 : ys.drop ys.length = [] := List.drop_length
                        rw [e0] at hl6
                        cases hl6
                        have e1 : dsi = e1s := by rw [he6]; simp
                        subst e1
                        exact ⟨F6, ds1 ++ dsi, dsr, vs3, l6, hF6, hH6, hr6, rfl, by rw [he, List.append_assoc]⟩
            · cases hl
        · intro H2 ⟨F2, ds1, ds2, vs2, l2, hF, hH, hr, hl, he⟩
          have e0 : xs.drop xs.length = [] := List.drop_length
          rw [e0] at hl
          cases hl
          have e1 : ds = ds1 := by rw [he]; simp
          subst e1
          exact h (.ref Dl) F2 H2 (l1.trans l2) (Rr.back l1 ⟨Dl, vs2, rfl, hD, hF, nT, hH, hr⟩)
      · exact h.elim
theorem dts_yes : DTs X T [] fYes := dts_nil
theorem de_lc2 {elt tg iter tg1 iter1 : Expr} {scope : Scope} {own : List (Str × Nat)} {vs1 : List Nat} {pos : Pos} {src src1 : Env → O (List R)} {t t1 : Tg} {fe : Env → O R} (hN : X.N.Nodup) (hi : DI false X T W tg iter src) (ok : BlkOk X.N X.env.scope scope own)
    (hg : ∀ (s : Shared) (H : Hp) (C : Addr) (cl : List (Str × Addr)) (fp : List Addr), PG (X.blk s H scope (compEnvC scope cl C X.env) fp) tg (tgOf X.K t))
    (hi1 : ∀ (s : Shared) (H : Hp) (C : Addr) (cl : List (Str × Addr)) (fp : List Addr), DI true (X.blk s H scope (compEnvC scope cl C X.env) fp) T W0 tg1 iter1 src1)
    (hg1 : ∀ (s : Shared) (H : Hp) (C : Addr) (cl : List (Str × Addr)) (fp : List Addr), PG (X.blk s H scope (compEnvC scope cl C X.env) fp) tg1 (tgOf X.K t1))
    (he : ∀ (s : Shared) (H : Hp) (C : Addr) (cl : List (Str × Addr)) (fp : List Addr), DE (X.blk s H scope (compEnvC scope cl C X.env) fp) T W0 elt fe) (hc : X.calm = true := by rfl) (hs : ∀ x, foldedSetIterable iter X.env x = pure x := by intro _; rfl) (hs1 : ∀ env x, foldedSetIterable iter1 env x = pure x := by intro _ _; rfl)
    (hvs : ∀ i ∈ t.at, i ∈ own.map (·.2) := by decide) (hvs1 : ∀ i ∈ t1.at, i ∈ vs1 := by decide) (hv : ∀ i ∈ vs1, i ∈ own.map (·.2) := by decide) :
    DE X T W (.ListComp elt [⟨tg, iter, [], 0⟩, ⟨tg1, iter1, [], 0⟩] scope pos) (fLc2 src (own.map (·.2)) t src1 vs1 t1 fe) :=
  pe_weak (pe_lc2 (wi1 := tI true X.K T W0 src1) (tt := tT X.K T W0 fYes) (tt1 := tT X.K T W0 fYes) (te := tD X.K T W0 fe) hc hN hi ok hv hg (fun s H C cl fp => dts_yes) (fun s H C cl fp => hi1 s H C cl fp) hg1 (fun s H C cl fp => dts_yes) (fun s H C cl fp => he s H C cl fp) hs hs1) fun σ H Q h => lc2_weak hvs hvs1 h
theorem ds_setLc2 {i : Nat} {fz : Bool} {y : Str} {py : Pos} {elt tg iter tg1 iter1 : Expr} {scope : Scope} {own : List (Str × Nat)} {vs1 : List Nat} {pos spos : Pos} {src src1 : Env → O (List R)} {t t1 : Tg} {fe : Env → O R} (hN : X.N.Nodup) (hi : DI false X T W tg iter src) (ok : BlkOk X.N X.env.scope scope own)
    (hg : ∀ (s : Shared) (H : Hp) (C : Addr) (cl : List (Str × Addr)) (fp : List Addr), PG (X.blk s H scope (compEnvC scope cl C X.env) fp) tg (tgOf X.K t))
    (hi1 : ∀ (s : Shared) (H : Hp) (C : Addr) (cl : List (Str × Addr)) (fp : List Addr), DI true (X.blk s H scope (compEnvC scope cl C X.env) fp) T W0 tg1 iter1 src1)
    (hg1 : ∀ (s : Shared) (H : Hp) (C : Addr) (cl : List (Str × Addr)) (fp : List Addr), PG (X.blk s H scope (compEnvC scope cl C X.env) fp) tg1 (tgOf X.K t1))
    (he : ∀ (s : Shared) (H : Hp) (C : Addr) (cl : List (Str × Addr)) (fp : List Addr), DE (X.blk s H scope (compEnvC scope cl C X.env) fp) T W0 elt fe)
    (hy : X.N[i]? = some y := by rfl) (hyl : X.env.scope.names.lookup y = some .local := by rfl) (hsw : swapsWith (.ListComp elt [⟨tg, iter, [], 0⟩, ⟨tg1, iter1, [], 0⟩] scope pos) (some (.Name y py)) spos.line X.env = pure true := by exact sw_true rfl rfl rfl (by decide +kernel))
    (hc : X.calm = true := by rfl) (hs : ∀ x, foldedSetIterable iter X.env x = pure x := by intro _; rfl) (hs1 : ∀ env x, foldedSetIterable iter1 env x = pure x := by intro _ _; rfl)
    (hvs : ∀ i ∈ t.at, i ∈ own.map (·.2) := by decide) (hvs1 : ∀ i ∈ t1.at, i ∈ vs1 := by decide) (hv : ∀ i ∈ vs1, i ∈ own.map (·.2) := by decide) :
    DS X T W (.Assign [.Name y py] (.ListComp elt [⟨tg, iter, [], 0⟩, ⟨tg1, iter1, [], 0⟩] scope pos) spos) (gSet i fz (fLc2 src (own.map (·.2)) t src1 vs1 t1 fe)) := fun F0 H0 =>
  ps_weak (ps_setLc2 (wi1 := tI true X.K T W0 src1) (tt := tT X.K T W0 fYes) (tt1 := tT X.K T W0 fYes) (te := tD X.K T W0 fe) hc hN hy hyl hsw hi ok hv hg (fun s H C cl fp => dts_yes) (fun s H C cl fp => hi1 s H C cl fp) hg1 (fun s H C cl fp => dts_yes) (fun s H C cl fp => he s H C cl fp) hs hs1) fun D σ H q => by
    have z := set_weak q
    show tLc2 _ _ _ _ _ _ _ _ _ _ _ _
    exact lc2_weak hvs hvs1 z
end
end Fw
namespace Fw
open PySem PySem.Spec PyProof.Rows L2
/-! ### sorted(xs), texts, any number of them -/
def rSortedSA (K : PySem.W.Frag) : List V → Hp → VK → Prop := fun vs H Q => ∃ (a : Addr) (xs : List Str), vs = [V.ref a] ∧ SqL K H a (xs.map V.str) ∧ xs.length ≤ 100000 ∧
  ∀ (ys : List Str) (p : Addr), ys.Perm xs → sortedS ys = true → H p = none → Q (.ref p) (upd H p (.lst (ys.map V.str)))
section
variable {X : Cx} {K : PySem.W.Frag} {T : List Addr}
theorem cr_sortedSA : CallR X (.builtin "sorted") (rSortedSA X.K) := by
  intro pins s σ H vs us Q I r h
  obtain ⟨a, xs, rfl, hs, hn, q⟩ := h
  obtain ⟨its, rv, hl, hz⟩ := I.list hs
  rw [Vals.ref1 r]
  refine PyProof.Rows.sorted_strsAny hl.isList rv.strs (by rw [← rv.length]; exact hz) fun out ys h1 h2 h3 => ?_
  obtain ⟨ep, he'⟩ := PyProof.Rows.sortedAll_at s.heap its out
  have hlen : (ys.map V.str).length ≤ sizeLine := by rw [List.length_map, h2.length_eq]; exact sz hn
  exact ⟨.ref _, upd H (s.heap.objs.size + 1) (.lst (ys.map V.str)), I.laid (t' := s.toks) (fun _ _ => PyProof.Rows.sortedAll_old) (Nat.le_succ _) ⟨hlen, out.toList, ep, vals_of_strs h1, he'⟩, rfl, q ys _ h2 h3 (I.hok.fresh (Nat.le_succ _))⟩
def dSortedN : List R → Option R
  | [r] => if isLst r.dat then (match itmD r.dat with
    | some xs => match strsOf xs with
      | some ss => if ss.length ≤ 90000 then some (.new ((sortS ss).map .str)) else none
      | none => none
    | none => none) else none
  | _ => none
theorem cd_sortedN : CallD K T (rSortedSA K) dSortedN := fun H0 F H vs rs c Q ok up q h k => by
  unfold dSortedN at h
  split at h
  · rename_i r
    split at h
    · rename_i hl
      obtain ⟨v, rfl, q1⟩ := rql1 q
      have z := q1.toH ok up
      split at h
      · rename_i xs e
        obtain ⟨p, vs, rfl, h1, h2⟩ := lst_rp hl z e
        split at h
        · rename_i ss es
          split at h
          · rename_i hn
            cases h
            rw [strs_rp h2 es] at h1
            refine ⟨p, ss.map tx, rfl, h1, by simp; omega, fun ys l hp hs hl => ?_⟩
            rw [sortS_uniq hp hs]
            exact k _ F _ (Le.newH ok hl) (rr_lst ok hl (rpl_strs _))
          · cases h
        · cases h
      · cases h
    · cases h
  · cases h
end
end Fw
namespace K01
open PySem PySem.Spec PyProof.Rows L2 Fw
/- slots: 0 _law_one, 1 _law_other, 2 _law_unlike, 3 _law_lamp -/
def b_law_joined : Fw.Env → Out := (gSeq (gSet 2 true (fLc (fRg1 (fCons (fBi dLen (fCons (fVar 0) fNil)) fNil)) [3] (.nm 3) (fTest (fBin dNe (fBin dIx (fVar 0) (fVar 3)) (fBin dIx (fVar 1) (fVar 3)))) (fVar 3)))
    (gSeq (gIf (fOr (fTest (fBin dNe (fBi dLen (fCons (fVar 2) fNil)) (fC (.int 1)))) (fTest (fBin dNe (fBi dSortedL (fCons (fLst (fCons (fBin dIx (fVar 0) (fBin dIx (fVar 2) (fC (.int 0)))) (fCons (fBin dIx (fVar 1) (fBin dIx (fVar 2) (fC (.int 0)))) fNil))) fNil)) (fLst (fCons (fC (.str [48])) (fCons (fC (.str [49])) fNil)))))) (gRet (fC .non)) gNext)
    (gRet (fBin dAdd (fBin dAdd (fSl (fVar 0) fNoPart (fPart (fBin dIx (fVar 2) (fC (.int 0))))) (fC (.str [45]))) (fSl (fVar 0) (fPart (fBin dAdd (fBin dIx (fVar 2) (fC (.int 0))) (fC (.int 1)))) fNoPart)))))
def g_law_joined : List D → O R := run0 4 (b_law_joined)
/- slots: 0 _law_cell, 1 _law_k -/
def b_law_spread : Fw.Env → Out := (gRet (fBin dMod (fBin dMulA (fBin dAdd (fVar 0) (fC (.int 3))) (fBin dAdd (fBin dAdd (fC (.int 48271)) (fBin dMulA (fBin dMulA (fC (.int 2)) (fVar 1)) (fVar 1))) (fVar 1))) (fC (.int 2147483647))))
def g_law_spread : List D → O R := run0 2 (b_law_spread)
/- slots: 0 _law_term, 1 _law_draw_here, 2 _law_turn, 3 _law_more, 4 _law_at -/
def b_law_bent : Fw.Env → Out := (gSeq (gFor (fRg1 (fCons (fBin dMod (fVar 1) (fC (.int 3))) fNil)) (.nm 2) (gSeq (gSet 3 true (fCall0 (g_law_spread) (fCons (fVar 1) (fCons (fVar 2) fNil))))
    (gSeq (gSet 4 true (fBin dMod (fVar 3) (fBi dLen (fCons (fVar 0) fNil))))
    (gSet 0 true (fBin dAdd (fBin dAdd (fSl (fVar 0) fNoPart (fPart (fVar 4))) (fBin dIx (fC (.str [48, 49, 45])) (fBin dMod (fBin dDiv (fVar 3) (fC (.int 7))) (fC (.int 3))))) (fSl (fVar 0) (fPart (fBin dAdd (fVar 4) (fC (.int 1)))) fNoPart))))))
    (gRetV 0))
def g_law_bent : List D → O R := run0 5 (b_law_bent)
/- slots: 0 _law_cell, 1 _law_k, 2 _law_draw_here, 3 _law_left, 4 _law_many, 5 _law_term, 6 _law_signs, 7 _law_place, 8 _law_lamp -/
def b_law_pair : Fw.Env → Out := (gSeq (gSet 2 true (fCall0 (g_law_spread) (fCons (fVar 0) (fCons (fVar 1) fNil))))
    (gSeq (gSet 3 true (fIf (fTest (fBin dEq (fBin dMod (fVar 0) (fC (.int 2))) (fC (.int 1)))) (fBin dDiv (fVar 0) (fC (.int 2))) (fVar 2)))
    (gSeq (gSet 4 true (fBin dAdd (fC (.int 1)) (fBin dMod (fVar 3) (fC (.int 5)))))
    (gSeq (gIf (fTest (fBin dEq (fBin dMod (fVar 0) (fC (.int 2))) (fC (.int 0)))) (gSeq (gSet 5 true (fM1 dJoin (fC (.str [])) (fLc (fRg1 (fCons (fVar 4) fNil)) [8] (.nm 8) fYes (fBin dIx (fC (.str [48, 49, 45])) (fBin dMod (fBin dDiv (fCall0 (g_law_spread) (fCons (fVar 2) (fCons (fVar 8) fNil))) (fC (.int 9))) (fC (.int 3)))))))
    (gRet (fTup (fCons (fVar 5) (fCons (fCall0 (g_law_bent) (fCons (fVar 5) (fCons (fBin dDiv (fVar 2) (fC (.int 11))) fNil))) fNil))))) gNext)
    (gSeq (gSet 3 true (fBin dDiv (fVar 3) (fC (.int 5))))
    (gSeq (gSet 6 true (fC (.str [])))
    (gSeq (gFor (fRg1 (fCons (fBin dMulA (fC (.int 2)) (fVar 4)) fNil)) (.nm 7) (gSeq (gSet 6 true (fBin dAdd (fVar 6) (fBin dIx (fC (.str [48, 49, 45])) (fBin dMod (fVar 3) (fC (.int 3))))))
    (gSet 3 true (fBin dDiv (fVar 3) (fC (.int 3))))))
    (gRet (fTup (fCons (fSl (fVar 6) fNoPart (fPart (fVar 4))) (fCons (fSl (fVar 6) (fPart (fVar 4)) fNoPart) fNil)))))))))))
def g_law_pair : List D → O R := run0 9 (b_law_pair)
/- slots: 0 _law_term, 1 _law_one, 2 _law_lamp, 3 _law_sign -/
def b_law_agrees : Fw.Env → Out := (gSeq (gFor (fEnum true (fCons (fVar 0) fNil)) (.tp [2, 3]) (gIf (fAnd (fTest (fBin dNe (fVar 3) (fC (.str [45])))) (fTest (fBin dNe (fBi dInt (fCons (fVar 3) fNil)) (fBin dAnd (fBin dShr (fVar 1) (fVar 2)) (fC (.int 1)))))) (gRet (fC (.bl false))) gNext))
    (gRet (fC (.bl true))))
def g_law_agrees : List D → O R := run0 4 (b_law_agrees)
/- slots: 0 _law_term, 1 _law_draw_here, 2 _law_at, 3 _law_some -/
def b_law_odd : Fw.Env → Out := (gSeq (gSet 2 true (fBin dMod (fVar 1) (fBi dLen (fCons (fVar 0) fNil))))
    (gSeq (gSet 3 true (fLst (fCons (fBin dAdd (fVar 0) (fC (.str [48]))) (fCons (fSl (fVar 0) (fPart (fC (.int 1))) fNoPart) (fCons (fBin dAdd (fBin dAdd (fSl (fVar 0) fNoPart (fPart (fVar 2))) (fC (.str [50]))) (fSl (fVar 0) (fPart (fBin dAdd (fVar 2) (fC (.int 1)))) fNoPart)) (fCons (fBin dAdd (fBin dAdd (fSl (fVar 0) fNoPart (fPart (fVar 2))) (fC (.str [32]))) (fSl (fVar 0) (fPart (fBin dAdd (fVar 2) (fC (.int 1)))) fNoPart)) (fCons (fC .non) (fCons (fC (.int 0)) (fCons (fLst (fCons (fVar 0) fNil)) fNil)))))))))
    (gRet (fBin dIx (fBin dAdd (fVar 3) (fLst (fCons (fBi dList (fCons (fVar 0) fNil)) (fCons (fC (.bl true)) (fCons (fBin dAdd (fVar 0) (fC (.str [10]))) (fCons (fC (.str [])) (fCons (fTup (fCons (fVar 0) fNil)) (fCons (fBin dAdd (fBin dAdd (fSl (fVar 0) fNoPart (fPart (fVar 2))) (fC (.str [111]))) (fSl (fVar 0) (fPart (fBin dAdd (fVar 2) (fC (.int 1)))) fNoPart)) fNil)))))))) (fBin dMod (fBin dDiv (fVar 1) (fC (.int 5))) (fC (.int 13)))))))
def g_law_odd : List D → O R := run0 4 (b_law_odd)
/- slots: 0 term, 1 lamp -/
def b_freed : Fw.Env → Out := (gRet (fBin dAdd (fBin dAdd (fSl (fVar 0) fNoPart (fPart (fVar 1))) (fC (.str [45]))) (fSl (fVar 0) (fPart (fBin dAdd (fVar 1) (fC (.int 1)))) fNoPart)))
def g_freed : List D → O R := run0 2 (b_freed)
/- slots: 0 setting, 1 lamp -/
def b_is_lit : Fw.Env → Out := (gRet (fBin dEq (fBin dAnd (fBin dShr (fVar 0) (fVar 1)) (fC (.int 1))) (fC (.int 1))))
def g_is_lit : List D → O R := run0 2 (b_is_lit)
/- slots: 0 setting, 1 lamp -/
def b_sign_at : Fw.Env → Out := (gRet (fIf (fTest (fCall0 (g_is_lit) (fCons (fVar 0) (fCons (fVar 1) fNil)))) (fC (.str [49])) (fC (.str [48]))))
def g_sign_at : List D → O R := run0 2 (b_sign_at)
/- slots: 0 term, 1 setting, 2 lamp, 3 sign -/
def b_has : Fw.Env → Out := (gSeq (gFor (fEnum true (fCons (fVar 0) fNil)) (.tp [2, 3]) (gIf (fAnd (fTest (fBin dNe (fVar 3) (fC (.str [45])))) (fTest (fBin dNe (fVar 3) (fCall0 (g_sign_at) (fCons (fVar 1) (fCons (fVar 2) fNil)))))) (gRet (fC (.bl false))) gNext))
    (gRet (fC (.bl true))))
def g_has : List D → O R := run0 4 (b_has)
/- slots: 0 thing, 1 many -/
def b_is_term : Fw.Env → Out := (gSeq (gIf (fOr (fTest (fBin dNis (fBi dType (fCons (fVar 0) fNil)) (fC (.ty "str")))) (fTest (fBin dNe (fBi dLen (fCons (fVar 0) fNil)) (fVar 1)))) (gRet (fC (.bl false))) gNext)
    (gRet (fAllG (inT [45, 48, 49]) (fVar 0))))
def g_is_term : List D → O R := run0 2 (b_is_term)
/- slots: 0 many -/
def b_all_settings : Fw.Env → Out := (gRet (fLRg1 (fBin dShl (fC (.int 1)) (fVar 0))))
def g_all_settings : List D → O R := run0 1 (b_all_settings)
/- slots: 0 term, 1 setting -/
def b_settings_of : Fw.Env → Out := (gRet (fLc (fIt false (fCall0 (g_all_settings) (fCons (fBi dLen (fCons (fVar 0) fNil)) fNil))) [1] (.nm 1) (fTest (fCall0 (g_has) (fCons (fVar 0) (fCons (fVar 1) fNil)))) (fVar 1)))
def g_settings_of : List D → O R := run0 2 (b_settings_of)
/- slots: 0 _law_term, 1 _law_draw_here, 2 _law_one, 3 _law_settings, 4 _law_found, 5 _law_turn, 6 _law_lamp -/
def b_law_term_right : Fw.Env → Out := (gSeq (gSet 3 true (fLc (fRg1 (fCons (fBin dShl (fC (.int 1)) (fBi dLen (fCons (fVar 0) fNil))) fNil)) [2] (.nm 2) (fTest (fCall0 (g_law_agrees) (fCons (fVar 0) (fCons (fVar 2) fNil)))) (fVar 2)))
    (gSeq (gFor (fRg1 (fCons (fBin dShl (fC (.int 1)) (fBi dLen (fCons (fVar 0) fNil))) fNil)) (.nm 2) (gSeq (gSet 4 false (fCall0 (g_has) (fCons (fVar 0) (fCons (fVar 2) fNil))))
    (gIf (fOr (fNot (fTest (fBi dIsi (fCons (fVar 4) (fCons (fC (.ty "bool")) fNil))))) (fTest (fBin dNe (fVar 4) (fBin dIn (fVar 2) (fVar 3))))) (gRet (fC (.bl false))) gNext)))
    (gSeq (gFor (fRg1 (fCons (fC (.int 2)) fNil)) (.nm 5) (gSeq (gSet 4 false (fCall0 (g_settings_of) (fCons (fVar 0) fNil)))
    (gSeq (gIf (fTest (fBin dNe (fVar 4) (fVar 3))) (gRet (fC (.bl false))) gNext)
    (gApp 4 (fC .non)))))
    (gSeq (gFor (fRg1 (fCons (fBi dLen (fCons (fVar 0) fNil)) fNil)) (.nm 6) (gIf (fTest (fBin dNe (fCall0 (g_freed) (fCons (fVar 0) (fCons (fVar 6) fNil))) (fBin dAdd (fBin dAdd (fSl (fVar 0) fNoPart (fPart (fVar 6))) (fC (.str [45]))) (fSl (fVar 0) (fPart (fBin dAdd (fVar 6) (fC (.int 1)))) fNoPart)))) (gRet (fC (.bl false))) gNext))
    (gRet (fAndV (fBin dIs (fCall0 (g_is_term) (fCons (fVar 0) (fCons (fBi dLen (fCons (fVar 0) fNil)) fNil))) (fC (.bl true))) (fBin dIs (fCall0 (g_is_term) (fCons (fCall0 (g_law_odd) (fCons (fVar 0) (fCons (fVar 1) fNil))) (fCons (fBi dLen (fCons (fVar 0) fNil)) fNil))) (fC (.bl false)))))))))
def g_law_term_right : List D → O R := run0 7 (b_law_term_right)
/- slots: 0 one, 1 other, 2 unlike, 3 at, 4 lamp -/
def b_laid : Fw.Env → Out := (gSeq (gIf (fTest (fBin dNe (fBi dLen (fCons (fVar 0) fNil)) (fBi dLen (fCons (fVar 1) fNil)))) (gRet (fC .non)) gNext)
    (gSeq (gSet 2 true (fLc (fRg1 (fCons (fBi dLen (fCons (fVar 0) fNil)) fNil)) [4] (.nm 4) (fTest (fBin dNe (fBin dIx (fVar 0) (fVar 4)) (fBin dIx (fVar 1) (fVar 4)))) (fVar 4)))
    (gSeq (gIf (fTest (fBin dNe (fBi dLen (fCons (fVar 2) fNil)) (fC (.int 1)))) (gRet (fC .non)) gNext)
    (gSeq (gSet 3 true (fBin dIx (fVar 2) (fC (.int 0))))
    (gSeq (gIf (fOr (fTest (fBin dEq (fBin dIx (fVar 0) (fVar 3)) (fC (.str [45])))) (fTest (fBin dEq (fBin dIx (fVar 1) (fVar 3)) (fC (.str [45]))))) (gRet (fC .non)) gNext)
    (gRet (fCall0 (g_freed) (fCons (fVar 0) (fCons (fVar 3) fNil)))))))))
def g_laid : List D → O R := run0 5 (b_laid)
/- slots: 0 _law_script, 1 _law_k, 2 _law_cell, 3 _law_draw_here, 4 _law_term, 5 _law_other, 6 _law_due -/
def b_law : Fw.Env → Out := (gSeq (gFor (fEnum true (fCons (fBin dAdd (fVar 0) (fLst (fCons (fC (.int 0)) fNil))) fNil)) (.tp [1, 2]) (gSeq (gSet 3 true (fCall0 (g_law_spread) (fCons (fVar 2) (fCons (fBin dMod (fVar 1) (fC (.int 60))) fNil))))
    (gSeq (gAsg (.tp [4, 5]) (fCall0 (g_law_pair) (fCons (fVar 2) (fCons (fBin dMod (fVar 1) (fC (.int 60))) fNil))))
    (gSeq (gIf (fOr (fNot (fTest (fCall0 (g_law_term_right) (fCons (fVar 4) (fCons (fBin dDiv (fVar 3) (fC (.int 7))) fNil))))) (fNot (fTest (fCall0 (g_law_term_right) (fCons (fVar 5) (fCons (fBin dDiv (fVar 3) (fC (.int 13))) fNil)))))) (gRet (fC (.bl false))) gNext)
    (gSeq (gSet 6 true (fCall0 (g_law_joined) (fCons (fVar 4) (fCons (fVar 5) fNil))))
    (gIf (fOr (fTest (fBin dNe (fCall0 (g_laid) (fCons (fVar 4) (fCons (fVar 5) fNil))) (fVar 6))) (fTest (fBin dNe (fCall0 (g_laid) (fCons (fVar 5) (fCons (fVar 4) fNil))) (fVar 6)))) (gRet (fC (.bl false))) gNext))))))
    (gRet (fC (.bl true))))
def g_law : List D → O R := run0 7 (b_law)
end K01
namespace K01
open PySem PySem.Spec PyProof.Rows L2 Fw
/-! ### what comes of the data -/
def Sg (s : List Nat) : Prop := ∀ c ∈ s, c = 48 ∨ c = 49 ∨ c = 45
theorem bit1 (n : Nat) : Builtin.bitAnd (n : Int) 1 = ((n % 2 : Nat) : Int) := by
  unfold Builtin.bitAnd
  simp [Nat.and_one_is_mod]
theorem shr_nat (n k : Nat) : (n : Int) / 2 ^ k = ((n / 2 ^ k : Nat) : Int) := by simp
def fin (o : Out) : O R := match o with
  | .nx _ => .ok (.val .non)
  | .rt r => .ok r
  | _ => .no
/-- how a lamp is -/
def sgn (n k : Nat) : Nat := if n / 2 ^ k % 2 = 1 then 49 else 48
theorem g_is_lit_eq (n k : Nat) : g_is_lit [.int n, .int k] = .ok (.val (.bl (decide (n / 2 ^ k % 2 = 1)))) := by
  unfold g_is_lit b_is_lit
  simp [run0, startE, slotD, flat, gSeq, gSet, gIf, gRet, gRetV, gNext, gExpr, fBin, fVar, fC, fCall0, fTest, R.tst, fNot, fAnd, fOr, fAndV, fIf, fNil, fCons, fLst, fTup, fSl, fPart, fNoPart, fBi, fRg1, R.fz, R.dat, R.sto, stoL, nrm, dAdd, dSub, dMod, dDiv, dMulA, dMul, i2, modC, divC, mulC, shlC, shrC, dShl, dShr, dAnd, dIx, atR, dLen, lenD, dSl, O.of, bit1, dEq, shp, deq, ← shr_nat]
  rw [shr_nat, bit1]
  by_cases h : n / 2 ^ k % 2 = 1
  · simp [dEq, shp, deq, h]
  · have h0 : n / 2 ^ k % 2 = 0 := by omega
    simp [dEq, shp, deq, h0]
theorem g_sign_at_eq (n k : Nat) : g_sign_at [.int n, .int k] = .ok (.val (.str [sgn n k])) := by
  unfold g_sign_at b_sign_at
  simp [run0, startE, slotD, flat, gSeq, gSet, gIf, gRet, gRetV, gNext, gExpr, fBin, fVar, fC, fCall0, fTest, R.tst, fNot, fAnd, fOr, fAndV, fIf, fNil, fCons, fLst, fTup, fSl, fPart, fNoPart, fBi, fRg1, R.fz, R.dat, R.sto, stoL, nrm, dAdd, dSub, dMod, dDiv, dMulA, dMul, i2, modC, divC, mulC, shlC, shrC, dShl, dShr, dAnd, dIx, atR, dLen, lenD, dSl, O.of, g_is_lit_eq, sgn]
  by_cases h : n / 2 ^ k % 2 = 1 <;> simp [h]
def okS (n k c : Nat) : Bool := decide (c = 45) || decide (c = sgn n k)
def agB (n : Nat) : Nat → List Nat → Bool
  | _, [] => true
  | k, c :: r => okS n k c && agB n (k + 1) r
theorem enum_loop {body : Fw.Env → Out} {t : List Nat} {n : Nat} (hb : ∀ (k c : Nat), (c = 48 ∨ c = 49 ∨ c = 45) → body [.val (.str t), .val (.int n), .val (.int k), .val (.str [c])] = if okS n k c = true then .nx [.val (.str t), .val (.int n), .val (.int k), .val (.str [c])] else .rt (.val (.bl false))) :
    ∀ (s : List Nat), Sg s → ∀ (k : Nat) (x y : Sl), (forL (.tp [2, 3]) body (enD k (signsD s)) [.val (.str t), .val (.int n), x, y]).seq (gRet (fC (.bl true))) = .rt (.val (.bl (agB n k s)))
  | [], _, k, x, y => rfl
  | c :: s, h, k, x, y => by
    have hc := h c (by simp)
    have ih := enum_loop hb s (fun d hd => h d (by simp [hd])) (k + 1) (.val (.int k)) (.val (.str [c]))
    have e1 : stTg (.tp [2, 3]) (R.val (.tup [.int (k : Int), .str [c]])) [.val (.str t), .val (.int n), x, y] = some [.val (.str t), .val (.int n), .val (.int k), .val (.str [c])] := rfl
    have hbb := hb k c hc
    show (forL (.tp [2, 3]) body (.val (.tup [.int (k : Int), .str [c]]) :: enD (k + 1) (signsD s)) [.val (.str t), .val (.int n), x, y]).seq _ = _
    rw [forL, e1]
    simp only [hbb]
    cases ho : okS n k c with
    | true =>
      simp only [if_true]
      rw [ih, agB, ho]
      simp
    | false =>
      rw [agB, ho]
      simp
theorem g_has_eq (s : List Nat) (hs : Sg s) (n : Nat) : g_has [.str s, .int n] = .ok (.val (.bl (agB n 0 s))) := by
  have h := enum_loop (t := s) (n := n) (body := gIf (fAnd (fTest (fBin dNe (fVar 3) (fC (.str [45])))) (fTest (fBin dNe (fVar 3) (fCall0 g_sign_at (fCons (fVar 1) (fCons (fVar 2) fNil)))))) (gRet (fC (.bl false))) gNext) (by
    intro k c hc
    have hsg : sgn n k = 48 ∨ sgn n k = 49 := by unfold sgn; split <;> simp
    rcases hc with rfl | rfl | rfl <;> rcases hsg with e | e <;> simp [run0, startE, slotD, flat, gSeq, gSet, gIf, gRet, gRetV, gNext, gExpr, fBin, fVar, fC, fCall0, fTest, R.tst, fNot, fAnd, fOr, fAndV, fIf, fNil, fCons, fLst, fTup, fSl, fPart, fNoPart, fBi, fRg1, R.fz, R.dat, R.sto, stoL, nrm, dAdd, dSub, dMod, dDiv, dMulA, dMul, i2, modC, divC, mulC, shlC, shrC, dShl, dShr, dAnd, dIx, atR, dLen, lenD, dSl, O.of, g_sign_at_eq, dNe, shp, deq, okS, e]) s hs 0 .no .no
  exact congrArg fin h
theorem g_law_agrees_eq (s : List Nat) (hs : Sg s) (n : Nat) : g_law_agrees [.str s, .int n] = .ok (.val (.bl (agB n 0 s))) := by
  have h := enum_loop (t := s) (n := n) (body := gIf (fAnd (fTest (fBin dNe (fVar 3) (fC (.str [45])))) (fTest (fBin dNe (fBi dInt (fCons (fVar 3) fNil)) (fBin dAnd (fBin dShr (fVar 1) (fVar 2)) (fC (.int 1)))))) (gRet (fC (.bl false))) gNext) (by
    intro k c hc
    have hsg : (n / 2 ^ k % 2 = 1 ∧ sgn n k = 49) ∨ (n / 2 ^ k % 2 = 0 ∧ sgn n k = 48) := by unfold sgn; split <;> omega
    rcases hc with rfl | rfl | rfl <;> rcases hsg with ⟨e0, e⟩ | ⟨e0, e⟩ <;> simp [run0, startE, slotD, flat, gSeq, gSet, gIf, gRet, gRetV, gNext, gExpr, fBin, fVar, fC, fCall0, fTest, R.tst, fNot, fAnd, fOr, fAndV, fIf, fNil, fCons, fLst, fTup, fSl, fPart, fNoPart, fBi, fRg1, R.fz, R.dat, R.sto, stoL, nrm, dAdd, dSub, dMod, dDiv, dMulA, dMul, i2, modC, divC, mulC, shlC, shrC, dShl, dShr, dAnd, dIx, atR, dLen, lenD, dSl, O.of, dInt, numS, dNe, shp, deq, okS, e] <;> rw [shr_nat, bit1, e0] <;> simp) s hs 0 .no .no
  exact congrArg fin h
/-! ### the law's own defs -/
theorem mulC_r {i j : Int} (h1 : -(2 ^ 64) < j) (h2 : j < 2 ^ 64) : mulC i j = true := by simp only [mulC, decide_eq_true_eq]; exact Or.inr ⟨h1, h2⟩
theorem mulC_l {i j : Int} (h1 : -(2 ^ 64) < i) (h2 : i < 2 ^ 64) : mulC i j = true := by simp only [mulC, decide_eq_true_eq]; exact Or.inl ⟨h1, h2⟩
def spr (c k : Int) : Int := (c + 3) * (48271 + 2 * k * k + k) % 2147483647
theorem spr_lo (c k : Int) : 0 ≤ spr c k := by unfold spr; omega
theorem spr_hi (c k : Int) : spr c k < 2147483647 := by unfold spr; omega
theorem g_law_spread_eq (c k : Int) (h0 : 0 ≤ k) (h1 : k < 100) : g_law_spread [.int c, .int k] = .ok (.val (.int (spr c k))) := by
  have m1 : mulC 2 k = true := mulC_l (by decide) (by decide)
  have m2 : mulC (2 * k) k = true := mulC_r (by omega) (by omega)
  have hk : 0 ≤ 2 * k * k ∧ 2 * k * k ≤ 20000 := by
    constructor
    · exact Int.mul_nonneg (by omega) h0
    · calc 2 * k * k ≤ 200 * 100 := Int.mul_le_mul (by omega) (by omega) h0 (by omega)
        _ = 20000 := by decide
  have m3 : mulC (c + 3) (48271 + 2 * k * k + k) = true := mulC_r (by omega) (by omega)
  unfold g_law_spread b_law_spread
  simp only [run0, startE, slotD, flat, gRet, fBin, fVar, fC, R.fz, dAdd, dMulA, dMul, dMod, i2, modC, O.of, List.map, List.length, List.replicate, List.append, m1, m2, m3, if_true]
  simp [m1, m2, m3, spr]
theorem cut_take {α : Type} (s : List α) (k : Nat) : cutL s none (some (k : Int)) = s.take k := by
  unfold cutL
  rw [HT.sIx_nat, HT.sIx_none]
  simp [List.take_eq_take_iff]
theorem cut_drop {α : Type} (s : List α) (k : Nat) : cutL s (some (k : Int)) none = s.drop k := by
  unfold cutL
  rw [HT.sIx_nat, HT.sIx_none]
  by_cases h : k ≤ s.length
  · rw [Nat.min_eq_left h, List.take_of_length_le (by simp)]
  · rw [Nat.min_eq_right (by omega)]
    simp [List.drop_eq_nil_of_le (Nat.le_of_lt (Nat.lt_of_not_le h))]
theorem atI_nat {α : Type} (s : List α) (k : Nat) : atI s (k : Int) = s[k]? := by
  unfold atI ixN
  by_cases h : k < s.length
  · simp [h]
  · simp [h]
/-- a text with another sign at a place -/
def put (s : List Nat) (k c : Nat) : List Nat := s.take k ++ [c] ++ s.drop (k + 1)
theorem put_len {s : List Nat} {k c : Nat} (h : k < s.length) : (put s k c).length = s.length := by
  simp [put]; omega
theorem put_sg {s : List Nat} {k c : Nat} (h : Sg s) (hc : c = 48 ∨ c = 49 ∨ c = 45) : Sg (put s k c) := by
  intro d hd
  simp only [put, List.mem_append, List.mem_singleton] at hd
  rcases hd with (hd | hd) | hd
  · exact h d (List.mem_of_mem_take hd)
  · subst hd; exact hc
  · exact h d (List.mem_of_mem_drop hd)
def Tm (n : Nat) (s : List Nat) : Prop := s.length = n ∧ Sg s
theorem of_nat {i : Int} (h : 0 ≤ i) : ∃ n : Nat, i = n := ⟨i.toNat, by omega⟩
/-- a sign of the three -/
theorem sign3 {i : Int} (h0 : 0 ≤ i) (h1 : i < 3) : ∃ c, atI [48, 49, 45] i = some c ∧ (c = 48 ∨ c = 49 ∨ c = 45) := by
  have : i = 0 ∨ i = 1 ∨ i = 2 := by omega
  rcases this with rfl | rfl | rfl
  · exact ⟨48, rfl, by simp⟩
  · exact ⟨49, rfl, by simp⟩
  · exact ⟨45, rfl, by simp⟩
end K01
namespace K01
open PySem PySem.Spec PyProof.Rows L2 Fw
/-! ### loops over a range -/
theorem forL_rgA {t : Tg} {body : Fw.Env → Out} {n : Nat} (I : Nat → Fw.Env → Prop) (hb : ∀ i, i < n → ∀ es, I i es → ∃ e1, stTg t (.val (.int (i : Nat))) es = some e1 ∧ ∃ e2, body e1 = .nx e2 ∧ I (i + 1) e2) :
    ∀ (m k : Nat) (es : Fw.Env), k + m = n → I k es → ∃ e2, forL t body ((List.range' k m).map fun i => .val (.int (0 + (i : Nat)))) es = .nx e2 ∧ I n e2
  | 0, k, es, h, hi => by
    have : k = n := by omega
    subst this
    exact ⟨es, rfl, hi⟩
  | m + 1, k, es, h, hi => by
    obtain ⟨e1, h1, e2, h2, h3⟩ := hb k (by omega) es hi
    obtain ⟨e3, h4, h5⟩ := forL_rgA I hb m (k + 1) e2 (by omega) h3
    refine ⟨e3, ?_, h5⟩
    rw [List.range'_succ, List.map_cons, forL, Int.zero_add, h1]
    simp only [h2]
    exact h4
theorem forL_rg {t : Tg} {body : Fw.Env → Out} {n : Nat} (I : Nat → Fw.Env → Prop) (hb : ∀ i, i < n → ∀ es, I i es → ∃ e1, stTg t (.val (.int (i : Nat))) es = some e1 ∧ ∃ e2, body e1 = .nx e2 ∧ I (i + 1) e2)
    {es : Fw.Env} (h : I 0 es) : ∃ e2, forL t body (rgD 0 n) es = .nx e2 ∧ I n e2 := by
  have := forL_rgA I hb n 0 es (by omega) h
  rwa [← List.range_eq_range'] at this
theorem lcL_rgA {t : Tg} {cond : Fw.Env → O Bool} {elt : Fw.Env → O R} {es : Fw.Env} {n : Nat} (p : Nat → Bool) (f : Nat → D)
    (h : ∀ i, i < n → ∃ e1, stTg t (.val (.int (i : Nat))) es = some e1 ∧ cond e1 = .ok (p i) ∧ (p i = true → elt e1 = .ok (.val (f i)))) :
    ∀ (m k : Nat), k + m = n → lcL t cond elt es ((List.range' k m).map fun i => .val (.int (0 + (i : Nat)))) = .ok (((List.range' k m).filter p).map f)
  | 0, k, _ => rfl
  | m + 1, k, hk => by
    obtain ⟨e1, h1, h2, h3⟩ := h k (by omega)
    have ih := lcL_rgA p f h m (k + 1) (by omega)
    rw [List.range'_succ, List.map_cons, lcL, Int.zero_add, h1]
    simp only [h2, noX, O.bind_ok]
    cases hp : p k with
    | true =>
      rw [if_pos rfl, h3 hp]
      simp only [noX, O.bind_ok, R.fz, R.sto, ih]
      simp [hp]
    | false =>
      rw [if_neg (by simp), ih]
      simp [hp]
theorem lcL_rg {t : Tg} {cond : Fw.Env → O Bool} {elt : Fw.Env → O R} {es : Fw.Env} {n : Nat} (p : Nat → Bool) (f : Nat → D)
    (h : ∀ i, i < n → ∃ e1, stTg t (.val (.int (i : Nat))) es = some e1 ∧ cond e1 = .ok (p i) ∧ (p i = true → elt e1 = .ok (.val (f i)))) :
    lcL t cond elt es (rgD 0 n) = .ok (((List.range n).filter p).map f) := by
  have := lcL_rgA p f h n 0 (by omega)
  rwa [← List.range_eq_range'] at this
/-! ### single steps -/
theorem add_s {s t : List Nat} (h : s.length + t.length ≤ 100000) : dAdd (.val (.str s)) (.val (.str t)) = some (.val (.str (s ++ t))) := if_pos h
theorem add_i (i j : Int) : dAdd (.val (.int i)) (.val (.int j)) = some (.val (.int (i + j))) := rfl
theorem mod_i {i j : Int} (h : 0 < j) : dMod (.val (.int i)) (.val (.int j)) = some (.val (.int (i % j))) := if_pos (decide_eq_true h)
theorem div_i {i j : Int} (h : 0 < j ∧ j < 1073741824) : dDiv (.val (.int i)) (.val (.int j)) = some (.val (.int (i / j))) := if_pos (decide_eq_true h)
theorem len_s {s : List Nat} (h : s.length ≤ 100000) : dLen [.val (.str s)] = some (.val (.int (s.length : Nat))) := by
  show (if s.length ≤ 100000 then some (s.length : Int) else none).map _ = _
  rw [if_pos h]; rfl
theorem sl_take {s : List Nat} {k : Nat} (h : s.length ≤ 100000) : dSl (.val (.str s)) none (some (k : Int)) = some (.val (.str (s.take k))) := by
  show (if s.length ≤ 100000 then some (R.val (D.str (cutL s none (some (k : Int))))) else none) = _
  rw [cut_take]; exact if_pos h
theorem sl_drop {s : List Nat} {k : Nat} (h : s.length ≤ 100000) : dSl (.val (.str s)) (some (k : Int)) none = some (.val (.str (s.drop k))) := by
  show (if s.length ≤ 100000 then some (R.val (D.str (cutL s (some (k : Int)) none))) else none) = _
  rw [cut_drop]; exact if_pos h
theorem sl_drop1 {s : List Nat} {k : Nat} (h : s.length ≤ 100000) : dSl (.val (.str s)) (some ((k : Int) + 1)) none = some (.val (.str (s.drop (k + 1)))) := by
  have e : (k : Int) + 1 = ((k + 1 : Nat) : Int) := by omega
  rw [e]; exact sl_drop h
theorem ix_s {s : List Nat} {i : Int} {c : Nat} (h : s.length ≤ 100000) (e : atI s i = some c) : dIx (.val (.str s)) (.val (.int i)) = some (.val (.str [c])) := by
  show (if s.length ≤ 100000 then (atI s i).map (fun c => R.val (.str [c])) else none) = _
  rw [e]
  exact if_pos h
theorem small {s : List Nat} {n : Nat} (h : s.length = n) (h2 : n ≤ 10) : s.length ≤ 100000 := Nat.le_trans (Nat.le_of_eq h) (Nat.le_trans h2 (by decide))
theorem le100k {n : Nat} (h2 : n ≤ 50) : n ≤ 100000 := Nat.le_trans h2 (by decide)
end K01
namespace K01
open PySem PySem.Spec PyProof.Rows L2 Fw
theorem bent_step {g : List D → O R} {n : Nat} {s : List Nat} (hs : Tm n s) (n0 : 0 < n) (n1 : n ≤ 5) (d : Int) (k : Nat) (b c : Sl) (hg : ∃ m : Nat, g [.int d, .int k] = .ok (.val (.int m))) :
    ∃ u b' c', Tm n u ∧ (gSeq (gSet 3 true (fCall0 g (fCons (fVar 1) (fCons (fVar 2) fNil))))
    (gSeq (gSet 4 true (fBin dMod (fVar 3) (fBi dLen (fCons (fVar 0) fNil))))
    (gSet 0 true (fBin dAdd (fBin dAdd (fSl (fVar 0) fNoPart (fPart (fVar 4))) (fBin dIx (fC (.str [48, 49, 45])) (fBin dMod (fBin dDiv (fVar 3) (fC (.int 7))) (fC (.int 3))))) (fSl (fVar 0) (fPart (fBin dAdd (fVar 4) (fC (.int 1)))) fNoPart)))))
      [.val (.str s), .val (.int d), .val (.int k), b, c] = .nx [.val (.str u), .val (.int d), .val (.int k), b', c'] := by
  obtain ⟨m, hsp⟩ := hg
  have hl := hs.1
  obtain ⟨cc, hc1, hc2⟩ := sign3 (i := (m : Int) / 7 % 3) (by omega) (by omega)
  have hp : (0 : Int) < (s.length : Nat) := by omega
  obtain ⟨q, hat⟩ := of_nat (Int.emod_nonneg (m : Int) (Int.ne_of_gt hp))
  have hlt : q < n := by
    have := Int.emod_lt_of_pos (m : Int) hp
    omega
  refine ⟨put s q cc, .val (.int m), .val (.int q), ⟨by rw [put_len (by omega)]; exact hl, put_sg hs.2 hc2⟩, ?_⟩
  have g1 : s.length ≤ 100000 := small hl (by omega)
  have g3 : (s.take q ++ [cc]).length + (s.drop (q + 1)).length ≤ 100000 := le100k (by simp; omega)
  have g4 : (s.take q).length + [cc].length ≤ 100000 := le100k (by simp; omega)
  have g5 : [48, 49, 45].length ≤ 100000 := le100k (by decide)
  simp only [gSeq, gSet, fCall0, fCons, fVar, fNil, fBin, fBi, fC, fSl, fPart, fNoPart, R.fz, R.dat, List.getElem?_cons_zero, List.getElem?_cons_succ, O.bind_ok, List.map_cons, List.map_nil, hsp, O.out_ok, Out.seq_nx, if_true, List.set_cons_zero, List.set_cons_succ, len_s g1, O.of_some, mod_i hp, hat, sl_take g1, sl_drop1 g1, div_i (i := (m : Int)) (j := 7) (by decide), mod_i (j := 3) (by decide), ix_s g5 hc1, add_s g3, add_s g4, add_i]
  rfl
theorem spr_nat (c k : Int) (h0 : 0 ≤ k) (h1 : k < 100) : ∃ m : Nat, g_law_spread [.int c, .int k] = .ok (.val (.int m)) := by
  obtain ⟨m, hm⟩ := of_nat (spr_lo c k)
  exact ⟨m, by rw [g_law_spread_eq c k h0 h1, hm]⟩
theorem g_law_bent_eq {n : Nat} {s : List Nat} (hs : Tm n s) (n0 : 0 < n) (n1 : n ≤ 5) (d : Int) : ∃ u, Tm n u ∧ g_law_bent [.str s, .int d] = .ok (.val (.str u)) := by
  have h3 : (d % 3).toNat ≤ 3 := by omega
  obtain ⟨e2, h1, s2, a, b, c, h2, h4⟩ := forL_rg (t := .nm 2) (n := (d % 3).toNat) (es := [.val (.str s), .val (.int d), .no, .no, .no])
    (I := fun _ es => ∃ s a b c, es = [.val (.str s), .val (.int d), a, b, c] ∧ Tm n s)
    (body := (gSeq (gSet 3 true (fCall0 g_law_spread (fCons (fVar 1) (fCons (fVar 2) fNil))))
    (gSeq (gSet 4 true (fBin dMod (fVar 3) (fBi dLen (fCons (fVar 0) fNil))))
    (gSet 0 true (fBin dAdd (fBin dAdd (fSl (fVar 0) fNoPart (fPart (fVar 4))) (fBin dIx (fC (.str [48, 49, 45])) (fBin dMod (fBin dDiv (fVar 3) (fC (.int 7))) (fC (.int 3))))) (fSl (fVar 0) (fPart (fBin dAdd (fVar 4) (fC (.int 1)))) fNoPart))))))
    (fun i hi es ⟨s, a, b, c, h, ht⟩ => by
      subst h
      obtain ⟨u, b', c', hu, e⟩ := bent_step (g := g_law_spread) ht n0 n1 d i b c (spr_nat d i (by omega) (by omega))
      exact ⟨_, rfl, _, e, u, _, b', c', rfl, hu⟩) ⟨s, _, _, _, rfl, hs⟩
  subst h2
  refine ⟨s2, h4, ?_⟩
  have hr : -(2 ^ 62) ≤ d % 3 ∧ d % 3 < 2 ^ 62 := by omega
  have hq : fRg1 (fCons (fBin dMod (fVar 1) (fC (.int 3))) fNil) [.val (.str s), .val (.int d), .no, .no, .no] = .ok (rgD 0 (d % 3).toNat) := by
    simp only [fRg1, fCons, fVar, fNil, fBin, fC, R.fz, O.bind_ok, O.of_some, List.getElem?_cons_zero, List.getElem?_cons_succ, mod_i (j := 3) (by decide)]
    exact if_pos hr
  have e : g_law_bent [.str s, .int d] = fin ((O.out (fRg1 (fCons (fBin dMod (fVar 1) (fC (.int 3))) fNil) [.val (.str s), .val (.int d), .no, .no, .no]) [.val (.str s), .val (.int d), .no, .no, .no] (fun xs => forL (.nm 2) (gSeq (gSet 3 true (fCall0 g_law_spread (fCons (fVar 1) (fCons (fVar 2) fNil))))
    (gSeq (gSet 4 true (fBin dMod (fVar 3) (fBi dLen (fCons (fVar 0) fNil))))
    (gSet 0 true (fBin dAdd (fBin dAdd (fSl (fVar 0) fNoPart (fPart (fVar 4))) (fBin dIx (fC (.str [48, 49, 45])) (fBin dMod (fBin dDiv (fVar 3) (fC (.int 7))) (fC (.int 3))))) (fSl (fVar 0) (fPart (fBin dAdd (fVar 4) (fC (.int 1)))) fNoPart))))) xs [.val (.str s), .val (.int d), .no, .no, .no])).seq (gRetV 0)) := rfl
  rw [e, hq, O.out_ok, h1]
  rfl
end K01
namespace K01
open PySem PySem.Spec PyProof.Rows L2 Fw
/-! ### rules of steps -/
section
variable {es e2 : Fw.Env} {f fa fb : Fw.Env → O R} {g h : Fw.Env → Out} {d : R → R → Option R} {a b : D} {c : R} {i : Nat} {fr : Fw.Env → O (List R)} {rs : List R} {k : Bool} {tt : Fw.Env → O Bool}
theorem set_v {fz : Bool} (h : f es = .ok (.val a)) : gSet i fz f es = .nx (es.set i (.val a)) := by
  unfold gSet; rw [h]; cases fz <;> rfl
theorem set_n {xs : List D} (h : f es = .ok (.new xs)) : gSet i true f es = .nx (es.set i (.val (.lst xs))) := by
  unfold gSet; rw [h]; rfl
theorem set_own {xs : List D} (h : f es = .ok (.new xs)) : gSet i false f es = .nx (es.set i (.own xs)) := by
  unfold gSet; rw [h]; rfl
theorem seq_n (h1 : g es = .nx e2) : gSeq g h es = h e2 := by unfold gSeq; rw [h1]; rfl
theorem seq_r {r : R} (h1 : g es = .rt r) : gSeq g h es = .rt r := by unfold gSeq; rw [h1]; rfl
theorem if_o (h1 : tt es = .ok k) : gIf tt g h es = if k = true then g es else h es := by unfold gIf; rw [h1]; rfl
theorem if_t (h1 : tt es = .ok true) : gIf tt g h es = g es := by unfold gIf; rw [h1]; rfl
theorem if_f (h1 : tt es = .ok false) : gIf tt g gNext es = .nx es := by unfold gIf; rw [h1]; rfl
theorem bin_o (ha : fa es = .ok (.val a)) (hb : fb es = .ok (.val b)) (hc : d (.val a) (.val b) = some c) : fBin d fa fb es = .ok c := by
  unfold fBin; rw [ha, O.bind_ok, hb, O.bind_ok]
  show O.of (d (.val a) (.val b)) = _
  rw [hc]; rfl
theorem cons_o (ha : fa es = .ok (.val a)) (hr : fr es = .ok rs) : fCons fa fr es = .ok (.val a :: rs) := by
  unfold fCons; rw [ha, O.bind_ok, hr]; rfl
theorem nil_o : fNil es = .ok [] := rfl
theorem call_o {gg : List D → O R} (h1 : fr es = .ok rs) (hg : gg (rs.map R.dat) = .ok (.val a)) : fCall0 gg fr es = .ok (.val a) := by
  unfold fCall0; rw [h1, O.bind_ok, hg]
theorem call_n {gg : List D → O R} {xs : List D} (h1 : fr es = .ok rs) (hg : gg (rs.map R.dat) = .ok (.new xs)) : fCall0 gg fr es = .ok (.new xs) := by
  unfold fCall0; rw [h1, O.bind_ok, hg]
theorem bi_o {dd : List R → Option R} (h1 : fr es = .ok rs) (hg : dd rs = some c) : fBi dd fr es = .ok c := by
  unfold fBi; rw [h1, O.bind_ok, hg]; rfl
theorem test_o (h1 : f es = .ok (.val (.bl k))) : fTest f es = .ok k := by
  unfold fTest; rw [h1]; rfl
theorem ifv_o (h1 : tt es = .ok k) : fIf tt fa fb es = if k = true then fa es else fb es := by unfold fIf; rw [h1]; rfl
theorem ret_v (h1 : f es = .ok (.val a)) : gRet f es = .rt (.val a) := by unfold gRet; rw [h1]; rfl
theorem ret_n {xs : List D} (h1 : f es = .ok (.new xs)) : gRet f es = .rt (.new xs) := by unfold gRet; rw [h1]; rfl
theorem tup2 {x y : D} (ha : fa es = .ok (.val x)) (hb : fb es = .ok (.val y)) : fTup (fCons fa (fCons fb fNil)) es = .ok (.val (.tup [x, y])) := by
  unfold fTup; rw [cons_o ha (cons_o hb nil_o), O.bind_ok]; rfl
theorem slt {s : List Nat} {k : Nat} (ha : fa es = .ok (.val (.str s))) (hb : fb es = .ok (.val (.int k))) (h : s.length ≤ 100000) : fSl fa fNoPart (fPart fb) es = .ok (.val (.str (s.take k))) := by
  unfold fSl fNoPart fPart; rw [ha, O.bind_ok, O.bind_ok, hb, O.bind_ok, O.bind_ok]
  show O.of (dSl (.val (.str s)) none (some (k : Int))) = _
  rw [sl_take h]; rfl
theorem sld {s : List Nat} {k : Nat} (ha : fa es = .ok (.val (.str s))) (hb : fb es = .ok (.val (.int k))) (h : s.length ≤ 100000) : fSl fa (fPart fb) fNoPart es = .ok (.val (.str (s.drop k))) := by
  unfold fSl fNoPart fPart; rw [ha, O.bind_ok, hb, O.bind_ok, O.bind_ok, O.bind_ok]
  show O.of (dSl (.val (.str s)) (some (k : Int)) none) = _
  rw [sl_drop h]; rfl
theorem sld1 {s : List Nat} {k : Nat} (ha : fa es = .ok (.val (.str s))) (hb : fb es = .ok (.val (.int ((k : Int) + 1)))) (h : s.length ≤ 100000) : fSl fa (fPart fb) fNoPart es = .ok (.val (.str (s.drop (k + 1)))) := by
  unfold fSl fNoPart fPart; rw [ha, O.bind_ok, hb, O.bind_ok, O.bind_ok, O.bind_ok]
  show O.of (dSl (.val (.str s)) (some ((k : Int) + 1)) none) = _
  rw [sl_drop1 h]; rfl
theorem fc_o : fC a es = .ok (.val a) := rfl
theorem rg_o {n : Nat} (h : fa es = .ok (.val (.int n))) (hn : n ≤ 1000) : fRg1 (fCons fa fNil) es = .ok (rgD 0 n) := by
  unfold fRg1
  rw [cons_o h nil_o, O.bind_ok]
  show (if -(2 ^ 62) ≤ (n : Int) ∧ (n : Int) < 2 ^ 62 then _ else _) = _
  rw [if_pos (by omega)]; rfl
theorem for_o {src : Fw.Env → O (List R)} {t : Tg} {body : Fw.Env → Out} {xs : List R} (h : src es = .ok xs) : gFor src t body es = forL t body xs es := by unfold gFor; rw [h]; rfl
theorem eq_i (x y : Int) : dEq (.val (.int x)) (.val (.int y)) = some (.val (.bl (x == y))) := by
  simp [dEq, R.dat, shp, deq]
end
/-! ### the pair -/
theorem join1 : ∀ cs : List Nat, joinS [] (cs.map fun c => [c]) = cs
  | [] => rfl
  | [c] => rfl
  | c :: e :: r => by
    have := join1 (e :: r)
    simp only [List.map_cons] at this ⊢
    rw [joinS, this]; rfl
theorem strs1 : ∀ cs : List Nat, strsOf (cs.map fun c => D.str [c]) = some (cs.map fun c => [c])
  | [] => rfl
  | c :: r => by
    rw [List.map_cons, strsOf, strs1 r]; rfl
theorem sum1 : ∀ cs : List Nat, ((cs.map fun c => [c]).map (·.length)).sum = cs.length
  | [] => rfl
  | c :: r => by
    have := sum1 r
    simp only [List.map_cons, List.sum_cons, List.length_cons, List.length_nil] at this ⊢
    omega
theorem join_eq {cs : List Nat} (h : cs.length ≤ 1000) : dJoin [] (.val (.lst (cs.map fun c => D.str [c]))) = some (.val (.str cs)) := by
  simp only [dJoin, R.dat, itmD, strs1, sum1, join1, List.length_map, List.length_nil, Nat.mul_zero, Nat.add_zero]
  exact if_pos (Nat.le_trans h (by decide))
theorem pair_even {gs gb : List D → O R} {es : Fw.Env} {c k d n : Nat} {l : Int} (n0 : 0 < n) (n1 : n ≤ 5)
    (hgs : ∀ c k : Int, 0 ≤ k → k < 100 → ∃ m : Nat, gs [.int c, .int k] = .ok (.val (.int m))) (hgb : ∀ (n : Nat) (s : List Nat) (d : Int), Tm n s → 0 < n → n ≤ 5 → ∃ u, Tm n u ∧ gb [.str s, .int d] = .ok (.val (.str u)))
    (he : ∃ a b z x, es = [a, b, .val (.int d), z, .val (.int n), .no, .no, .no, x]) : ∃ s u, Tm n s ∧ Tm n u ∧
    (gSeq (gSet 5 true (fM1 dJoin (fC (.str [])) (fLc (fRg1 (fCons (fVar 4) fNil)) [8] (.nm 8) fYes (fBin dIx (fC (.str [48, 49, 45])) (fBin dMod (fBin dDiv (fCall0 gs (fCons (fVar 2) (fCons (fVar 8) fNil))) (fC (.int 9))) (fC (.int 3)))))))
    (gRet (fTup (fCons (fVar 5) (fCons (fCall0 gb (fCons (fVar 5) (fCons (fBin dDiv (fVar 2) (fC (.int 11))) fNil))) fNil))))) es = .rt (.val (.tup [.str s, .str u])) := by
  obtain ⟨a, b, z, x, rfl⟩ := he
  have hsp : ∀ i : Nat, ∃ m : Nat, i < n → gs [.int d, .int i] = .ok (.val (.int m)) := fun i => by
    by_cases h : i < n
    · obtain ⟨m, h2⟩ := hgs d i (by omega) (by omega)
      exact ⟨m, fun _ => h2⟩
    · exact ⟨0, fun h2 => absurd h2 h⟩
  let M : Nat → Nat := fun i => Classical.choose (hsp i)
  have hM : ∀ i, i < n → gs [.int d, .int i] = .ok (.val (.int (M i))) := fun i hi => Classical.choose_spec (hsp i) hi
  have hC : ∀ i : Nat, ∃ c, atI [48, 49, 45] ((M i : Int) / 9 % 3) = some c ∧ (c = 48 ∨ c = 49 ∨ c = 45) := fun i => sign3 (by omega) (by omega)
  let C : Nat → Nat := fun i => Classical.choose (hC i)
  have hC1 : ∀ i, atI [48, 49, 45] ((M i : Int) / 9 % 3) = some (C i) := fun i => (Classical.choose_spec (hC i)).1
  have hC2 : ∀ i, C i = 48 ∨ C i = 49 ∨ C i = 45 := fun i => (Classical.choose_spec (hC i)).2
  have g5 : [48, 49, 45].length ≤ 100000 := le100k (by decide)
  have hs : Tm n ((List.range n).map C) := ⟨by simp, fun e he => by
    obtain ⟨i, _, rfl⟩ := List.mem_map.mp he
    exact hC2 i⟩
  obtain ⟨u, hu, hu2⟩ := hgb n _ ((d : Int) / 11) hs n0 n1
  refine ⟨(List.range n).map C, u, hs, hu, ?_⟩
  have hl := lcL_rg (t := .nm 8) (cond := fYes) (elt := (fBin dIx (fC (.str [48, 49, 45])) (fBin dMod (fBin dDiv (fCall0 gs (fCons (fVar 2) (fCons (fVar 8) fNil))) (fC (.int 9))) (fC (.int 3)))))
    (es := [a, b, .val (.int d), z, .val (.int n), .no, .no, .no, .no]) (n := n) (fun _ => true) (fun i => .str [C i]) (fun i hi => ⟨_, rfl, rfl, fun _ =>
      bin_o rfl (bin_o (bin_o (call_o (cons_o rfl (cons_o rfl nil_o)) (hM i hi)) rfl (div_i (by decide))) rfl (mod_i (by decide))) (ix_s g5 (hC1 i))⟩)
  have hf : (List.range n).filter (fun _ => true) = List.range n := List.filter_eq_self.mpr fun _ _ => rfl
  rw [hf] at hl
  have hlc : fLc (fRg1 (fCons (fVar 4) fNil)) [8] (.nm 8) fYes (fBin dIx (fC (.str [48, 49, 45])) (fBin dMod (fBin dDiv (fCall0 gs (fCons (fVar 2) (fCons (fVar 8) fNil))) (fC (.int 9))) (fC (.int 3))))
      [a, b, .val (.int d), z, .val (.int n), .no, .no, .no, x] = .ok (.new ((List.range n).map fun i => .str [C i])) := by
    unfold fLc
    rw [rg_o (n := n) rfl (by omega), O.bind_ok, if_pos (by simp [rgD]; omega)]
    show (noX (lcL _ _ _ [a, b, .val (.int d), z, .val (.int n), .no, .no, .no, .no] _)).bind _ = _
    rw [hl]; rfl
  have hm : (List.range n).map (fun i => D.str [C i]) = ((List.range n).map C).map fun c => D.str [c] := by simp
  have hj : fM1 dJoin (fC (.str [])) (fLc (fRg1 (fCons (fVar 4) fNil)) [8] (.nm 8) fYes (fBin dIx (fC (.str [48, 49, 45])) (fBin dMod (fBin dDiv (fCall0 gs (fCons (fVar 2) (fCons (fVar 8) fNil))) (fC (.int 9))) (fC (.int 3)))))
      [a, b, .val (.int d), z, .val (.int n), .no, .no, .no, x] = .ok (.val (.str ((List.range n).map C))) := by
    unfold fM1
    rw [fc_o, O.bind_ok, hlc, hm]
    show O.of (dJoin [] (.val (.lst (((List.range n).map C).map fun c => D.str [c])))) = _
    rw [join_eq (by simp; omega)]; rfl
  rw [seq_n (set_v hj)]
  exact ret_v (tup2 rfl (call_o (cons_o rfl (cons_o (bin_o rfl rfl (div_i (by decide))) nil_o)) hu2))
theorem pair_loop {es : Fw.Env} {n : Nat} {l : Int} (n1 : n ≤ 5) (he : ∃ a b c x y z, es = [a, b, c, .val (.int l), .val (.int n), x, .val (.str []), y, z]) :
    ∃ w a b c l' x y z, gFor (fRg1 (fCons (fBin dMulA (fC (.int 2)) (fVar 4)) fNil)) (.nm 7) (gSeq (gSet 6 true (fBin dAdd (fVar 6) (fBin dIx (fC (.str [48, 49, 45])) (fBin dMod (fVar 3) (fC (.int 3))))))
    (gSet 3 true (fBin dDiv (fVar 3) (fC (.int 3))))) es = .nx [a, b, c, .val (.int l'), .val (.int n), x, .val (.str w), y, z] ∧ Tm (2 * n) w := by
  obtain ⟨a, b, c, x, y, z, rfl⟩ := he
  have hm : dMulA (.val (.int 2)) (.val (.int n)) = some (.val (.int ((2 * n : Nat) : Int))) := by
    show (if mulC 2 (n : Int) = true then some (R.val (.int (2 * (n : Int)))) else none) = _
    rw [mulC_l (by decide) (by decide)]
    simp
  have g5 : [48, 49, 45].length ≤ 100000 := le100k (by decide)
  obtain ⟨e2, h1, w, l', y', h2, h3⟩ := forL_rg (t := .nm 7) (n := 2 * n) (es := [a, b, c, .val (.int l), .val (.int n), x, .val (.str []), y, z])
    (I := fun i es => ∃ w l y, es = [a, b, c, .val (.int l), .val (.int n), x, .val (.str w), y, z] ∧ Tm i w)
    (body := (gSeq (gSet 6 true (fBin dAdd (fVar 6) (fBin dIx (fC (.str [48, 49, 45])) (fBin dMod (fVar 3) (fC (.int 3))))))
    (gSet 3 true (fBin dDiv (fVar 3) (fC (.int 3))))))
    (fun i hi es ⟨w, l, y, h, ht⟩ => by
      subst h
      obtain ⟨cc, hc1, hc2⟩ := sign3 (i := l % 3) (by omega) (by omega)
      refine ⟨_, rfl, [a, b, c, .val (.int (l / 3)), .val (.int n), x, .val (.str (w ++ [cc])), .val (.int i), z], ?_, _, _, _, rfl, ?_⟩
      · rw [seq_n (set_v (bin_o rfl (bin_o rfl (bin_o rfl rfl (mod_i (by decide))) (ix_s g5 hc1)) (add_s (le100k (by have := ht.1; simp; omega)))))]
        exact set_v (bin_o rfl rfl (div_i (by decide)))
      · refine ⟨by have := ht.1; simp; omega, fun e he => ?_⟩
        rcases List.mem_append.mp he with he | he
        · exact ht.2 e he
        · rw [List.mem_singleton] at he; subst he; exact hc2) ⟨[], l, y, rfl, rfl, fun e he => by cases he⟩
  subst h2
  refine ⟨w, a, b, c, l', x, y', z, ?_, h3⟩
  rw [for_o (rg_o (n := 2 * n) (bin_o rfl rfl hm) (by omega))]
  exact h1
theorem pair_eq (c k : Int) (k0 : 0 ≤ k) (k1 : k < 100) : ∃ n s u, 0 < n ∧ n ≤ 5 ∧ Tm n s ∧ Tm n u ∧ g_law_pair [.int c, .int k] = .ok (.val (.tup [.str s, .str u])) := by
  obtain ⟨d, hd⟩ := spr_nat c k k0 k1
  have step1 : gSet 2 true (fCall0 g_law_spread (fCons (fVar 0) (fCons (fVar 1) fNil))) [.val (.int c), .val (.int k), .no, .no, .no, .no, .no, .no, .no] = .nx [.val (.int c), .val (.int k), .val (.int d), .no, .no, .no, .no, .no, .no] :=
    set_v (call_o (cons_o rfl (cons_o rfl nil_o)) hd)
  have heq : dEq (.val (.int (c % 2))) (.val (.int 1)) = some (.val (.bl (c % 2 == 1))) := eq_i _ _
  have heq0 : dEq (.val (.int (c % 2))) (.val (.int 0)) = some (.val (.bl (c % 2 == 0))) := eq_i _ _
  obtain ⟨l, hl⟩ : ∃ l : Int, l = if (c % 2 == 1) = true then c / 2 else (d : Int) := ⟨_, rfl⟩
  have step2 : gSet 3 true (fIf (fTest (fBin dEq (fBin dMod (fVar 0) (fC (.int 2))) (fC (.int 1)))) (fBin dDiv (fVar 0) (fC (.int 2))) (fVar 2)) [.val (.int c), .val (.int k), .val (.int d), .no, .no, .no, .no, .no, .no]
      = .nx [.val (.int c), .val (.int k), .val (.int d), .val (.int l), .no, .no, .no, .no, .no] := by
    refine set_v ?_
    rw [ifv_o (test_o (bin_o (bin_o rfl rfl (mod_i (by decide))) rfl heq)), hl]
    by_cases h : (c % 2 == 1) = true
    · rw [if_pos h, if_pos h]
      exact bin_o rfl rfl (div_i (by decide))
    · rw [if_neg h, if_neg h]; rfl
  obtain ⟨n, hn⟩ := of_nat (i := 1 + l % 5) (by omega)
  have n0 : 0 < n := by omega
  have n1 : n ≤ 5 := by omega
  have step3 : gSet 4 true (fBin dAdd (fC (.int 1)) (fBin dMod (fVar 3) (fC (.int 5)))) [.val (.int c), .val (.int k), .val (.int d), .val (.int l), .no, .no, .no, .no, .no]
      = .nx [.val (.int c), .val (.int k), .val (.int d), .val (.int l), .val (.int n), .no, .no, .no, .no] :=
    set_v (bin_o rfl (bin_o rfl rfl (mod_i (by decide))) (by rw [add_i, hn]))
  have tst : fTest (fBin dEq (fBin dMod (fVar 0) (fC (.int 2))) (fC (.int 0))) [.val (.int c), .val (.int k), .val (.int d), .val (.int l), .val (.int n), .no, .no, .no, .no] = .ok (c % 2 == 0) :=
    test_o (bin_o (bin_o rfl rfl (mod_i (by decide))) rfl heq0)
  by_cases h : (c % 2 == 0) = true
  · obtain ⟨s, u, hs, hu, e⟩ := pair_even (c := 0) (k := 0) (l := 0) (gs := g_law_spread) (gb := g_law_bent) n0 n1 (fun c k => spr_nat c k) (fun n s d hs h0 h1 => g_law_bent_eq hs h0 h1 d) ⟨.val (.int c), .val (.int k), .val (.int l), .no, rfl⟩ (d := d)
    refine ⟨n, s, u, n0, n1, hs, hu, ?_⟩
    refine congrArg fin (?_ : b_law_pair [.val (.int c), .val (.int k), .no, .no, .no, .no, .no, .no, .no] = .rt (.val (.tup [.str s, .str u])))
    unfold b_law_pair
    rw [seq_n step1, seq_n step2, seq_n step3]
    rw [h] at tst
    exact seq_r ((if_t tst).trans e)
  · have step4 : gSet 3 true (fBin dDiv (fVar 3) (fC (.int 5))) [.val (.int c), .val (.int k), .val (.int d), .val (.int l), .val (.int n), .no, .no, .no, .no]
      = .nx [.val (.int c), .val (.int k), .val (.int d), .val (.int (l / 5)), .val (.int n), .no, .no, .no, .no] := set_v (bin_o rfl rfl (div_i (by decide)))
    have step5 : gSet 6 true (fC (.str [])) [.val (.int c), .val (.int k), .val (.int d), .val (.int (l / 5)), .val (.int n), .no, .no, .no, .no]
      = .nx [.val (.int c), .val (.int k), .val (.int d), .val (.int (l / 5)), .val (.int n), .no, .val (.str []), .no, .no] := set_v rfl
    obtain ⟨w, a', b', c', l', x', y', z', e, hw⟩ := pair_loop (l := l / 5) n1 ⟨.val (.int c), .val (.int k), .val (.int d), .no, .no, .no, rfl⟩
    have hwl := hw.1
    have g1 : w.length ≤ 100000 := small hwl (by omega)
    refine ⟨n, w.take n, w.drop n, n0, n1, ⟨by simp; omega, fun e he => hw.2 e (List.mem_of_mem_take he)⟩, ⟨by simp; omega, fun e he => hw.2 e (List.mem_of_mem_drop he)⟩, ?_⟩
    refine congrArg fin (?_ : b_law_pair [.val (.int c), .val (.int k), .no, .no, .no, .no, .no, .no, .no] = .rt (.val (.tup [.str (w.take n), .str (w.drop n)])))
    unfold b_law_pair
    rw [Bool.not_eq_true] at h
    rw [h] at tst
    rw [seq_n step1, seq_n step2, seq_n step3, seq_n (if_f tst), seq_n step4, seq_n step5, seq_n e]
    exact ret_v (tup2 (slt rfl rfl g1) (sld rfl rfl g1))
end K01
namespace K01
open PySem PySem.Spec PyProof.Rows L2 Fw
section
variable {es e2 : Fw.Env} {f fa fb : Fw.Env → O R} {g h : Fw.Env → Out} {a b : D} {c : R} {i : Nat} {fr : Fw.Env → O (List R)} {rs : List R} {k k2 : Bool} {tt t2 : Fw.Env → O Bool}
theorem lc_o {src : Fw.Env → O (List R)} {vs : List Nat} {t : Tg} {cond : Fw.Env → O Bool} {elt : Fw.Env → O R} {n : Nat} {p : Nat → Bool} {f : Nat → D} (hs : src es = .ok (rgD 0 n)) (hn : n ≤ 1000)
    (h : ∀ i, i < n → ∃ e1, stTg t (.val (.int (i : Nat))) (wipeE es vs) = some e1 ∧ cond e1 = .ok (p i) ∧ (p i = true → elt e1 = .ok (.val (f i)))) : fLc src vs t cond elt es = .ok (.new (((List.range n).filter p).map f)) := by
  unfold fLc
  rw [hs, O.bind_ok, if_pos (by simp [rgD]; omega), lcL_rg p f h]; rfl
theorem shl_o {n : Nat} (h : n ≤ 10) : dShl (.val (.int 1)) (.val (.int n)) = some (.val (.int ((2 ^ n : Nat) : Int))) := by
  show (if shlC 1 (n : Int) = true then some (R.val (.int (1 * 2 ^ (n : Int).toNat))) else none) = _
  rw [if_pos (by simp only [shlC, decide_eq_true_eq]; exact ⟨by omega, by omega, by decide⟩), Int.toNat_natCast, Int.one_mul]
  simp
theorem len_o {s : List Nat} (h : fa es = .ok (.val (.str s))) (hl : s.length ≤ 100000) : fBi dLen (fCons fa fNil) es = .ok (.val (.int (s.length : Nat))) := bi_o (cons_o h nil_o) (len_s hl)
theorem or_f (h1 : tt es = .ok false) : fOr tt t2 es = t2 es := by unfold fOr; rw [h1]; rfl
theorem or_t (h1 : tt es = .ok true) : fOr tt t2 es = .ok true := by unfold fOr; rw [h1]; rfl
theorem not_o (h1 : tt es = .ok k) : fNot tt es = .ok (!k) := by unfold fNot; rw [h1]; rfl
theorem andv_t (h1 : fa es = .ok (.val (.bl true))) : fAndV fa fb es = fb es := by unfold fAndV; rw [h1]; rfl
/-- the settings of a term -/
def sets (s : List Nat) : List D := ((List.range (2 ^ s.length)).filter fun n => agB n 0 s).map fun n => .int (n : Nat)
theorem pow_le {n : Nat} (h : n ≤ 5) : 2 ^ n ≤ 32 := Nat.pow_le_pow_right (by decide) h
theorem rg2 {s : List Nat} (h : fa es = .ok (.val (.str s))) (hn : s.length ≤ 5) : fRg1 (fCons (fBin dShl (fC (.int 1)) (fBi dLen (fCons fa fNil))) fNil) es = .ok (rgD 0 (2 ^ s.length)) :=
  rg_o (bin_o rfl (len_o h (small rfl (by omega))) (shl_o (by omega))) (Nat.le_trans (pow_le hn) (by decide))
theorem g_all_settings_eq {n : Nat} (h : n ≤ 5) : g_all_settings [.int n] = .ok (.new ((List.range (2 ^ n)).map fun i => .int (i : Nat))) := by
  refine congrArg fin (?_ : b_all_settings [.val (.int n)] = .rt _)
  unfold b_all_settings
  refine ret_n ?_
  unfold fLRg1
  rw [bin_o (fc_o) rfl (shl_o (by omega)), O.bind_ok]
  have := pow_le h
  show (if _ ∧ _ then _ else _) = _
  revert this
  generalize 2 ^ n = m
  intro this
  rw [if_pos (by omega), Int.toNat_natCast]
theorem g_settings_of_eq {s : List Nat} (hs : Sg s) (hn : s.length ≤ 5) : g_settings_of [.str s] = .ok (.new (sets s)) := by
  refine congrArg fin (?_ : b_settings_of [.val (.str s), .no] = .rt _)
  unfold b_settings_of
  refine ret_n (lc_o (n := 2 ^ s.length) ?_ (Nat.le_trans (pow_le hn) (by decide)) fun i hi => ⟨_, rfl, test_o (call_o (cons_o rfl (cons_o rfl nil_o)) (g_has_eq s hs i)), fun _ => rfl⟩)
  unfold fIt
  rw [call_n (cons_o (len_o rfl (small rfl (by omega))) nil_o) (g_all_settings_eq hn), O.bind_ok]
  show O.of (some (((List.range (2 ^ s.length)).map fun i => D.int (i : Nat)).map R.val)) = _
  rw [List.map_map, rgD]
  simp only [Int.zero_add]
  rfl
theorem isi_o (x : Bool) : dIsi [.val (.bl x), .val (.ty "bool")] = some (.val (.bl true)) := by
  simp [dIsi, R.dat, tyD, isiB]
theorem ne_b (x : Bool) : dNe (.val (.bl x)) (.val (.bl x)) = some (.val (.bl false)) := by
  cases x <;> rfl
theorem sets_plain (l : List Nat) : (l.map fun n => D.int (n : Nat)).all plainF = true := by
  rw [List.all_eq_true]
  intro d hd
  obtain ⟨n, _, rfl⟩ := List.mem_map.mp hd
  rfl
theorem in_sets {s : List Nat} {i : Nat} (hi : i < 2 ^ s.length) : dIn (.val (.int i)) (.val (.lst (sets s))) = some (.val (.bl (agB i 0 s))) := by
  show (if plainF (.int i) && (sets s).all plainF then some (R.val (.bl ((sets s).any fun d => deq d (.int i)))) else none) = _
  have hp : (sets s).all plainF = true := sets_plain _
  rw [hp]
  show some (R.val (.bl _)) = _
  congr 3
  rw [Bool.eq_iff_iff, List.any_eq_true]
  constructor
  · rintro ⟨d, hd, h2⟩
    obtain ⟨n, hn, rfl⟩ := List.mem_map.mp hd
    simp [deq] at h2
    have h2 : n = i := by omega
    subst h2
    exact (List.mem_filter.mp hn).2
  · intro h
    exact ⟨.int (i : Nat), List.mem_map.mpr ⟨i, List.mem_filter.mpr ⟨List.mem_range.mpr hi, h⟩, rfl⟩, by simp [deq]⟩
theorem deqL_ints : ∀ l : List Nat, deqL (l.map fun n => D.int (n : Nat)) (l.map fun n => D.int (n : Nat)) = true
  | [] => rfl
  | x :: l => by
    rw [List.map_cons, deqL, deqL_ints l]
    simp [deq]
theorem ne_sets (s : List Nat) : dNe (.bor (sets s)) (.val (.lst (sets s))) = some (.val (.bl false)) := by
  have h1 : shp 60 (.lst (sets s)) = true := by
    show (sets s).all (shp 59) = true
    rw [List.all_eq_true]
    intro d hd
    obtain ⟨n, _, rfl⟩ := List.mem_map.mp hd
    rfl
  show (if shp 60 (.lst (sets s)) && shp 60 (.lst (sets s)) then some (R.val (.bl (!deq (.lst (sets s)) (.lst (sets s))))) else none) = _
  rw [h1]
  show some (R.val (.bl (!deqL (sets s) (sets s)))) = _
  rw [sets, deqL_ints]; rfl
theorem shp_s {s : List Nat} (h : Sg s) : shp 60 (.str s) = true := by
  show (s.all fun c => decide (c < 1114112)) = true
  rw [List.all_eq_true]
  intro c hc
  rcases h c hc with rfl | rfl | rfl <;> decide
theorem ne_s {s : List Nat} (h : Sg s) : dNe (.val (.str s)) (.val (.str s)) = some (.val (.bl false)) := by
  show (if shp 60 (.str s) && shp 60 (.str s) then some (R.val (.bl (!(s == s)))) else none) = _
  rw [shp_s h]; simp
/-- a sign at a place, by slices -/
theorem put_o {es : Fw.Env} {fs fk fk1 fc : Fw.Env → O R} {s : List Nat} {k c : Nat} (h1 : fs es = .ok (.val (.str s))) (h2 : fk es = .ok (.val (.int k))) (h3 : fk1 es = .ok (.val (.int ((k : Int) + 1)))) (h4 : fc es = .ok (.val (.str [c]))) (hl : s.length ≤ 5) :
    fBin dAdd (fBin dAdd (fSl fs fNoPart (fPart fk)) fc) (fSl fs (fPart fk1) fNoPart) es = .ok (.val (.str (put s k c))) := by
  have g1 : s.length ≤ 100000 := small rfl (by omega)
  exact bin_o (bin_o (slt h1 h2 g1) h4 (add_s (le100k (by simp; omega)))) (sld1 h1 h3 g1) (add_s (le100k (by simp; omega)))
theorem g_freed_eq {s : List Nat} {k : Nat} (hl : s.length ≤ 5) : g_freed [.str s, .int k] = .ok (.val (.str (put s k 45))) := by
  refine congrArg fin (?_ : b_freed [.val (.str s), .val (.int k)] = .rt _)
  unfold b_freed
  exact ret_v (put_o rfl rfl (bin_o rfl rfl rfl) rfl hl)
/-! ### is_term -/
def pb (c : Nat) : Bool := decide (c = 49) || (decide (c = 48) || decide (c = 45))
theorem ty_o {x : D} {n : String} (h : fa es = .ok (.val x)) (e : tyD2 x = some n) : fBi dType (fCons fa fNil) es = .ok (.val (.ty n)) := by
  refine bi_o (cons_o h nil_o) ?_
  show (tyD2 x).map _ = _
  rw [e]; rfl
theorem nis_ty (m n : String) : dNis (.val (.ty m)) (.val (.ty n)) = some (.val (.bl (!decide (m = n)))) := rfl
theorem g_is_term_other {x : D} {t : String} {n : Int} (hf : slotD x = .val x) (h : tyD2 x = some t) (ht : t ≠ "str") : g_is_term [x, .int n] = .ok (.val (.bl false)) := by
  have e : startE 2 [x, .int n] = [.val x, .val (.int n)] := by
    show [slotD x, slotD (.int n)] = _
    rw [hf]; rfl
  have : b_is_term [.val x, .val (.int n)] = .rt (.val (.bl false)) := by
    unfold b_is_term
    refine seq_r ((if_t (or_t (test_o (bin_o (ty_o rfl h) rfl ?_)))).trans (ret_v rfl))
    rw [nis_ty]; simp [ht]
  show fin (b_is_term (startE 2 [x, .int n])) = _
  rw [e, this]; rfl
theorem nrm_brw {x : D} (h : flat x = false) : nrm x = .brw x := by unfold nrm; rw [h]; rfl
theorem g_is_term_brw {x : D} {t : String} {n : Int} (hf : flat x = false) (h : tyD2 x = some t) (ht : t ≠ "str") : g_is_term [x, .int n] = .ok (.val (.bl false)) := by
  have e : startE 2 [x, .int n] = [.brw x, .val (.int n)] := by
    show [slotD x, slotD (.int n)] = _
    unfold slotD
    rw [hf]; rfl
  have h0 : fBi dType (fCons (fVar 0) fNil) [.brw x, .val (.int n)] = .ok (.val (.ty t)) := by
    refine bi_o (rs := [.brw x]) ?_ (by show (tyD2 x).map _ = _; rw [h]; rfl)
    unfold fCons
    show (O.ok (nrm x)).bind _ = _
    rw [nrm_brw hf]; rfl
  have : b_is_term [.brw x, .val (.int n)] = .rt (.val (.bl false)) := by
    unfold b_is_term
    refine seq_r ((if_t (or_t (test_o (bin_o h0 rfl ?_)))).trans (ret_v rfl))
    rw [nis_ty]; simp [ht]
  show fin (b_is_term (startE 2 [x, .int n])) = _
  rw [e, this]; rfl
theorem ne_i (x y : Int) : dNe (.val (.int x)) (.val (.int y)) = some (.val (.bl (!(x == y)))) := by
  simp [dNe, R.dat, shp, deq]
theorem inT_pb : inT [45, 48, 49] = pb := by
  funext c
  unfold inT pb
  rw [Bool.eq_iff_iff]
  simp
  omega
theorem g_is_term_str {w : List Nat} {n : Nat} (hw : w.length ≤ 10) : g_is_term [.str w, .int n] = .ok (.val (.bl (decide (w.length = n) && w.all pb))) := by
  have g1 : w.length ≤ 100000 := small rfl hw
  have t1 : fTest (fBin dNis (fBi dType (fCons (fVar 0) fNil)) (fC (.ty "str"))) [.val (.str w), .val (.int n)] = .ok false := test_o (bin_o (ty_o rfl rfl) rfl (by rw [nis_ty]; simp))
  have t2 : fTest (fBin dNe (fBi dLen (fCons (fVar 0) fNil)) (fVar 1)) [.val (.str w), .val (.int n)] = .ok (!(((w.length : Nat) : Int) == (n : Int))) := test_o (bin_o (len_o rfl g1) rfl (ne_i _ _))
  refine congrArg fin (?_ : b_is_term [.val (.str w), .val (.int n)] = .rt _)
  unfold b_is_term
  by_cases h : w.length = n
  · have hh : (!(((w.length : Nat) : Int) == (n : Int))) = false := by simp [h]
    rw [hh] at t2
    rw [seq_n (if_f ((or_f t1).trans t2)), decide_eq_true h, Bool.true_and, ← inT_pb]
    exact ret_v rfl
  · have hh : (!(((w.length : Nat) : Int) == (n : Int))) = true := by
      simp; omega
    rw [hh] at t2
    rw [decide_eq_false h, Bool.false_and]
    exact seq_r ((if_t ((or_f t1).trans t2)).trans (ret_v rfl))
theorem all_pb {s : List Nat} (h : Sg s) : s.all pb = true := by
  rw [List.all_eq_true]
  intro c hc
  rcases h c hc with rfl | rfl | rfl <;> decide
theorem put_pb {s : List Nat} {k c : Nat} (hc : pb c = false) : (put s k c).all pb = false := by
  simp [put, hc]
end
end K01
namespace K01
open PySem PySem.Spec PyProof.Rows L2 Fw
/-! ### laid together -/
def pU (s t : List Nat) (i : Nat) : Bool := !([s.getD i 0] == [t.getD i 0])
def jn (s t : List Nat) : D := match (List.range s.length).filter (pU s t) with
  | [u] => if s.getD u 0 = 45 ∨ t.getD u 0 = 45 then .non else .str (put s u 45)
  | _ => .non
theorem gD {s : List Nat} {i : Nat} (hi : i < s.length) : s.getD i 0 = s[i] := by simp [hi]
theorem getD_sg {s : List Nat} (h : Sg s) {i : Nat} (hi : i < s.length) : s.getD i 0 = 48 ∨ s.getD i 0 = 49 ∨ s.getD i 0 = 45 := by
  have e : s.getD i 0 = s[i] := by simp [hi]
  rw [e]; exact h _ (List.getElem_mem hi)
theorem at_o {s : List Nat} {i : Nat} (hi : i < s.length) : atI s (i : Int) = some (s.getD i 0) := by
  rw [atI_nat]; simp [hi]
theorem ne_one {a b : Nat} (ha : a = 48 ∨ a = 49 ∨ a = 45) (hb : b = 48 ∨ b = 49 ∨ b = 45) : dNe (.val (.str [a])) (.val (.str [b])) = some (.val (.bl (!([a] == [b])))) := by
  rcases ha with rfl | rfl | rfl <;> rcases hb with rfl | rfl | rfl <;> rfl
theorem eq_one {a b : Nat} (ha : a = 48 ∨ a = 49 ∨ a = 45) (hb : b = 48 ∨ b = 49 ∨ b = 45) : dEq (.val (.str [a])) (.val (.str [b])) = some (.val (.bl ([a] == [b]))) := by
  rcases ha with rfl | rfl | rfl <;> rcases hb with rfl | rfl | rfl <;> rfl
theorem len_l {es : Fw.Env} {fa : Fw.Env → O R} {xs : List D} (h : fa es = .ok (.val (.lst xs))) : fBi dLen (fCons fa fNil) es = .ok (.val (.int (xs.length : Nat))) := bi_o (cons_o h nil_o) rfl
theorem take_eq {s t : List Nat} (hl : s.length = t.length) {u : Nat} (h : ∀ i, i < s.length → i ≠ u → s.getD i 0 = t.getD i 0) : put s u 45 = put t u 45 := by
  have h1 : s.take u = t.take u := by
    apply List.ext_getElem
    · simp [hl]
    · intro i h1 h2
      simp at h1 h2
      have := h i (by omega) (by omega)
      rw [gD (s := s) (i := i) (by omega), gD (s := t) (i := i) (by omega)] at this
      simpa using this
  have h2 : s.drop (u + 1) = t.drop (u + 1) := by
    apply List.ext_getElem
    · simp [hl]
    · intro i h1 h2
      simp at h1 h2
      have := h (u + 1 + i) (by omega) (by omega)
      have e1 : u + 1 + i < s.length := by omega
      have e2 : u + 1 + i < t.length := by omega
      rw [gD e1, gD e2] at this
      simpa using this
  unfold put
  rw [h1, h2]
theorem jn_symm {s t : List Nat} (hl : s.length = t.length) : jn t s = jn s t := by
  have hp : pU t s = pU s t := by
    funext i
    unfold pU
    rw [Bool.eq_iff_iff]
    simp
    exact ⟨fun h e => h e.symm, fun h e => h e.symm⟩
  unfold jn
  rw [hp, ← hl]
  cases hU : (List.range s.length).filter (pU s t) with
  | nil => rfl
  | cons u r =>
    cases r with
    | cons v r => rfl
    | nil =>
      have he : ∀ i, i < s.length → i ≠ u → s.getD i 0 = t.getD i 0 := by
        intro i hi hu
        by_cases h : pU s t i = true
        · have : i ∈ (List.range s.length).filter (pU s t) := List.mem_filter.mpr ⟨List.mem_range.mpr hi, h⟩
          rw [hU] at this
          exact absurd (List.mem_singleton.mp this) hu
        · simpa [pU] using h
      simp only
      rw [take_eq hl he]
      by_cases h1 : s.getD u 0 = 45 ∨ t.getD u 0 = 45
      · rw [if_pos h1, if_pos h1.symm]
      · rw [if_neg h1, if_neg fun h => h1 h.symm]
theorem unlike_o {s t : List Nat} {n : Nat} (hs : Tm n s) (ht : Tm n t) (n1 : n ≤ 5) {j : Nat} {es : Fw.Env} {vs : List Nat} (e0 : es[0]? = some (.val (.str s))) (e1 : ∀ x, ((wipeE es vs).set j x)[0]? = some (.val (.str s))) (e2 : ∀ x, ((wipeE es vs).set j x)[1]? = some (.val (.str t)))
    (ej : ∀ x, ((wipeE es vs).set j x)[j]? = some x) :
    fLc (fRg1 (fCons (fBi dLen (fCons (fVar 0) fNil)) fNil)) vs (.nm j) (fTest (fBin dNe (fBin dIx (fVar 0) (fVar j)) (fBin dIx (fVar 1) (fVar j)))) (fVar j) es = .ok (.new (((List.range n).filter (pU s t)).map fun i => .int (i : Nat))) := by
  have g1 : s.length ≤ 100000 := small hs.1 (by omega)
  have g2 : t.length ≤ 100000 := small ht.1 (by omega)
  have v0 : ∀ x, fVar 0 ((wipeE es vs).set j x) = .ok (.val (.str s)) := fun x => by unfold fVar; rw [e1]
  have v1 : ∀ x, fVar 1 ((wipeE es vs).set j x) = .ok (.val (.str t)) := fun x => by unfold fVar; rw [e2]
  have vj : ∀ x : D, fVar j ((wipeE es vs).set j (.val x)) = .ok (.val x) := fun x => by unfold fVar; rw [ej]
  refine lc_o (rg_o (n := n) ?_ (by omega)) (by omega) fun i hi => ⟨(wipeE es vs).set j (.val (.int i)), rfl, test_o (bin_o (bin_o (v0 _) (vj _) (ix_s g1 (at_o (by rw [hs.1]; exact hi)))) (bin_o (v1 _) (vj _) (ix_s g2 (at_o (by rw [ht.1]; exact hi)))) (ne_one (getD_sg hs.2 (by rw [hs.1]; exact hi)) (getD_sg ht.2 (by rw [ht.1]; exact hi)))), fun _ => vj _⟩
  have := len_o (es := es) (fa := fVar 0) (s := s) (by unfold fVar; rw [e0]) g1
  rw [this, hs.1]
theorem ix_l {es : Fw.Env} {fa fb : Fw.Env → O R} {u : Nat} {r : List D} (h : fa es = .ok (.val (.lst (.int u :: r)))) (h2 : fb es = .ok (.val (.int 0))) : fBin dIx fa fb es = .ok (.val (.int u)) := bin_o h h2 (by
  show (atI (D.int (u : Nat) :: r) ((0 : Nat) : Int)).map R.val = _
  rw [atI_nat]; rfl)
theorem dedup_s {a b : Nat} (ha : a = 48 ∨ a = 49 ∨ a = 45) (hb : b = 48 ∨ b = 49 ∨ b = 45) (hne : a ≠ b) :
    (dSortedL [.val (.lst [.str [a], .str [b]])]).bind (fun r => dNe r.fz (.val (.lst [.str [48], .str [49]]))) = some (.val (.bl (decide (a = 45 ∨ b = 45)))) := by
  rcases ha with rfl | rfl | rfl <;> rcases hb with rfl | rfl | rfl <;> first | exact absurd rfl hne | decide +kernel | rfl
end K01
namespace K01
open PySem PySem.Spec PyProof.Rows L2 Fw
theorem bin_g {es : Fw.Env} {fa fb : Fw.Env → O R} {d : R → R → Option R} {ra rb c : R} (ha : fa es = .ok ra) (hb : fb es = .ok rb) (hc : d ra.fz rb.fz = some c) : fBin d fa fb es = .ok c := by
  unfold fBin; rw [ha, O.bind_ok, hb, O.bind_ok, hc]; rfl
theorem lst2 {es : Fw.Env} {fa fb : Fw.Env → O R} {x y : D} (ha : fa es = .ok (.val x)) (hb : fb es = .ok (.val y)) : fLst (fCons fa (fCons fb fNil)) es = .ok (.new [x, y]) := by
  unfold fLst; rw [cons_o ha (cons_o hb nil_o), O.bind_ok]; rfl
theorem cons_n {es : Fw.Env} {fa : Fw.Env → O R} {fr : Fw.Env → O (List R)} {xs : List D} {rs : List R} (ha : fa es = .ok (.new xs)) (hr : fr es = .ok rs) : fCons fa fr es = .ok (.val (.lst xs) :: rs) := by
  unfold fCons; rw [ha, O.bind_ok, hr]; rfl
theorem pick {s t : List Nat} {u : Nat} {r : List Nat} (h : (List.range s.length).filter (pU s t) = u :: r) : u < s.length ∧ s.getD u 0 ≠ t.getD u 0 := by
  have : u ∈ (List.range s.length).filter (pU s t) := by rw [h]; simp
  obtain ⟨h1, h2⟩ := List.mem_filter.mp this
  exact ⟨List.mem_range.mp h1, by simpa [pU] using h2⟩
theorem joined_eq {s t : List Nat} {n : Nat} (hs : Tm n s) (ht : Tm n t) (n1 : n ≤ 5) : g_law_joined [.str s, .str t] = .ok (.val (jn s t)) := by
  refine congrArg fin (?_ : b_law_joined [.val (.str s), .val (.str t), .no, .no] = .rt _)
  unfold b_law_joined
  have h1 := unlike_o (es := [.val (.str s), .val (.str t), .no, .no]) (vs := [3]) (j := 3) hs ht n1 rfl (fun _ => rfl) (fun _ => rfl) (fun _ => rfl)
  rw [← hs.1] at h1
  rw [seq_n (set_n h1)]
  have hl : s.length ≤ 5 := by rw [hs.1]; exact n1
  have g1 : s.length ≤ 100000 := small rfl (by omega)
  have g2 : t.length ≤ 100000 := small ht.1 (by omega)
  unfold jn
  cases hU : (List.range s.length).filter (pU s t) with
  | nil =>
    have tst : fTest (fBin dNe (fBi dLen (fCons (fVar 2) fNil)) (fC (.int 1))) [.val (.str s), .val (.str t), .val (.lst []), .no] = .ok true := test_o (bin_o (len_l rfl) rfl (ne_i _ _))
    exact seq_r ((if_t (or_t tst)).trans (ret_v rfl))
  | cons u r =>
    obtain ⟨hu, hne⟩ := pick hU
    have hut : u < t.length := by rw [ht.1, ← hs.1]; exact hu
    cases r with
    | cons v r =>
      have tst : fTest (fBin dNe (fBi dLen (fCons (fVar 2) fNil)) (fC (.int 1))) [.val (.str s), .val (.str t), .val (.lst ((u :: v :: r).map fun i => .int (i : Nat))), .no] = .ok true := by
        refine test_o (bin_o (len_l rfl) rfl ?_)
        rw [ne_i]
        have : ((((u :: v :: r).map fun i => D.int (i : Nat)).length : Nat) : Int) ≠ 1 := by simp; omega
        simpa using this
      exact seq_r ((if_t (or_t tst)).trans (ret_v rfl))
    | nil =>
      show gSeq _ _ [.val (.str s), .val (.str t), .val (.lst [.int u]), .no] = _
      have ixu : fBin dIx (fVar 2) (fC (.int 0)) [.val (.str s), .val (.str t), .val (.lst [.int u]), .no] = .ok (.val (.int u)) := ix_l rfl rfl
      have ha := getD_sg hs.2 hu
      have hb := getD_sg ht.2 hut
      have tst : fTest (fBin dNe (fBi dLen (fCons (fVar 2) fNil)) (fC (.int 1))) [.val (.str s), .val (.str t), .val (.lst [.int u]), .no] = .ok false := test_o (bin_o (len_l rfl) rfl (ne_i _ _))
      obtain ⟨r, hr1, hr2⟩ := Option.bind_eq_some_iff.mp (dedup_s ha hb hne)
      have tst2 : fTest (fBin dNe (fBi dSortedL (fCons (fLst (fCons (fBin dIx (fVar 0) (fBin dIx (fVar 2) (fC (.int 0)))) (fCons (fBin dIx (fVar 1) (fBin dIx (fVar 2) (fC (.int 0)))) fNil))) fNil)) (fLst (fCons (fC (.str [48])) (fCons (fC (.str [49])) fNil)))) [.val (.str s), .val (.str t), .val (.lst [.int u]), .no] = .ok (decide (s.getD u 0 = 45 ∨ t.getD u 0 = 45)) :=
        test_o (bin_g (bi_o (cons_n (lst2 (bin_o rfl ixu (ix_s g1 (at_o hu))) (bin_o rfl ixu (ix_s g2 (at_o hut)))) nil_o) hr1) (lst2 rfl rfl) hr2)
      by_cases hd : s.getD u 0 = 45 ∨ t.getD u 0 = 45
      · rw [decide_eq_true hd] at tst2
        simp only
        rw [if_pos hd]
        exact seq_r ((if_t ((or_f tst).trans tst2)).trans (ret_v rfl))
      · rw [decide_eq_false hd] at tst2
        simp only
        rw [if_neg hd, seq_n (if_f ((or_f tst).trans tst2))]
        exact ret_v (put_o rfl ixu (bin_o ixu rfl rfl) rfl hl)
theorem laid_eq {s t : List Nat} {n : Nat} (hs : Tm n s) (ht : Tm n t) (n1 : n ≤ 5) : g_laid [.str s, .str t] = .ok (.val (jn s t)) := by
  refine congrArg fin (?_ : b_laid [.val (.str s), .val (.str t), .no, .no, .no] = .rt _)
  unfold b_laid
  have hl : s.length ≤ 5 := by rw [hs.1]; exact n1
  have g1 : s.length ≤ 100000 := small rfl (by omega)
  have g2 : t.length ≤ 100000 := small ht.1 (by omega)
  have t0 : fTest (fBin dNe (fBi dLen (fCons (fVar 0) fNil)) (fBi dLen (fCons (fVar 1) fNil))) [.val (.str s), .val (.str t), .no, .no, .no] = .ok false := by
    refine test_o (bin_o (len_o rfl g1) (len_o rfl g2) ?_)
    rw [ne_i, hs.1, ht.1]; simp
  rw [seq_n (if_f t0)]
  have h1 := unlike_o (es := [.val (.str s), .val (.str t), .no, .no, .no]) (vs := [4]) (j := 4) hs ht n1 rfl (fun _ => rfl) (fun _ => rfl) (fun _ => rfl)
  rw [← hs.1] at h1
  rw [seq_n (set_n h1)]
  unfold jn
  cases hU : (List.range s.length).filter (pU s t) with
  | nil =>
    have tst : fTest (fBin dNe (fBi dLen (fCons (fVar 2) fNil)) (fC (.int 1))) [.val (.str s), .val (.str t), .val (.lst []), .no, .no] = .ok true := test_o (bin_o (len_l rfl) rfl (ne_i _ _))
    exact seq_r ((if_t tst).trans (ret_v rfl))
  | cons u r =>
    obtain ⟨hu, hne⟩ := pick hU
    have hut : u < t.length := by rw [ht.1, ← hs.1]; exact hu
    cases r with
    | cons v r =>
      have tst : fTest (fBin dNe (fBi dLen (fCons (fVar 2) fNil)) (fC (.int 1))) [.val (.str s), .val (.str t), .val (.lst ((u :: v :: r).map fun i => .int (i : Nat))), .no, .no] = .ok true := by
        refine test_o (bin_o (len_l rfl) rfl ?_)
        rw [ne_i]
        have : ((((u :: v :: r).map fun i => D.int (i : Nat)).length : Nat) : Int) ≠ 1 := by simp; omega
        simpa using this
      exact seq_r ((if_t tst).trans (ret_v rfl))
    | nil =>
      show gSeq _ _ [.val (.str s), .val (.str t), .val (.lst [.int u]), .no, .no] = _
      have ha := getD_sg hs.2 hu
      have hb := getD_sg ht.2 hut
      have tst : fTest (fBin dNe (fBi dLen (fCons (fVar 2) fNil)) (fC (.int 1))) [.val (.str s), .val (.str t), .val (.lst [.int u]), .no, .no] = .ok false := test_o (bin_o (len_l rfl) rfl (ne_i _ _))
      rw [seq_n (if_f tst), seq_n (set_v (ix_l rfl rfl))]
      show gSeq _ _ [.val (.str s), .val (.str t), .val (.lst [.int u]), .val (.int u), .no] = _
      have ta : fTest (fBin dEq (fBin dIx (fVar 0) (fVar 3)) (fC (.str [45]))) [.val (.str s), .val (.str t), .val (.lst [.int u]), .val (.int u), .no] = .ok ([s.getD u 0] == [45]) :=
        test_o (bin_o (bin_o rfl rfl (ix_s g1 (at_o hu))) rfl (eq_one ha (by simp)))
      have tb : fTest (fBin dEq (fBin dIx (fVar 1) (fVar 3)) (fC (.str [45]))) [.val (.str s), .val (.str t), .val (.lst [.int u]), .val (.int u), .no] = .ok ([t.getD u 0] == [45]) :=
        test_o (bin_o (bin_o rfl rfl (ix_s g2 (at_o hut))) rfl (eq_one hb (by simp)))
      simp only
      by_cases h1 : s.getD u 0 = 45
      · rw [h1] at ta
        rw [if_pos (Or.inl h1)]
        exact seq_r ((if_t (or_t ta)).trans (ret_v rfl))
      · have e1 : ([s.getD u 0] == [45]) = false := by simpa using h1
        rw [e1] at ta
        by_cases h2 : t.getD u 0 = 45
        · rw [h2] at tb
          rw [if_pos (Or.inr h2)]
          exact seq_r ((if_t ((or_f ta).trans tb)).trans (ret_v rfl))
        · have e2 : ([t.getD u 0] == [45]) = false := by simpa using h2
          rw [e2] at tb
          rw [if_neg (fun h => h.elim h1 h2), seq_n (if_f ((or_f ta).trans tb))]
          exact ret_v (call_o (cons_o rfl (cons_o rfl nil_o)) (g_freed_eq hl))
end K01
namespace K01
open PySem PySem.Spec PyProof.Rows L2 Fw
/-! ### odd things -/
theorem lst_o {es : Fw.Env} {fr : Fw.Env → O (List R)} {rs : List R} {ds : List D} (h : fr es = .ok rs) (h2 : stoL rs = some ds) (h3 : ds.length ≤ 50) : fLst fr es = .ok (.new ds) := by
  unfold fLst; rw [h, O.bind_ok, h2]
  exact if_pos (le100k h3)
theorem tup1 {es : Fw.Env} {fa : Fw.Env → O R} {x : D} (h : fa es = .ok (.val x)) : fTup (fCons fa fNil) es = .ok (.val (.tup [x])) := by
  unfold fTup; rw [cons_o h nil_o, O.bind_ok]; rfl
def odds (s : List Nat) (k : Nat) : List D := [.str (s ++ [48]), .str (s.drop 1), .str (put s k 50), .str (put s k 32), .non, .int 0, .lst [.str s]] ++ [.lst (signsD s), .bl true, .str (s ++ [10]), .str [], .tup [.str s], .str (put s k 111)]
theorem odds_no {s : List Nat} {n k : Nat} (hs : Tm n s) (n0 : 0 < n) (n1 : n ≤ 5) (hk : k < n) : ∀ x ∈ odds s k, g_is_term [x, .int n] = .ok (.val (.bl false)) := by
  have hl := hs.1
  have st : ∀ w : List Nat, w.length ≤ 10 → (w.length ≠ n ∨ w.all pb = false) → g_is_term [.str w, .int n] = .ok (.val (.bl false)) := fun w h1 h2 => by
    rw [g_is_term_str h1]
    rcases h2 with h2 | h2
    · rw [decide_eq_false h2]; rfl
    · rw [h2, Bool.and_false]
  have pl : ∀ c, (put s k c).length ≤ 10 := fun c => by rw [put_len (by omega)]; omega
  intro x hx
  simp only [odds, List.mem_append, List.mem_cons, List.not_mem_nil, or_false] at hx
  rcases hx with (rfl | rfl | rfl | rfl | rfl | rfl | rfl) | (rfl | rfl | rfl | rfl | rfl | rfl)
  · exact st _ (by simp; omega) (Or.inl (by simp; omega))
  · exact st _ (by simp; omega) (Or.inl (by simp; omega))
  · exact st _ (pl _) (Or.inr (put_pb rfl))
  · exact st _ (pl _) (Or.inr (put_pb rfl))
  · exact g_is_term_other rfl rfl (by decide)
  · exact g_is_term_other rfl rfl (by decide)
  · exact g_is_term_brw rfl rfl (by decide)
  · exact g_is_term_brw rfl rfl (by decide)
  · exact g_is_term_other rfl rfl (by decide)
  · exact st _ (by simp; omega) (Or.inl (by simp; omega))
  · exact st _ (by simp) (Or.inl (by simp; omega))
  · exact g_is_term_brw rfl rfl (by decide)
  · exact st _ (pl _) (Or.inr (put_pb rfl))
theorem g_law_odd_eq {s : List Nat} {n : Nat} (hs : Tm n s) (n0 : 0 < n) (n1 : n ≤ 5) (d : Nat) : ∃ x k, k < n ∧ x ∈ odds s k ∧ g_law_odd [.str s, .int d] = .ok (.val x) := by
  have hl : s.length ≤ 5 := by rw [hs.1]; exact n1
  have g1 : s.length ≤ 100000 := small rfl (by omega)
  have hp : (0 : Int) < (s.length : Nat) := by have := hs.1; omega
  obtain ⟨q, hat⟩ := of_nat (Int.emod_nonneg (d : Int) (Int.ne_of_gt hp))
  have hlt : q < n := by
    have := Int.emod_lt_of_pos (d : Int) hp
    have := hs.1
    omega
  obtain ⟨j, hj⟩ := of_nat (i := (d : Int) / 5 % 13) (by omega)
  have hj2 : j < 13 := by omega
  have hjl : j < (odds s q).length := hj2
  refine ⟨(odds s q)[j], q, hlt, List.getElem_mem hjl, ?_⟩
  refine congrArg fin (?_ : b_law_odd [.val (.str s), .val (.int d), .no, .no] = .rt _)
  unfold b_law_odd
  have e1 : gSet 2 true (fBin dMod (fVar 1) (fBi dLen (fCons (fVar 0) fNil))) [.val (.str s), .val (.int d), .no, .no] = .nx [.val (.str s), .val (.int d), .val (.int q), .no] :=
    set_v (bin_o rfl (len_o rfl g1) (by rw [mod_i hp, hat]))
  rw [seq_n e1]
  have pt : ∀ (x : Sl) (c : Nat), fBin dAdd (fBin dAdd (fSl (fVar 0) fNoPart (fPart (fVar 2))) (fC (.str [c]))) (fSl (fVar 0) (fPart (fBin dAdd (fVar 2) (fC (.int 1)))) fNoPart) [.val (.str s), .val (.int d), .val (.int q), x] = .ok (.val (.str (put s q c))) :=
    fun x c => put_o rfl rfl (bin_o rfl rfl rfl) rfl hl
  have ad : ∀ (x : Sl) (c : Nat), fBin dAdd (fVar 0) (fC (.str [c])) [.val (.str s), .val (.int d), .val (.int q), x] = .ok (.val (.str (s ++ [c]))) := fun x c => bin_o rfl rfl (add_s (le100k (by simp; omega)))
  have d1 : fSl (fVar 0) (fPart (fC (.int 1))) fNoPart [.val (.str s), .val (.int d), .val (.int q), .no] = .ok (.val (.str (s.drop 1))) := sld (k := 1) rfl rfl g1
  have e2 : fLst (fCons (fBin dAdd (fVar 0) (fC (.str [48]))) (fCons (fSl (fVar 0) (fPart (fC (.int 1))) fNoPart) (fCons (fBin dAdd (fBin dAdd (fSl (fVar 0) fNoPart (fPart (fVar 2))) (fC (.str [50]))) (fSl (fVar 0) (fPart (fBin dAdd (fVar 2) (fC (.int 1)))) fNoPart)) (fCons (fBin dAdd (fBin dAdd (fSl (fVar 0) fNoPart (fPart (fVar 2))) (fC (.str [32]))) (fSl (fVar 0) (fPart (fBin dAdd (fVar 2) (fC (.int 1)))) fNoPart)) (fCons (fC .non) (fCons (fC (.int 0)) (fCons (fLst (fCons (fVar 0) fNil)) fNil)))))))
      [.val (.str s), .val (.int d), .val (.int q), .no] = .ok (.new [.str (s ++ [48]), .str (s.drop 1), .str (put s q 50), .str (put s q 32), .non, .int 0, .lst [.str s]]) :=
    lst_o (cons_o (ad _ _) (cons_o d1 (cons_o (pt _ _) (cons_o (pt _ _) (cons_o rfl (cons_o rfl (cons_n (lst_o (ds := [.str s]) (cons_o rfl nil_o) rfl (by simp)) nil_o))))))) rfl (by simp)
  rw [seq_n (set_n e2)]
  show gRet _ [.val (.str s), .val (.int d), .val (.int q), .val (.lst [.str (s ++ [48]), .str (s.drop 1), .str (put s q 50), .str (put s q 32), .non, .int 0, .lst [.str s]])] = _
  refine ret_v (bin_g (bin_g (rb := .new [.lst (signsD s), .bl true, .str (s ++ [10]), .str [], .tup [.str s], .str (put s q 111)]) (c := .new (odds s q)) rfl (lst_o (cons_n (bi_o (cons_o rfl nil_o) (if_pos g1)) (cons_o rfl (cons_o (ad _ _) (cons_o rfl (cons_o (tup1 rfl) (cons_o (pt _ _) nil_o)))))) rfl (by simp)) rfl) (bin_o (bin_o rfl rfl (div_i (by decide))) rfl (mod_i (by decide))) ?_)
  show (atI (odds s q) ((d : Int) / 5 % 13)).map R.val = _
  rw [hj, atI_nat, List.getElem?_eq_getElem hjl]; rfl
/-! ### what is asked of a term -/
theorem isb_t : dIs (.val (.bl true)) (.val (.bl true)) = some (.val (.bl true)) := rfl
theorem isb_f : dIs (.val (.bl false)) (.val (.bl false)) = some (.val (.bl true)) := rfl
theorem put_sg45 {s : List Nat} {k : Nat} (h : Sg s) : Sg (put s k 45) := put_sg h (by simp)
theorem term_right_eq {s : List Nat} {n : Nat} (hs : Tm n s) (n0 : 0 < n) (n1 : n ≤ 5) (d : Nat) : g_law_term_right [.str s, .int d] = .ok (.val (.bl true)) := by
  have hl : s.length ≤ 5 := by rw [hs.1]; exact n1
  have g1 : s.length ≤ 100000 := small rfl (by omega)
  refine congrArg fin (?_ : b_law_term_right [.val (.str s), .val (.int d), .no, .no, .no, .no, .no] = .rt _)
  unfold b_law_term_right
  have s1 : gSet 3 true (fLc (fRg1 (fCons (fBin dShl (fC (.int 1)) (fBi dLen (fCons (fVar 0) fNil))) fNil)) [2] (.nm 2) (fTest (fCall0 g_law_agrees (fCons (fVar 0) (fCons (fVar 2) fNil)))) (fVar 2)) [.val (.str s), .val (.int d), .no, .no, .no, .no, .no]
      = .nx [.val (.str s), .val (.int d), .no, .val (.lst (sets s)), .no, .no, .no] :=
    set_n (lc_o (rg2 rfl hl) (Nat.le_trans (pow_le hl) (by decide)) fun i hi => ⟨_, rfl, test_o (call_o (cons_o rfl (cons_o rfl nil_o)) (g_law_agrees_eq s hs.2 i)), fun _ => rfl⟩)
  rw [seq_n s1]
  obtain ⟨e2, h2, a2, b2, rfl⟩ := forL_rg (t := .nm 2) (n := 2 ^ s.length) (es := [.val (.str s), .val (.int d), .no, .val (.lst (sets s)), .no, .no, .no])
    (I := fun _ es => ∃ a b, es = [.val (.str s), .val (.int d), a, .val (.lst (sets s)), b, .no, .no])
    (body := (gSeq (gSet 4 false (fCall0 g_has (fCons (fVar 0) (fCons (fVar 2) fNil))))
    (gIf (fOr (fNot (fTest (fBi dIsi (fCons (fVar 4) (fCons (fC (.ty "bool")) fNil))))) (fTest (fBin dNe (fVar 4) (fBin dIn (fVar 2) (fVar 3))))) (gRet (fC (.bl false))) gNext)))
    (fun i hi es ⟨a, b, h⟩ => by
      subst h
      refine ⟨_, rfl, [.val (.str s), .val (.int d), .val (.int i), .val (.lst (sets s)), .val (.bl (agB i 0 s)), .no, .no], ?_, _, _, rfl⟩
      rw [seq_n (set_v (call_o (cons_o rfl (cons_o rfl nil_o)) (g_has_eq s hs.2 i)))]
      exact if_f ((or_f (not_o (k := true) (test_o (bi_o (cons_o rfl (cons_o rfl nil_o)) (isi_o _))))).trans (test_o (bin_o rfl (bin_o rfl rfl (in_sets hi)) (ne_b _))))) ⟨_, _, rfl⟩
  rw [seq_n ((for_o (rg2 rfl hl)).trans h2)]
  obtain ⟨e3, h3, a3, b3, rfl⟩ := forL_rg (t := .nm 5) (n := 2) (es := [.val (.str s), .val (.int d), a2, .val (.lst (sets s)), b2, .no, .no])
    (I := fun _ es => ∃ a b, es = [.val (.str s), .val (.int d), a2, .val (.lst (sets s)), a, b, .no])
    (body := (gSeq (gSet 4 false (fCall0 g_settings_of (fCons (fVar 0) fNil)))
    (gSeq (gIf (fTest (fBin dNe (fVar 4) (fVar 3))) (gRet (fC (.bl false))) gNext)
    (gApp 4 (fC .non)))))
    (fun i hi es ⟨a, b, h⟩ => by
      subst h
      refine ⟨_, rfl, [.val (.str s), .val (.int d), a2, .val (.lst (sets s)), .own (sets s ++ [.non]), .val (.int i), .no], ?_, _, _, rfl⟩
      rw [seq_n (set_own (call_n (cons_o rfl nil_o) (g_settings_of_eq hs.2 hl)))]
      show gSeq _ _ [.val (.str s), .val (.int d), a2, .val (.lst (sets s)), .own (sets s), .val (.int i), .no] = _
      rw [seq_n (if_f (test_o (bin_g (ra := .bor (sets s)) (rb := .val (.lst (sets s))) rfl rfl (ne_sets s))))]
      show (if (sets s).length < 90000 then Out.nx _ else .no) = _
      have : (sets s).length ≤ 32 := by
        unfold sets
        rw [List.length_map]
        exact Nat.le_trans (List.length_filter_le _ _) (by rw [List.length_range]; exact pow_le hl)
      rw [if_pos (Nat.lt_of_le_of_lt this (by decide))]; rfl) ⟨_, _, rfl⟩
  rw [seq_n ((for_o (rg_o (n := 2) rfl (by decide))).trans h3)]
  obtain ⟨e4, h4, a4, rfl⟩ := forL_rg (t := .nm 6) (n := s.length) (es := [.val (.str s), .val (.int d), a2, .val (.lst (sets s)), a3, b3, .no])
    (I := fun _ es => ∃ a, es = [.val (.str s), .val (.int d), a2, .val (.lst (sets s)), a3, b3, a])
    (body := (gIf (fTest (fBin dNe (fCall0 g_freed (fCons (fVar 0) (fCons (fVar 6) fNil))) (fBin dAdd (fBin dAdd (fSl (fVar 0) fNoPart (fPart (fVar 6))) (fC (.str [45]))) (fSl (fVar 0) (fPart (fBin dAdd (fVar 6) (fC (.int 1)))) fNoPart)))) (gRet (fC (.bl false))) gNext))
    (fun i hi es ⟨a, h⟩ => by
      subst h
      exact ⟨_, rfl, [.val (.str s), .val (.int d), a2, .val (.lst (sets s)), a3, b3, .val (.int i)], if_f (test_o (bin_o (call_o (cons_o rfl (cons_o rfl nil_o)) (g_freed_eq hl)) (put_o rfl rfl (bin_o rfl rfl rfl) rfl hl) (ne_s (put_sg45 hs.2)))), _, rfl⟩) ⟨_, rfl⟩
  rw [seq_n ((for_o (rg_o (n := s.length) (len_o rfl g1) (by omega))).trans h4)]
  obtain ⟨x, k, hk, hx, ho⟩ := g_law_odd_eq hs n0 n1 d
  have i1 : g_is_term [.str s, .int s.length] = .ok (.val (.bl true)) := by
    rw [g_is_term_str (by omega), all_pb hs.2]; simp
  have i2 : g_is_term [x, .int s.length] = .ok (.val (.bl false)) := by
    rw [hs.1]; exact odds_no hs n0 n1 hk x hx
  refine ret_v ?_
  rw [andv_t (bin_o (call_o (cons_o rfl (cons_o (len_o rfl g1) nil_o)) i1) rfl isb_t)]
  exact bin_o (call_o (cons_o (call_o (cons_o rfl (cons_o rfl nil_o)) ho) (cons_o (len_o rfl g1) nil_o)) i2) rfl isb_f
end K01
namespace K01
open PySem PySem.Spec PyProof.Rows L2 Fw
/-! ### the law -/
theorem forL_en {t : Tg} {body : Fw.Env → Out} (I : Fw.Env → Prop) (hb : ∀ (k : Nat) (c : Int) (es : Fw.Env), I es → ∃ e1, stTg t (.val (.tup [.int (k : Int), .int c])) es = some e1 ∧ ∃ e2, body e1 = .nx e2 ∧ I e2) :
    ∀ (cs : List Int) (k : Nat) (es : Fw.Env), I es → ∃ e2, forL t body (enD k (cs.map D.int)) es = .nx e2 ∧ I e2
  | [], k, es, h => ⟨es, rfl, h⟩
  | c :: cs, k, es, h => by
    obtain ⟨e1, h1, e2, h2, h3⟩ := hb k c es h
    obtain ⟨e3, h4, h5⟩ := forL_en I hb cs (k + 1) e2 h3
    refine ⟨e3, ?_, h5⟩
    show forL t body (.val (.tup [.int (k : Int), .int c]) :: enD (k + 1) (cs.map D.int)) es = _
    rw [forL, h1]
    simp only [h2]
    exact h4
theorem ne_jn {s t : List Nat} (hs : Sg s) : dNe (.val (jn s t)) (.val (jn s t)) = some (.val (.bl false)) := by
  unfold jn
  split
  · split
    · rfl
    · exact ne_s (put_sg45 hs)
  · rfl
theorem asg_v {es e2 : Fw.Env} {f : Fw.Env → O R} {t : Tg} {d : D} (h : f es = .ok (.val d)) (h2 : stTg t (.val d) es = some e2) : gAsg t f es = .nx e2 := by
  unfold gAsg; rw [h]
  show (match stTg t (R.fz (.val d)) es with | some es' => Out.nx es' | none => .no) = _
  show (match stTg t (.val d) es with | some es' => Out.nx es' | none => .no) = _
  rw [h2]
theorem law_body {L : Sl} {k : Nat} {c : Int} {x3 x4 x5 x6 : Sl} : ∃ y3 y4 y5 y6, (gSeq (gSet 3 true (fCall0 g_law_spread (fCons (fVar 2) (fCons (fBin dMod (fVar 1) (fC (.int 60))) fNil))))
    (gSeq (gAsg (.tp [4, 5]) (fCall0 g_law_pair (fCons (fVar 2) (fCons (fBin dMod (fVar 1) (fC (.int 60))) fNil))))
    (gSeq (gIf (fOr (fNot (fTest (fCall0 g_law_term_right (fCons (fVar 4) (fCons (fBin dDiv (fVar 3) (fC (.int 7))) fNil))))) (fNot (fTest (fCall0 g_law_term_right (fCons (fVar 5) (fCons (fBin dDiv (fVar 3) (fC (.int 13))) fNil)))))) (gRet (fC (.bl false))) gNext)
    (gSeq (gSet 6 true (fCall0 g_law_joined (fCons (fVar 4) (fCons (fVar 5) fNil))))
    (gIf (fOr (fTest (fBin dNe (fCall0 g_laid (fCons (fVar 4) (fCons (fVar 5) fNil))) (fVar 6))) (fTest (fBin dNe (fCall0 g_laid (fCons (fVar 5) (fCons (fVar 4) fNil))) (fVar 6)))) (gRet (fC (.bl false))) gNext)))))
    [L, .val (.int k), .val (.int c), x3, x4, x5, x6] = .nx [L, .val (.int k), .val (.int c), y3, y4, y5, y6] := by
  obtain ⟨d, hd⟩ := spr_nat c ((k : Int) % 60) (by omega) (by omega)
  obtain ⟨n, s, u, n0, n1, hs, hu, hp⟩ := pair_eq c ((k : Int) % 60) (by omega) (by omega)
  obtain ⟨d7, h7⟩ := of_nat (i := (d : Int) / 7) (by omega)
  obtain ⟨d13, h13⟩ := of_nat (i := (d : Int) / 13) (by omega)
  refine ⟨.val (.int d), .val (.str s), .val (.str u), .val (jn s u), ?_⟩
  have m60 : ∀ a b c d : Sl, fBin dMod (fVar 1) (fC (.int 60)) [L, .val (.int k), a, b, c, d, x6] = .ok (.val (.int ((k : Int) % 60))) := fun a b c d => bin_o rfl rfl (mod_i (by decide))
  rw [seq_n (set_v (call_o (cons_o rfl (cons_o (m60 _ _ _ _) nil_o)) hd))]
  show gSeq _ _ [L, .val (.int k), .val (.int c), .val (.int d), x4, x5, x6] = _
  rw [seq_n (asg_v (call_o (cons_o rfl (cons_o (m60 _ _ _ _) nil_o)) hp) rfl)]
  show gSeq _ _ [L, .val (.int k), .val (.int c), .val (.int d), .val (.str s), .val (.str u), x6] = _
  have d7' : fBin dDiv (fVar 3) (fC (.int 7)) [L, .val (.int k), .val (.int c), .val (.int d), .val (.str s), .val (.str u), x6] = .ok (.val (.int d7)) := by
    rw [← h7]; exact bin_o rfl rfl (div_i (by decide))
  have d13' : fBin dDiv (fVar 3) (fC (.int 13)) [L, .val (.int k), .val (.int c), .val (.int d), .val (.str s), .val (.str u), x6] = .ok (.val (.int d13)) := by
    rw [← h13]; exact bin_o rfl rfl (div_i (by decide))
  have t1 := not_o (k := true) (test_o (call_o (fr := fCons (fVar 4) (fCons (fBin dDiv (fVar 3) (fC (.int 7))) fNil)) (cons_o rfl (cons_o d7' nil_o)) (term_right_eq hs n0 n1 d7)))
  have t2 := not_o (k := true) (test_o (call_o (fr := fCons (fVar 5) (fCons (fBin dDiv (fVar 3) (fC (.int 13))) fNil)) (cons_o rfl (cons_o d13' nil_o)) (term_right_eq hu n0 n1 d13)))
  rw [seq_n (if_f ((or_f t1).trans t2))]
  have ln : s.length = u.length := by rw [hs.1, hu.1]
  rw [seq_n (set_v (call_o (cons_o rfl (cons_o rfl nil_o)) (joined_eq hs hu n1)))]
  show gIf _ _ _ [L, .val (.int k), .val (.int c), .val (.int d), .val (.str s), .val (.str u), .val (jn s u)] = _
  have l2 := laid_eq hu hs n1
  rw [jn_symm ln] at l2
  exact if_f ((or_f (test_o (bin_o (call_o (cons_o rfl (cons_o rfl nil_o)) (laid_eq hs hu n1)) rfl (ne_jn hs.2)))).trans (test_o (bin_o (call_o (cons_o rfl (cons_o rfl nil_o)) l2) rfl (ne_jn hs.2))))
theorem flat_ints (ns : List Int) : (ns.map D.int).all flat = true := by
  rw [List.all_eq_true]
  intro d hd
  obtain ⟨n, _, rfl⟩ := List.mem_map.mp hd
  rfl
theorem law_eq (ns : List Int) (hn : ns.length ≤ 1000) : g_law [.lst (ns.map .int)] = .ok (.val (.bl true)) := by
  refine congrArg fin (?_ : b_law [.brw (.lst (ns.map .int)), .no, .no, .no, .no, .no, .no] = .rt (.val (.bl true)))
  unfold b_law
  have hsrc : fEnum true (fCons (fBin dAdd (fVar 0) (fLst (fCons (fC (.int 0)) fNil))) fNil) [.brw (.lst (ns.map .int)), .no, .no, .no, .no, .no, .no] = .ok (enD 0 ((ns ++ [0]).map D.int)) := by
    have h1 : fBin dAdd (fVar 0) (fLst (fCons (fC (.int 0)) fNil)) [.brw (.lst (ns.map .int)), .no, .no, .no, .no, .no, .no] = .ok (.new ((ns ++ [0]).map D.int)) := by
      refine bin_g (ra := .brw (.lst (ns.map .int))) (rb := .new [.int 0]) rfl (lst_o (cons_o rfl nil_o) rfl (by simp)) ?_
      show (match (if (ns.map D.int).all flat then some (ns.map D.int) else none), some [D.int 0] with
        | some xs, some ys => if xs.length + ys.length ≤ 100000 then some (R.new (xs ++ ys)) else none
        | _, _ => none) = _
      rw [flat_ints]
      show (if _ then _ else _) = _
      rw [if_pos (by simp; omega)]
      simp
    unfold fEnum
    rw [cons_n h1 nil_o]; rfl
  obtain ⟨e2, h2, _⟩ := forL_en (t := .tp [1, 2]) (I := fun es => ∃ L x1 x2 x3 x4 x5 x6, es = [L, x1, x2, x3, x4, x5, x6]) (fun k c es ⟨L, x1, x2, x3, x4, x5, x6, h⟩ => by
    subst h
    obtain ⟨y3, y4, y5, y6, e⟩ := law_body (L := L) (k := k) (c := c) (x3 := x3) (x4 := x4) (x5 := x5) (x6 := x6)
    exact ⟨_, rfl, _, e, _, _, _, _, _, _, _, rfl⟩) (ns ++ [0]) 0 [.brw (.lst (ns.map .int)), .no, .no, .no, .no, .no, .no] ⟨_, _, _, _, _, _, _, rfl⟩
  rw [seq_n ((for_o hsrc).trans h2)]
  rfl
end K01
namespace K01
open PySem PySem.Spec PyProof.Rows L2 Fw
def topS (i : Nat) : Stmt := PySem.Challenge.pw_fewterms_k01_terms.main.body.getD i (.Pass ⟨0, 0, 0, 0⟩)
abbrev s_law_joined : Stmt := topS 20
abbrev N_law_joined : List Str := ["_law_one", "_law_other", "_law_unlike", "_law_lamp"]
abbrev P_law_joined : List Str := ["_law_one", "_law_other"]
theorem sc_law_joined : FnScope N_law_joined P_law_joined (defScope s_law_joined) := ⟨rfl, rfl, rfl, by decide +kernel, rfl, by decide +kernel, by decide +kernel⟩
abbrev s_law_spread : Stmt := topS 16
abbrev N_law_spread : List Str := ["_law_cell", "_law_k"]
abbrev P_law_spread : List Str := ["_law_cell", "_law_k"]
theorem sc_law_spread : FnScope N_law_spread P_law_spread (defScope s_law_spread) := ⟨rfl, rfl, rfl, by decide +kernel, rfl, by decide +kernel, by decide +kernel⟩
abbrev s_law_bent : Stmt := topS 18
abbrev N_law_bent : List Str := ["_law_term", "_law_draw_here", "_law_turn", "_law_more", "_law_at"]
abbrev P_law_bent : List Str := ["_law_term", "_law_draw_here"]
theorem sc_law_bent : FnScope N_law_bent P_law_bent (defScope s_law_bent) := ⟨rfl, rfl, rfl, by decide +kernel, rfl, by decide +kernel, by decide +kernel⟩
abbrev s_law_pair : Stmt := topS 19
abbrev N_law_pair : List Str := ["_law_cell", "_law_k", "_law_draw_here", "_law_left", "_law_many", "_law_term", "_law_signs", "_law_place", "_law_lamp"]
abbrev P_law_pair : List Str := ["_law_cell", "_law_k"]
theorem sc_law_pair : FnScope N_law_pair P_law_pair (defScope s_law_pair) := ⟨rfl, rfl, rfl, by decide +kernel, rfl, by decide +kernel, by decide +kernel⟩
abbrev s_law_agrees : Stmt := topS 17
abbrev N_law_agrees : List Str := ["_law_term", "_law_one", "_law_lamp", "_law_sign"]
abbrev P_law_agrees : List Str := ["_law_term", "_law_one"]
theorem sc_law_agrees : FnScope N_law_agrees P_law_agrees (defScope s_law_agrees) := ⟨rfl, rfl, rfl, by decide +kernel, rfl, by decide +kernel, by decide +kernel⟩
abbrev s_law_odd : Stmt := topS 21
abbrev N_law_odd : List Str := ["_law_term", "_law_draw_here", "_law_at", "_law_some"]
abbrev P_law_odd : List Str := ["_law_term", "_law_draw_here"]
theorem sc_law_odd : FnScope N_law_odd P_law_odd (defScope s_law_odd) := ⟨rfl, rfl, rfl, by decide +kernel, rfl, by decide +kernel, by decide +kernel⟩
abbrev s_freed : Stmt := topS 12
abbrev N_freed : List Str := ["term", "lamp"]
abbrev P_freed : List Str := ["term", "lamp"]
theorem sc_freed : FnScope N_freed P_freed (defScope s_freed) := ⟨rfl, rfl, rfl, by decide +kernel, rfl, by decide +kernel, by decide +kernel⟩
abbrev s_is_lit : Stmt := topS 2
abbrev N_is_lit : List Str := ["setting", "lamp"]
abbrev P_is_lit : List Str := ["setting", "lamp"]
theorem sc_is_lit : FnScope N_is_lit P_is_lit (defScope s_is_lit) := ⟨rfl, rfl, rfl, by decide +kernel, rfl, by decide +kernel, by decide +kernel⟩
abbrev s_sign_at : Stmt := topS 9
abbrev N_sign_at : List Str := ["setting", "lamp"]
abbrev P_sign_at : List Str := ["setting", "lamp"]
theorem sc_sign_at : FnScope N_sign_at P_sign_at (defScope s_sign_at) := ⟨rfl, rfl, rfl, by decide +kernel, rfl, by decide +kernel, by decide +kernel⟩
abbrev s_has : Stmt := topS 10
abbrev N_has : List Str := ["term", "setting", "lamp", "sign"]
abbrev P_has : List Str := ["term", "setting"]
theorem sc_has : FnScope N_has P_has (defScope s_has) := ⟨rfl, rfl, rfl, by decide +kernel, rfl, by decide +kernel, by decide +kernel⟩
abbrev s_is_term : Stmt := topS 8
abbrev N_is_term : List Str := ["thing", "many"]
abbrev P_is_term : List Str := ["thing", "many"]
theorem sc_is_term : FnScope N_is_term P_is_term (defScope s_is_term) := ⟨rfl, rfl, rfl, by decide +kernel, rfl, by decide +kernel, by decide +kernel⟩
abbrev s_all_settings : Stmt := topS 1
abbrev N_all_settings : List Str := ["many"]
abbrev P_all_settings : List Str := ["many"]
theorem sc_all_settings : FnScope N_all_settings P_all_settings (defScope s_all_settings) := ⟨rfl, rfl, rfl, by decide +kernel, rfl, by decide +kernel, by decide +kernel⟩
abbrev s_settings_of : Stmt := topS 11
abbrev N_settings_of : List Str := ["term", "setting"]
abbrev P_settings_of : List Str := ["term"]
theorem sc_settings_of : FnScope N_settings_of P_settings_of (defScope s_settings_of) := ⟨rfl, rfl, rfl, by decide +kernel, rfl, by decide +kernel, by decide +kernel⟩
abbrev s_law_term_right : Stmt := topS 22
abbrev N_law_term_right : List Str := ["_law_term", "_law_draw_here", "_law_one", "_law_settings", "_law_found", "_law_turn", "_law_lamp"]
abbrev P_law_term_right : List Str := ["_law_term", "_law_draw_here"]
theorem sc_law_term_right : FnScope N_law_term_right P_law_term_right (defScope s_law_term_right) := ⟨rfl, rfl, rfl, by decide +kernel, rfl, by decide +kernel, by decide +kernel⟩
abbrev s_laid : Stmt := topS 13
abbrev N_laid : List Str := ["one", "other", "unlike", "at", "lamp"]
abbrev P_laid : List Str := ["one", "other"]
theorem sc_laid : FnScope N_laid P_laid (defScope s_laid) := ⟨rfl, rfl, rfl, by decide +kernel, rfl, by decide +kernel, by decide +kernel⟩
abbrev s_law : Stmt := topS 23
abbrev N_law : List Str := ["_law_script", "_law_k", "_law_cell", "_law_draw_here", "_law_term", "_law_other", "_law_due"]
abbrev P_law : List Str := ["_law_script"]
theorem sc_law : FnScope N_law P_law (defScope s_law) := ⟨rfl, rfl, rfl, by decide +kernel, rfl, by decide +kernel, by decide +kernel⟩
end K01
namespace K01
open PySem PySem.Spec PyProof.Rows L2 Fw
section
variable {P : Program} {w : World} {K : PySem.W.Frag} {mg : Str → Option Value} {base : Heap} {T : List Addr}
theorem ok_law_joined {f_law_joined : Addr} {fd_law_joined : FuncData} (D_law_joined : Def K mg "_law_joined" s_law_joined P_law_joined f_law_joined fd_law_joined) (z_len : mg "len" = none) (z_range : mg "range" = none) (z_sorted : mg "sorted" = none) :
    FnOk P w K mg base CX0 1 f_law_joined fd_law_joined P_law_joined (spD K T 2 (g_law_joined)) :=
  def_ok0 D_law_joined sc_law_joined (b_law_joined) fun cdv A outer s H E hr =>
      (dss_cons (ds_setLc (i := 2) (fz := true) (own := [("_law_lamp", 3)]) (t := (.nm 3)) sc_law_joined.nd (di_range1 z_range (da_cons (de_bi call_len cd_len z_len boot_len (da_cons (de_var 0) da_nil)) da_nil)) (blkOk_by (N := N_law_joined) (sc := defScope s_law_joined) (by decide +kernel)) (fun _ _ _ _ _ => (pgN 3 sc_law_joined.nd)) (fun _ _ _ _ _ => (dts_one (dt_cmp (op_neD (hq hr)) od_ne (de_ix ix_seq od_ix (de_var 0) (de_var 3)) (de_ix ix_seq od_ix (de_var 1) (de_var 3))))) (fun _ _ _ _ _ => (de_var 3)))
      (dss_cons (ds_if (dt_w (dw_or (dt_cmp (op_neD (hq hr)) od_ne (de_bi call_len cd_len z_len boot_len (da_cons (de_var 2) da_nil)) de_int) (dw_or1 (dt_cmp (op_neD (hq hr)) od_ne (de_bi cr_sortedA cd_sorted z_sorted boot_sorted (da_cons (de_lst (da_cons (de_ix ix_seq od_ix (de_var 0) (de_ix ix_seq od_ix (de_var 2) de_int)) (da_cons (de_ix ix_seq od_ix (de_var 1) (de_ix ix_seq od_ix (de_var 2) de_int)) da_nil))) da_nil)) (de_lst (da_cons (de_str [48]) (da_cons (de_str [49]) da_nil))))))) (dss_one (ds_ret de_non)) dss_nil)
      (dss_one (ds_ret (de_bin op_addA od_add (de_bin op_addA od_add (de_slice (de_var 0) do_none (do_some (de_ix ix_seq od_ix (de_var 2) de_int))) (de_str [45])) (de_slice (de_var 0) (do_some (de_bin op_addA od_add (de_ix ix_seq od_ix (de_var 2) de_int) de_int)) do_none))))))
theorem ok_law_spread {f_law_spread : Addr} {fd_law_spread : FuncData} (D_law_spread : Def K mg "_law_spread" s_law_spread P_law_spread f_law_spread fd_law_spread) :
    FnOk P w K mg base CX0 1 f_law_spread fd_law_spread P_law_spread (spD K T 2 (g_law_spread)) :=
  def_ok0 D_law_spread sc_law_spread (b_law_spread) fun cdv A outer s H E hr =>
      (dss_one (ds_ret (de_bin op_mod od_mod (de_bin op_mulA od_mulA (de_bin op_addA od_add (de_var 0) de_int) (de_bin op_addA od_add (de_bin op_addA od_add de_int (de_bin op_mulA od_mulA (de_bin op_mulA od_mulA de_int (de_var 1)) (de_var 1))) (de_var 1))) de_int)))
theorem ok_law_bent {f_law_bent : Addr} {fd_law_bent : FuncData} (D_law_bent : Def K mg "_law_bent" s_law_bent P_law_bent f_law_bent fd_law_bent) {f_law_spread : Addr} {fd_law_spread : FuncData} (D_law_spread : Def K mg "_law_spread" s_law_spread P_law_spread f_law_spread fd_law_spread) (G_law_spread : FnOk P w K mg base CX0 1 f_law_spread fd_law_spread P_law_spread (spD K T 2 (g_law_spread))) (z_len : mg "len" = none) (z_range : mg "range" = none) :
    FnOk P w K mg base CX0 2 f_law_bent fd_law_bent P_law_bent (spD K T 2 (g_law_bent)) :=
  def_ok0 D_law_bent sc_law_bent (b_law_bent) fun cdv A outer s H E hr =>
      (dss_cons (ds_for (t := (.nm 2)) (di_range1 z_range (da_cons (de_bin op_mod od_mod (de_var 1) de_int) da_nil)) (pgN 2 sc_law_bent.nd) (dss_cons (ds_set (i := 3) (fz := true) sc_law_bent.nd (de_call G_law_spread pass0 (hr.mono (by decide)) D_law_spread.at_ D_law_spread.fn.kp D_law_spread.bd (da_cons (de_var 1) (da_cons (de_var 2) da_nil)) (fCons_len (fCons_len fNil_len))))
      (dss_cons (ds_set (i := 4) (fz := true) sc_law_bent.nd (de_bin op_mod od_mod (de_var 3) (de_bi call_len cd_len z_len boot_len (da_cons (de_var 0) da_nil))))
      (dss_one (ds_set (i := 0) (fz := true) sc_law_bent.nd (de_bin op_addA od_add (de_bin op_addA od_add (de_slice (de_var 0) do_none (do_some (de_var 4))) (de_ix ix_seq od_ix (de_str [48, 49, 45]) (de_bin op_mod od_mod (de_bin op_fdiv od_div (de_var 3) de_int) de_int))) (de_slice (de_var 0) (do_some (de_bin op_addA od_add (de_var 4) de_int)) do_none)))))) PassesOwn.never)
      (dss_one (ds_retV 0)))
theorem ok_law_pair {f_law_pair : Addr} {fd_law_pair : FuncData} (D_law_pair : Def K mg "_law_pair" s_law_pair P_law_pair f_law_pair fd_law_pair) {f_law_bent : Addr} {fd_law_bent : FuncData} (D_law_bent : Def K mg "_law_bent" s_law_bent P_law_bent f_law_bent fd_law_bent) {f_law_spread : Addr} {fd_law_spread : FuncData} (D_law_spread : Def K mg "_law_spread" s_law_spread P_law_spread f_law_spread fd_law_spread) (G_law_bent : FnOk P w K mg base CX0 2 f_law_bent fd_law_bent P_law_bent (spD K T 2 (g_law_bent))) (G_law_spread : FnOk P w K mg base CX0 1 f_law_spread fd_law_spread P_law_spread (spD K T 2 (g_law_spread))) (z_range : mg "range" = none) :
    FnOk P w K mg base CX0 3 f_law_pair fd_law_pair P_law_pair (spD K T 2 (g_law_pair)) :=
  def_ok0 D_law_pair sc_law_pair (b_law_pair) fun cdv A outer s H E hr =>
      (dss_cons (ds_set (i := 2) (fz := true) sc_law_pair.nd (de_call G_law_spread pass0 (hr.mono (by decide)) D_law_spread.at_ D_law_spread.fn.kp D_law_spread.bd (da_cons (de_var 0) (da_cons (de_var 1) da_nil)) (fCons_len (fCons_len fNil_len))))
      (dss_cons (ds_set (i := 3) (fz := true) sc_law_pair.nd (de_if (dt_cmp (op_eqD (hq hr)) od_eq (de_bin op_mod od_mod (de_var 0) de_int) de_int) (de_bin op_fdiv od_div (de_var 0) de_int) (de_var 2)))
      (dss_cons (ds_set (i := 4) (fz := true) sc_law_pair.nd (de_bin op_addA od_add de_int (de_bin op_mod od_mod (de_var 3) de_int)))
      (dss_cons (ds_if (dt_cmp (op_eqD (hq hr)) od_eq (de_bin op_mod od_mod (de_var 0) de_int) de_int) (dss_cons (ds_set (i := 5) (fz := true) sc_law_pair.nd (de_join (de_str []) (de_lc (own := [("_law_lamp", 8)]) (t := (.nm 8)) sc_law_pair.nd (di_range1 z_range (da_cons (de_var 4) da_nil)) (blkOk_by (N := N_law_pair) (sc := defScope s_law_pair) (by decide +kernel)) (fun _ _ _ _ _ => (pgN 8 sc_law_pair.nd)) (fun _ _ _ _ _ => dts_nil) (fun _ _ _ _ _ => (de_ix ix_seq od_ix (de_str [48, 49, 45]) (de_bin op_mod od_mod (de_bin op_fdiv od_div (de_call G_law_spread pass0 (hr.mono (by decide)) D_law_spread.at_ D_law_spread.fn.kp D_law_spread.bd (da_cons (de_var 2) (da_cons (de_var 8) da_nil)) (fCons_len (fCons_len fNil_len))) de_int) de_int))))))
      (dss_one (ds_ret (de_tup (da_cons (de_var 5) (da_cons (de_call G_law_bent pass0 (hr.mono (by decide)) D_law_bent.at_ D_law_bent.fn.kp D_law_bent.bd (da_cons (de_var 5) (da_cons (de_bin op_fdiv od_div (de_var 2) de_int) da_nil)) (fCons_len (fCons_len fNil_len))) da_nil)))))) dss_nil)
      (dss_cons (ds_set (i := 3) (fz := true) sc_law_pair.nd (de_bin op_fdiv od_div (de_var 3) de_int))
      (dss_cons (ds_set (i := 6) (fz := true) sc_law_pair.nd (de_str []))
      (dss_cons (ds_for (t := (.nm 7)) (di_range1 z_range (da_cons (de_bin op_mulA od_mulA de_int (de_var 4)) da_nil)) (pgN 7 sc_law_pair.nd) (dss_cons (ds_set (i := 6) (fz := true) sc_law_pair.nd (de_bin op_addA od_add (de_var 6) (de_ix ix_seq od_ix (de_str [48, 49, 45]) (de_bin op_mod od_mod (de_var 3) de_int))))
      (dss_one (ds_set (i := 3) (fz := true) sc_law_pair.nd (de_bin op_fdiv od_div (de_var 3) de_int)))) PassesOwn.never)
      (dss_one (ds_ret (de_tup (da_cons (de_slice (de_var 6) do_none (do_some (de_var 4))) (da_cons (de_slice (de_var 6) (do_some (de_var 4)) do_none) da_nil))))))))))))
theorem ok_law_agrees {f_law_agrees : Addr} {fd_law_agrees : FuncData} (D_law_agrees : Def K mg "_law_agrees" s_law_agrees P_law_agrees f_law_agrees fd_law_agrees) (z_enumerate : mg "enumerate" = none) (z_int : mg "int" = none) :
    FnOk P w K mg base CX0 1 f_law_agrees fd_law_agrees P_law_agrees (spD K T 2 (g_law_agrees)) :=
  def_ok0 D_law_agrees sc_law_agrees (b_law_agrees) fun cdv A outer s H E hr =>
      (dss_cons (ds_for (t := (.tp [2, 3])) (di_enum z_enumerate (da_cons (de_var 0) da_nil)) (pgT (pgs1 (pgN 2 sc_law_agrees.nd) (pgs1 (pgN 3 sc_law_agrees.nd) pgs0))) (dss_one (ds_if (dt_w (dw_and (dt_cmp (op_neD (hq hr)) od_ne (de_var 3) (de_str [45])) (dw_and1 (dt_cmp (op_neD (hq hr)) od_ne (de_biT call_intA cd_int z_int boot_int (da_cons (de_var 3) da_nil)) (de_bin op_and od_and (de_bin op_shr od_shr (de_var 1) (de_var 2)) de_int))))) (dss_one (ds_ret de_bl)) dss_nil)) PassesOwn.never)
      (dss_one (ds_ret de_bl)))
theorem ok_law_odd {f_law_odd : Addr} {fd_law_odd : FuncData} (D_law_odd : Def K mg "_law_odd" s_law_odd P_law_odd f_law_odd fd_law_odd) (z_len : mg "len" = none) (z_list : mg "list" = none) :
    FnOk P w K mg base CX0 1 f_law_odd fd_law_odd P_law_odd (spD K T 2 (g_law_odd)) :=
  def_ok0 D_law_odd sc_law_odd (b_law_odd) fun cdv A outer s H E hr =>
      (dss_cons (ds_set (i := 2) (fz := true) sc_law_odd.nd (de_bin op_mod od_mod (de_var 1) (de_bi call_len cd_len z_len boot_len (da_cons (de_var 0) da_nil))))
      (dss_cons (ds_set (i := 3) (fz := true) sc_law_odd.nd (de_lst (da_cons (de_bin op_addA od_add (de_var 0) (de_str [48])) (da_cons (de_slice (de_var 0) (do_some de_int) do_none) (da_cons (de_bin op_addA od_add (de_bin op_addA od_add (de_slice (de_var 0) do_none (do_some (de_var 2))) (de_str [50])) (de_slice (de_var 0) (do_some (de_bin op_addA od_add (de_var 2) de_int)) do_none)) (da_cons (de_bin op_addA od_add (de_bin op_addA od_add (de_slice (de_var 0) do_none (do_some (de_var 2))) (de_str [32])) (de_slice (de_var 0) (do_some (de_bin op_addA od_add (de_var 2) de_int)) do_none)) (da_cons de_non (da_cons de_int (da_cons (de_lst (da_cons (de_var 0) da_nil)) da_nil)))))))))
      (dss_one (ds_ret (de_ix ix_seq od_ix (de_bin op_addA od_add (de_var 3) (de_lst (da_cons (de_biT (call_listA rfl) cd_list z_list boot_list (da_cons (de_var 0) da_nil)) (da_cons de_bl (da_cons (de_bin op_addA od_add (de_var 0) (de_str [10])) (da_cons (de_str []) (da_cons (de_tup (da_cons (de_var 0) da_nil)) (da_cons (de_bin op_addA od_add (de_bin op_addA od_add (de_slice (de_var 0) do_none (do_some (de_var 2))) (de_str [111])) (de_slice (de_var 0) (do_some (de_bin op_addA od_add (de_var 2) de_int)) do_none)) da_nil)))))))) (de_bin op_mod od_mod (de_bin op_fdiv od_div (de_var 1) de_int) de_int))))))
theorem ok_freed {f_freed : Addr} {fd_freed : FuncData} (D_freed : Def K mg "freed" s_freed P_freed f_freed fd_freed) (c_EITHER : ∃ t, mg "EITHER" = some (.str (tx [45]) t)) :
    FnOk P w K mg base CX0 1 f_freed fd_freed P_freed (spD K T 2 (g_freed)) :=
  def_ok0 D_freed sc_freed (b_freed) fun cdv A outer s H E hr =>
      (dss_one (ds_ret (de_bin op_addA od_add (de_bin op_addA od_add (de_slice (de_var 0) do_none (do_some (de_var 1))) (de_gstr [45] c_EITHER)) (de_slice (de_var 0) (do_some (de_bin op_addA od_add (de_var 1) de_int)) do_none))))
theorem ok_is_lit {f_is_lit : Addr} {fd_is_lit : FuncData} (D_is_lit : Def K mg "is_lit" s_is_lit P_is_lit f_is_lit fd_is_lit) :
    FnOk P w K mg base CX0 1 f_is_lit fd_is_lit P_is_lit (spD K T 2 (g_is_lit)) :=
  def_ok0 D_is_lit sc_is_lit (b_is_lit) fun cdv A outer s H E hr =>
      (dss_one (ds_ret (de_cmp (op_eqD (hq hr)) od_eq (de_bin op_and od_and (de_bin op_shr od_shr (de_var 0) (de_var 1)) de_int) de_int)))
theorem ok_sign_at {f_sign_at : Addr} {fd_sign_at : FuncData} (D_sign_at : Def K mg "sign_at" s_sign_at P_sign_at f_sign_at fd_sign_at) {f_is_lit : Addr} {fd_is_lit : FuncData} (D_is_lit : Def K mg "is_lit" s_is_lit P_is_lit f_is_lit fd_is_lit) (G_is_lit : FnOk P w K mg base CX0 1 f_is_lit fd_is_lit P_is_lit (spD K T 2 (g_is_lit))) (c_DARK : ∃ t, mg "DARK" = some (.str (tx [48]) t)) (c_LIT : ∃ t, mg "LIT" = some (.str (tx [49]) t)) :
    FnOk P w K mg base CX0 2 f_sign_at fd_sign_at P_sign_at (spD K T 2 (g_sign_at)) :=
  def_ok0 D_sign_at sc_sign_at (b_sign_at) fun cdv A outer s H E hr =>
      (dss_one (ds_ret (de_if (dt_val (de_call G_is_lit pass0 (hr.mono (by decide)) D_is_lit.at_ D_is_lit.fn.kp D_is_lit.bd (da_cons (de_var 0) (da_cons (de_var 1) da_nil)) (fCons_len (fCons_len fNil_len)))) (de_gstr [49] c_LIT) (de_gstr [48] c_DARK))))
theorem ok_has {f_has : Addr} {fd_has : FuncData} (D_has : Def K mg "has" s_has P_has f_has fd_has) {f_sign_at : Addr} {fd_sign_at : FuncData} (D_sign_at : Def K mg "sign_at" s_sign_at P_sign_at f_sign_at fd_sign_at) (G_sign_at : FnOk P w K mg base CX0 2 f_sign_at fd_sign_at P_sign_at (spD K T 2 (g_sign_at))) (z_enumerate : mg "enumerate" = none) (c_EITHER : ∃ t, mg "EITHER" = some (.str (tx [45]) t)) :
    FnOk P w K mg base CX0 3 f_has fd_has P_has (spD K T 2 (g_has)) :=
  def_ok0 D_has sc_has (b_has) fun cdv A outer s H E hr =>
      (dss_cons (ds_for (t := (.tp [2, 3])) (di_enum z_enumerate (da_cons (de_var 0) da_nil)) (pgT (pgs1 (pgN 2 sc_has.nd) (pgs1 (pgN 3 sc_has.nd) pgs0))) (dss_one (ds_if (dt_w (dw_and (dt_cmp (op_neD (hq hr)) od_ne (de_var 3) (de_gstr [45] c_EITHER)) (dw_and1 (dt_cmp (op_neD (hq hr)) od_ne (de_var 3) (de_call G_sign_at pass0 (hr.mono (by decide)) D_sign_at.at_ D_sign_at.fn.kp D_sign_at.bd (da_cons (de_var 1) (da_cons (de_var 2) da_nil)) (fCons_len (fCons_len fNil_len))))))) (dss_one (ds_ret de_bl)) dss_nil)) PassesOwn.never)
      (dss_one (ds_ret de_bl)))
theorem ok_is_term {f_is_term c_is_term p_is_term : Addr} {fd_is_term : FuncData} (D_is_term : DefC K mg "is_term" s_is_term P_is_term f_is_term fd_is_term c_is_term) (tb : GxR.TabB base mg c_is_term p_is_term) (hP : p_is_term ∈ T) (md : base.Ns mainGlobals mg) (z_all : mg "all" = none) (z_len : mg "len" = none) (z_str : mg "str" = none) (z_type : mg "type" = none) (c_SIGNS : ∃ t, mg "SIGNS" = some (.str (tx [45, 48, 49]) t)) :
    FnOk P w K mg base CX0 1 f_is_term fd_is_term P_is_term (spD K T 2 (g_is_term)) :=
  def_ok0C D_is_term sc_is_term (b_is_term) fun A outer s H E hr =>
      (dss_cons (ds_if (dt_w (dw_or (dt_cmp op_nisA od_nis (de_biT call_type1 cd_type z_type boot_type (da_cons (de_var 0) da_nil)) (de_bltn z_str boot_str)) (dw_or1 (dt_cmp (op_neD (hq hr)) od_ne (de_bi call_len cd_len z_len boot_len (da_cons (de_var 0) da_nil)) (de_var 1))))) (dss_one (ds_ret de_bl)) dss_nil)
      (dss_one (ds_ret (de_allG (pb := (inT [45, 48, 49])) hr z_all tb hP rfl ⟨rfl, rfl, by decide +kernel, rfl, rfl, gen_free (by decide +kernel)⟩ (de_var 0) (elt_inT (md) c_SIGNS)))))
theorem ok_all_settings {f_all_settings : Addr} {fd_all_settings : FuncData} (D_all_settings : Def K mg "all_settings" s_all_settings P_all_settings f_all_settings fd_all_settings) (z_list : mg "list" = none) (z_range : mg "range" = none) :
    FnOk P w K mg base CX0 1 f_all_settings fd_all_settings P_all_settings (spD K T 1 (g_all_settings)) :=
  def_ok0 D_all_settings sc_all_settings (b_all_settings) fun cdv A outer s H E hr =>
      (dss_one (ds_ret (de_lrg1 z_list z_range (de_bin op_shl od_shl de_int (de_var 0)))))
theorem ok_settings_of {f_settings_of : Addr} {fd_settings_of : FuncData} (D_settings_of : Def K mg "settings_of" s_settings_of P_settings_of f_settings_of fd_settings_of) {f_all_settings : Addr} {fd_all_settings : FuncData} (D_all_settings : Def K mg "all_settings" s_all_settings P_all_settings f_all_settings fd_all_settings) {f_has : Addr} {fd_has : FuncData} (D_has : Def K mg "has" s_has P_has f_has fd_has) (G_all_settings : FnOk P w K mg base CX0 1 f_all_settings fd_all_settings P_all_settings (spD K T 1 (g_all_settings))) (G_has : FnOk P w K mg base CX0 3 f_has fd_has P_has (spD K T 2 (g_has))) (z_len : mg "len" = none) :
    FnOk P w K mg base CX0 4 f_settings_of fd_settings_of P_settings_of (spD K T 1 (g_settings_of)) :=
  def_ok0 D_settings_of sc_settings_of (b_settings_of) fun cdv A outer s H E hr =>
      (dss_one (ds_ret (de_lc (own := [("setting", 1)]) (t := (.nm 1)) sc_settings_of.nd (di_any (de_call G_all_settings pass0 (hr.mono (by decide)) D_all_settings.at_ D_all_settings.fn.kp D_all_settings.bd (da_cons (de_bi call_len cd_len z_len boot_len (da_cons (de_var 0) da_nil)) da_nil) (fCons_len fNil_len))) (blkOk_by (N := N_settings_of) (sc := defScope s_settings_of) (by decide +kernel)) (fun _ _ _ _ _ => (pgN 1 sc_settings_of.nd)) (fun _ _ _ _ _ => (dts_one (dt_val (de_call G_has pass0 (hr.mono (by decide)) D_has.at_ D_has.fn.kp D_has.bd (da_cons (de_var 0) (da_cons (de_var 1) da_nil)) (fCons_len (fCons_len fNil_len)))))) (fun _ _ _ _ _ => (de_var 1)))))
theorem ok_law_term_right {f_law_term_right : Addr} {fd_law_term_right : FuncData} (D_law_term_right : Def K mg "_law_term_right" s_law_term_right P_law_term_right f_law_term_right fd_law_term_right) {f_law_agrees : Addr} {fd_law_agrees : FuncData} (D_law_agrees : Def K mg "_law_agrees" s_law_agrees P_law_agrees f_law_agrees fd_law_agrees) {f_law_odd : Addr} {fd_law_odd : FuncData} (D_law_odd : Def K mg "_law_odd" s_law_odd P_law_odd f_law_odd fd_law_odd) {f_freed : Addr} {fd_freed : FuncData} (D_freed : Def K mg "freed" s_freed P_freed f_freed fd_freed) {f_has : Addr} {fd_has : FuncData} (D_has : Def K mg "has" s_has P_has f_has fd_has) {f_is_term : Addr} {fd_is_term : FuncData} (D_is_term : Def K mg "is_term" s_is_term P_is_term f_is_term fd_is_term) {f_settings_of : Addr} {fd_settings_of : FuncData} (D_settings_of : Def K mg "settings_of" s_settings_of P_settings_of f_settings_of fd_settings_of) (G_law_agrees : FnOk P w K mg base CX0 1 f_law_agrees fd_law_agrees P_law_agrees (spD K T 2 (g_law_agrees))) (G_law_odd : FnOk P w K mg base CX0 1 f_law_odd fd_law_odd P_law_odd (spD K T 2 (g_law_odd))) (G_freed : FnOk P w K mg base CX0 1 f_freed fd_freed P_freed (spD K T 2 (g_freed))) (G_has : FnOk P w K mg base CX0 3 f_has fd_has P_has (spD K T 2 (g_has))) (G_is_term : FnOk P w K mg base CX0 1 f_is_term fd_is_term P_is_term (spD K T 2 (g_is_term))) (G_settings_of : FnOk P w K mg base CX0 4 f_settings_of fd_settings_of P_settings_of (spD K T 1 (g_settings_of))) (z_bool : mg "bool" = none) (z_isinstance : mg "isinstance" = none) (z_len : mg "len" = none) (z_range : mg "range" = none) :
    FnOk P w K mg base CX0 5 f_law_term_right fd_law_term_right P_law_term_right (spD K T 2 (g_law_term_right)) :=
  def_ok0 D_law_term_right sc_law_term_right (b_law_term_right) fun cdv A outer s H E hr =>
      (dss_cons (ds_setLc (i := 3) (fz := true) (own := [("_law_one", 2)]) (t := (.nm 2)) sc_law_term_right.nd (di_range1 z_range (da_cons (de_bin op_shl od_shl de_int (de_bi call_len cd_len z_len boot_len (da_cons (de_var 0) da_nil))) da_nil)) (blkOk_by (N := N_law_term_right) (sc := defScope s_law_term_right) (by decide +kernel)) (fun _ _ _ _ _ => (pgN 2 sc_law_term_right.nd)) (fun _ _ _ _ _ => (dts_one (dt_val (de_call G_law_agrees pass0 (hr.mono (by decide)) D_law_agrees.at_ D_law_agrees.fn.kp D_law_agrees.bd (da_cons (de_var 0) (da_cons (de_var 2) da_nil)) (fCons_len (fCons_len fNil_len)))))) (fun _ _ _ _ _ => (de_var 2)))
      (dss_cons (ds_for (t := (.nm 2)) (di_range1 z_range (da_cons (de_bin op_shl od_shl de_int (de_bi call_len cd_len z_len boot_len (da_cons (de_var 0) da_nil))) da_nil)) (pgN 2 sc_law_term_right.nd) (dss_cons (ds_set (i := 4) (fz := false) sc_law_term_right.nd (de_call G_has pass0 (hr.mono (by decide)) D_has.at_ D_has.fn.kp D_has.bd (da_cons (de_var 0) (da_cons (de_var 2) da_nil)) (fCons_len (fCons_len fNil_len))))
      (dss_one (ds_if (dt_w (dw_or (dt_not (dt_val (de_bi call_isi cd_isi z_isinstance boot_isinstance (da_cons (de_var 4) (da_cons (de_bltn z_bool boot_bool) da_nil))))) (dw_or1 (dt_cmp (op_neD (hq hr)) od_ne (de_var 4) (de_cmp op_in_seq od_in (de_var 2) (de_var 3)))))) (dss_one (ds_ret de_bl)) dss_nil))) PassesOwn.never)
      (dss_cons (ds_for (t := (.nm 5)) (di_range1 z_range (da_cons de_int da_nil)) (pgN 5 sc_law_term_right.nd) (dss_cons (ds_set (i := 4) (fz := false) sc_law_term_right.nd (de_call G_settings_of pass0 (hr.mono (by decide)) D_settings_of.at_ D_settings_of.fn.kp D_settings_of.bd (da_cons (de_var 0) da_nil) (fCons_len fNil_len)))
      (dss_cons (ds_if (dt_cmp (op_neD (hq hr)) od_ne (de_var 4) (de_var 3)) (dss_one (ds_ret de_bl)) dss_nil)
      (dss_one (ds_app 4 de_non)))) PassesOwn.never)
      (dss_cons (ds_for (t := (.nm 6)) (di_range1 z_range (da_cons (de_bi call_len cd_len z_len boot_len (da_cons (de_var 0) da_nil)) da_nil)) (pgN 6 sc_law_term_right.nd) (dss_one (ds_if (dt_cmp (op_neD (hq hr)) od_ne (de_call G_freed pass0 (hr.mono (by decide)) D_freed.at_ D_freed.fn.kp D_freed.bd (da_cons (de_var 0) (da_cons (de_var 6) da_nil)) (fCons_len (fCons_len fNil_len))) (de_bin op_addA od_add (de_bin op_addA od_add (de_slice (de_var 0) do_none (do_some (de_var 6))) (de_str [45])) (de_slice (de_var 0) (do_some (de_bin op_addA od_add (de_var 6) de_int)) do_none))) (dss_one (ds_ret de_bl)) dss_nil)) PassesOwn.never)
      (dss_one (ds_ret (de_and (de_cmp op_isA od_is (de_call G_is_term pass0 (hr.mono (by decide)) D_is_term.at_ D_is_term.fn.kp D_is_term.bd (da_cons (de_var 0) (da_cons (de_bi call_len cd_len z_len boot_len (da_cons (de_var 0) da_nil)) da_nil)) (fCons_len (fCons_len fNil_len))) de_bl) (de_one (de_cmp op_isA od_is (de_call G_is_term pass0 (hr.mono (by decide)) D_is_term.at_ D_is_term.fn.kp D_is_term.bd (da_cons (de_call G_law_odd pass0 (hr.mono (by decide)) D_law_odd.at_ D_law_odd.fn.kp D_law_odd.bd (da_cons (de_var 0) (da_cons (de_var 1) da_nil)) (fCons_len (fCons_len fNil_len))) (da_cons (de_bi call_len cd_len z_len boot_len (da_cons (de_var 0) da_nil)) da_nil)) (fCons_len (fCons_len fNil_len))) de_bl)))))))))
theorem ok_laid {f_laid : Addr} {fd_laid : FuncData} (D_laid : Def K mg "laid" s_laid P_laid f_laid fd_laid) {f_freed : Addr} {fd_freed : FuncData} (D_freed : Def K mg "freed" s_freed P_freed f_freed fd_freed) (G_freed : FnOk P w K mg base CX0 1 f_freed fd_freed P_freed (spD K T 2 (g_freed))) (z_len : mg "len" = none) (z_range : mg "range" = none) (c_EITHER : ∃ t, mg "EITHER" = some (.str (tx [45]) t)) :
    FnOk P w K mg base CX0 2 f_laid fd_laid P_laid (spD K T 2 (g_laid)) :=
  def_ok0 D_laid sc_laid (b_laid) fun cdv A outer s H E hr =>
      (dss_cons (ds_if (dt_cmp (op_neD (hq hr)) od_ne (de_bi call_len cd_len z_len boot_len (da_cons (de_var 0) da_nil)) (de_bi call_len cd_len z_len boot_len (da_cons (de_var 1) da_nil))) (dss_one (ds_ret de_non)) dss_nil)
      (dss_cons (ds_setLc (i := 2) (fz := true) (own := [("lamp", 4)]) (t := (.nm 4)) sc_laid.nd (di_range1 z_range (da_cons (de_bi call_len cd_len z_len boot_len (da_cons (de_var 0) da_nil)) da_nil)) (blkOk_by (N := N_laid) (sc := defScope s_laid) (by decide +kernel)) (fun _ _ _ _ _ => (pgN 4 sc_laid.nd)) (fun _ _ _ _ _ => (dts_one (dt_cmp (op_neD (hq hr)) od_ne (de_ix ix_seq od_ix (de_var 0) (de_var 4)) (de_ix ix_seq od_ix (de_var 1) (de_var 4))))) (fun _ _ _ _ _ => (de_var 4)))
      (dss_cons (ds_if (dt_cmp (op_neD (hq hr)) od_ne (de_bi call_len cd_len z_len boot_len (da_cons (de_var 2) da_nil)) de_int) (dss_one (ds_ret de_non)) dss_nil)
      (dss_cons (ds_set (i := 3) (fz := true) sc_laid.nd (de_ix ix_seq od_ix (de_var 2) de_int))
      (dss_cons (ds_if (dt_w (dw_or (dt_cmp (op_eqD (hq hr)) od_eq (de_ix ix_seq od_ix (de_var 0) (de_var 3)) (de_gstr [45] c_EITHER)) (dw_or1 (dt_cmp (op_eqD (hq hr)) od_eq (de_ix ix_seq od_ix (de_var 1) (de_var 3)) (de_gstr [45] c_EITHER))))) (dss_one (ds_ret de_non)) dss_nil)
      (dss_one (ds_ret (de_call G_freed pass0 (hr.mono (by decide)) D_freed.at_ D_freed.fn.kp D_freed.bd (da_cons (de_var 0) (da_cons (de_var 3) da_nil)) (fCons_len (fCons_len fNil_len))))))))))
theorem ok_law {f_law : Addr} {fd_law : FuncData} (D_law : Def K mg "law" s_law P_law f_law fd_law) {f_law_joined : Addr} {fd_law_joined : FuncData} (D_law_joined : Def K mg "_law_joined" s_law_joined P_law_joined f_law_joined fd_law_joined) {f_law_pair : Addr} {fd_law_pair : FuncData} (D_law_pair : Def K mg "_law_pair" s_law_pair P_law_pair f_law_pair fd_law_pair) {f_law_spread : Addr} {fd_law_spread : FuncData} (D_law_spread : Def K mg "_law_spread" s_law_spread P_law_spread f_law_spread fd_law_spread) {f_law_term_right : Addr} {fd_law_term_right : FuncData} (D_law_term_right : Def K mg "_law_term_right" s_law_term_right P_law_term_right f_law_term_right fd_law_term_right) {f_laid : Addr} {fd_laid : FuncData} (D_laid : Def K mg "laid" s_laid P_laid f_laid fd_laid) (G_law_joined : FnOk P w K mg base CX0 1 f_law_joined fd_law_joined P_law_joined (spD K T 2 (g_law_joined))) (G_law_pair : FnOk P w K mg base CX0 3 f_law_pair fd_law_pair P_law_pair (spD K T 2 (g_law_pair))) (G_law_spread : FnOk P w K mg base CX0 1 f_law_spread fd_law_spread P_law_spread (spD K T 2 (g_law_spread))) (G_law_term_right : FnOk P w K mg base CX0 5 f_law_term_right fd_law_term_right P_law_term_right (spD K T 2 (g_law_term_right))) (G_laid : FnOk P w K mg base CX0 2 f_laid fd_laid P_laid (spD K T 2 (g_laid))) (z_enumerate : mg "enumerate" = none) :
    FnOk P w K mg base CX0 6 f_law fd_law P_law (spD K T 1 (g_law)) :=
  def_ok0 D_law sc_law (b_law) fun cdv A outer s H E hr =>
      (dss_cons (ds_for (t := (.tp [1, 2])) (di_enum z_enumerate (da_cons (de_bin op_addA od_add (de_var 0) (de_lst (da_cons de_int da_nil))) da_nil)) (pgT (pgs1 (pgN 1 sc_law.nd) (pgs1 (pgN 2 sc_law.nd) pgs0))) (dss_cons (ds_set (i := 3) (fz := true) sc_law.nd (de_call G_law_spread pass0 (hr.mono (by decide)) D_law_spread.at_ D_law_spread.fn.kp D_law_spread.bd (da_cons (de_var 2) (da_cons (de_bin op_mod od_mod (de_var 1) de_int) da_nil)) (fCons_len (fCons_len fNil_len))))
      (dss_cons (ds_asg (t := (.tp [4, 5])) (de_call G_law_pair pass0 (hr.mono (by decide)) D_law_pair.at_ D_law_pair.fn.kp D_law_pair.bd (da_cons (de_var 2) (da_cons (de_bin op_mod od_mod (de_var 1) de_int) da_nil)) (fCons_len (fCons_len fNil_len))) (pgT (pgs1 (pgN 4 sc_law.nd) (pgs1 (pgN 5 sc_law.nd) pgs0))))
      (dss_cons (ds_if (dt_w (dw_or (dt_not (dt_val (de_call G_law_term_right pass0 (hr.mono (by decide)) D_law_term_right.at_ D_law_term_right.fn.kp D_law_term_right.bd (da_cons (de_var 4) (da_cons (de_bin op_fdiv od_div (de_var 3) de_int) da_nil)) (fCons_len (fCons_len fNil_len))))) (dw_or1 (dt_not (dt_val (de_call G_law_term_right pass0 (hr.mono (by decide)) D_law_term_right.at_ D_law_term_right.fn.kp D_law_term_right.bd (da_cons (de_var 5) (da_cons (de_bin op_fdiv od_div (de_var 3) de_int) da_nil)) (fCons_len (fCons_len fNil_len)))))))) (dss_one (ds_ret de_bl)) dss_nil)
      (dss_cons (ds_set (i := 6) (fz := true) sc_law.nd (de_call G_law_joined pass0 (hr.mono (by decide)) D_law_joined.at_ D_law_joined.fn.kp D_law_joined.bd (da_cons (de_var 4) (da_cons (de_var 5) da_nil)) (fCons_len (fCons_len fNil_len))))
      (dss_one (ds_if (dt_w (dw_or (dt_cmp (op_neD (hq hr)) od_ne (de_call G_laid pass0 (hr.mono (by decide)) D_laid.at_ D_laid.fn.kp D_laid.bd (da_cons (de_var 4) (da_cons (de_var 5) da_nil)) (fCons_len (fCons_len fNil_len))) (de_var 6)) (dw_or1 (dt_cmp (op_neD (hq hr)) od_ne (de_call G_laid pass0 (hr.mono (by decide)) D_laid.at_ D_laid.fn.kp D_laid.bd (da_cons (de_var 5) (da_cons (de_var 4) da_nil)) (fCons_len (fCons_len fNil_len))) (de_var 6))))) (dss_one (ds_ret de_bl)) dss_nil)))))) PassesOwn.never)
      (dss_one (ds_ret de_bl)))
end
end K01
namespace K01
open PySem PySem.Spec PyProof.Rows L2 Fw
theorem all_mk {w : World} {K : PySem.W.Frag} {h : Heap} {mg : Str → Option Value} {fa : Addr} {q : Program} (X : K.In h) (G : h.Ns mainGlobals mg) (hfa : mg "law" = some (.ref fa))
    (own : ∀ (y : Str) (f : Addr), ((recsOf q).any fun e => e.name == y) = true → mg y = some (.ref f) → OwnT K f h)
    {f_law_joined : Addr} {od_law_joined an_law_joined : Option Addr} {sl_law_joined : Array (Option Value)} {oc_law_joined kV_law_joined dc_law_joined pm_law_joined ct_law_joined cd_law_joined : Value}
    {f_law_spread : Addr} {od_law_spread an_law_spread : Option Addr} {sl_law_spread : Array (Option Value)} {oc_law_spread kV_law_spread dc_law_spread pm_law_spread ct_law_spread cd_law_spread : Value}
    {f_law_bent : Addr} {od_law_bent an_law_bent : Option Addr} {sl_law_bent : Array (Option Value)} {oc_law_bent kV_law_bent dc_law_bent pm_law_bent ct_law_bent cd_law_bent : Value}
    {f_law_pair : Addr} {od_law_pair an_law_pair : Option Addr} {sl_law_pair : Array (Option Value)} {oc_law_pair kV_law_pair dc_law_pair pm_law_pair ct_law_pair cd_law_pair : Value}
    {f_law_agrees : Addr} {od_law_agrees an_law_agrees : Option Addr} {sl_law_agrees : Array (Option Value)} {oc_law_agrees kV_law_agrees dc_law_agrees pm_law_agrees ct_law_agrees cd_law_agrees : Value}
    {f_law_odd : Addr} {od_law_odd an_law_odd : Option Addr} {sl_law_odd : Array (Option Value)} {oc_law_odd kV_law_odd dc_law_odd pm_law_odd ct_law_odd cd_law_odd : Value}
    {f_freed : Addr} {od_freed an_freed : Option Addr} {sl_freed : Array (Option Value)} {oc_freed kV_freed dc_freed pm_freed ct_freed cd_freed : Value}
    {f_is_lit : Addr} {od_is_lit an_is_lit : Option Addr} {sl_is_lit : Array (Option Value)} {oc_is_lit kV_is_lit dc_is_lit pm_is_lit ct_is_lit cd_is_lit : Value}
    {f_sign_at : Addr} {od_sign_at an_sign_at : Option Addr} {sl_sign_at : Array (Option Value)} {oc_sign_at kV_sign_at dc_sign_at pm_sign_at ct_sign_at cd_sign_at : Value}
    {f_has : Addr} {od_has an_has : Option Addr} {sl_has : Array (Option Value)} {oc_has kV_has dc_has pm_has ct_has cd_has : Value}
    {f_is_term : Addr} {od_is_term an_is_term : Option Addr} {sl_is_term : Array (Option Value)} {oc_is_term kV_is_term dc_is_term pm_is_term ct_is_term : Value}
    {c_is_term p_is_term : Addr} {te_is_term : Value} {td_is_term : Option Addr} {tv_is_term : Array Value} {ts_is_term : Array (Option Value)}
    {f_all_settings : Addr} {od_all_settings an_all_settings : Option Addr} {sl_all_settings : Array (Option Value)} {oc_all_settings kV_all_settings dc_all_settings pm_all_settings ct_all_settings cd_all_settings : Value}
    {f_settings_of : Addr} {od_settings_of an_settings_of : Option Addr} {sl_settings_of : Array (Option Value)} {oc_settings_of kV_settings_of dc_settings_of pm_settings_of ct_settings_of cd_settings_of : Value}
    {f_law_term_right : Addr} {od_law_term_right an_law_term_right : Option Addr} {sl_law_term_right : Array (Option Value)} {oc_law_term_right kV_law_term_right dc_law_term_right pm_law_term_right ct_law_term_right cd_law_term_right : Value}
    {f_laid : Addr} {od_laid an_laid : Option Addr} {sl_laid : Array (Option Value)} {oc_laid kV_laid dc_laid pm_laid ct_laid cd_laid : Value}
    {f_law : Addr} {od_law an_law : Option Addr} {sl_law : Array (Option Value)} {oc_law kV_law dc_law pm_law ct_law cd_law : Value}
    {v_DARK : Str} {tk_DARK : Tok}
    {v_EITHER : Str} {tk_EITHER : Tok}
    {v_LIT : Str} {tk_LIT : Tok}
    {v_SIGNS : Str} {tk_SIGNS : Tok}
    (a_law_joined : PySem.W.nsIn K mainGlobals "_law_joined" = some (some (.ref f_law_joined)))
    (l_law_joined : K.lookup f_law_joined = some ⟨oc_law_joined, od_law_joined, .func (PySem.W.fnOf "_law_joined" "_law_joined" (defArgs s_law_joined) (defBody s_law_joined) (defScope s_law_joined) .none kV_law_joined dc_law_joined pm_law_joined an_law_joined cd_law_joined ct_law_joined), sl_law_joined⟩)
    (i_law_joined : PySem.W.codeIn K cd_law_joined "_law_joined" = true)
    (k_law_joined : PySem.W.keepIn K (.ref f_law_joined) = true)
    (a_law_spread : PySem.W.nsIn K mainGlobals "_law_spread" = some (some (.ref f_law_spread)))
    (l_law_spread : K.lookup f_law_spread = some ⟨oc_law_spread, od_law_spread, .func (PySem.W.fnOf "_law_spread" "_law_spread" (defArgs s_law_spread) (defBody s_law_spread) (defScope s_law_spread) .none kV_law_spread dc_law_spread pm_law_spread an_law_spread cd_law_spread ct_law_spread), sl_law_spread⟩)
    (i_law_spread : PySem.W.codeIn K cd_law_spread "_law_spread" = true)
    (k_law_spread : PySem.W.keepIn K (.ref f_law_spread) = true)
    (a_law_bent : PySem.W.nsIn K mainGlobals "_law_bent" = some (some (.ref f_law_bent)))
    (l_law_bent : K.lookup f_law_bent = some ⟨oc_law_bent, od_law_bent, .func (PySem.W.fnOf "_law_bent" "_law_bent" (defArgs s_law_bent) (defBody s_law_bent) (defScope s_law_bent) .none kV_law_bent dc_law_bent pm_law_bent an_law_bent cd_law_bent ct_law_bent), sl_law_bent⟩)
    (i_law_bent : PySem.W.codeIn K cd_law_bent "_law_bent" = true)
    (k_law_bent : PySem.W.keepIn K (.ref f_law_bent) = true)
    (a_law_pair : PySem.W.nsIn K mainGlobals "_law_pair" = some (some (.ref f_law_pair)))
    (l_law_pair : K.lookup f_law_pair = some ⟨oc_law_pair, od_law_pair, .func (PySem.W.fnOf "_law_pair" "_law_pair" (defArgs s_law_pair) (defBody s_law_pair) (defScope s_law_pair) .none kV_law_pair dc_law_pair pm_law_pair an_law_pair cd_law_pair ct_law_pair), sl_law_pair⟩)
    (i_law_pair : PySem.W.codeIn K cd_law_pair "_law_pair" = true)
    (k_law_pair : PySem.W.keepIn K (.ref f_law_pair) = true)
    (a_law_agrees : PySem.W.nsIn K mainGlobals "_law_agrees" = some (some (.ref f_law_agrees)))
    (l_law_agrees : K.lookup f_law_agrees = some ⟨oc_law_agrees, od_law_agrees, .func (PySem.W.fnOf "_law_agrees" "_law_agrees" (defArgs s_law_agrees) (defBody s_law_agrees) (defScope s_law_agrees) .none kV_law_agrees dc_law_agrees pm_law_agrees an_law_agrees cd_law_agrees ct_law_agrees), sl_law_agrees⟩)
    (i_law_agrees : PySem.W.codeIn K cd_law_agrees "_law_agrees" = true)
    (k_law_agrees : PySem.W.keepIn K (.ref f_law_agrees) = true)
    (a_law_odd : PySem.W.nsIn K mainGlobals "_law_odd" = some (some (.ref f_law_odd)))
    (l_law_odd : K.lookup f_law_odd = some ⟨oc_law_odd, od_law_odd, .func (PySem.W.fnOf "_law_odd" "_law_odd" (defArgs s_law_odd) (defBody s_law_odd) (defScope s_law_odd) .none kV_law_odd dc_law_odd pm_law_odd an_law_odd cd_law_odd ct_law_odd), sl_law_odd⟩)
    (i_law_odd : PySem.W.codeIn K cd_law_odd "_law_odd" = true)
    (k_law_odd : PySem.W.keepIn K (.ref f_law_odd) = true)
    (a_freed : PySem.W.nsIn K mainGlobals "freed" = some (some (.ref f_freed)))
    (l_freed : K.lookup f_freed = some ⟨oc_freed, od_freed, .func (PySem.W.fnOf "freed" "freed" (defArgs s_freed) (defBody s_freed) (defScope s_freed) .none kV_freed dc_freed pm_freed an_freed cd_freed ct_freed), sl_freed⟩)
    (i_freed : PySem.W.codeIn K cd_freed "freed" = true)
    (k_freed : PySem.W.keepIn K (.ref f_freed) = true)
    (a_is_lit : PySem.W.nsIn K mainGlobals "is_lit" = some (some (.ref f_is_lit)))
    (l_is_lit : K.lookup f_is_lit = some ⟨oc_is_lit, od_is_lit, .func (PySem.W.fnOf "is_lit" "is_lit" (defArgs s_is_lit) (defBody s_is_lit) (defScope s_is_lit) .none kV_is_lit dc_is_lit pm_is_lit an_is_lit cd_is_lit ct_is_lit), sl_is_lit⟩)
    (i_is_lit : PySem.W.codeIn K cd_is_lit "is_lit" = true)
    (k_is_lit : PySem.W.keepIn K (.ref f_is_lit) = true)
    (a_sign_at : PySem.W.nsIn K mainGlobals "sign_at" = some (some (.ref f_sign_at)))
    (l_sign_at : K.lookup f_sign_at = some ⟨oc_sign_at, od_sign_at, .func (PySem.W.fnOf "sign_at" "sign_at" (defArgs s_sign_at) (defBody s_sign_at) (defScope s_sign_at) .none kV_sign_at dc_sign_at pm_sign_at an_sign_at cd_sign_at ct_sign_at), sl_sign_at⟩)
    (i_sign_at : PySem.W.codeIn K cd_sign_at "sign_at" = true)
    (k_sign_at : PySem.W.keepIn K (.ref f_sign_at) = true)
    (a_has : PySem.W.nsIn K mainGlobals "has" = some (some (.ref f_has)))
    (l_has : K.lookup f_has = some ⟨oc_has, od_has, .func (PySem.W.fnOf "has" "has" (defArgs s_has) (defBody s_has) (defScope s_has) .none kV_has dc_has pm_has an_has cd_has ct_has), sl_has⟩)
    (i_has : PySem.W.codeIn K cd_has "has" = true)
    (k_has : PySem.W.keepIn K (.ref f_has) = true)
    (a_is_term : PySem.W.nsIn K mainGlobals "is_term" = some (some (.ref f_is_term)))
    (l_is_term : K.lookup f_is_term = some ⟨oc_is_term, od_is_term, .func (PySem.W.fnOf "is_term" "is_term" (defArgs s_is_term) (defBody s_is_term) (defScope s_is_term) .none kV_is_term dc_is_term pm_is_term an_is_term (.ref c_is_term) ct_is_term), sl_is_term⟩)
    (i_is_term : PySem.W.codeIn K (.ref c_is_term) "is_term" = true)
    (k_is_term : PySem.W.keepIn K (.ref f_is_term) = true)
    (t_is_term : K.lookup c_is_term = some ⟨te_is_term, td_is_term, .fields tv_is_term, ts_is_term⟩)
    (u_is_term : tv_is_term[11]? = some (.ref p_is_term))
    (q_is_term : K.lookup p_is_term = none)
    (r_is_term : ((recsOf q).any fun e => e.name == ("is_term" : Str)) = true)
    (a_all_settings : PySem.W.nsIn K mainGlobals "all_settings" = some (some (.ref f_all_settings)))
    (l_all_settings : K.lookup f_all_settings = some ⟨oc_all_settings, od_all_settings, .func (PySem.W.fnOf "all_settings" "all_settings" (defArgs s_all_settings) (defBody s_all_settings) (defScope s_all_settings) .none kV_all_settings dc_all_settings pm_all_settings an_all_settings cd_all_settings ct_all_settings), sl_all_settings⟩)
    (i_all_settings : PySem.W.codeIn K cd_all_settings "all_settings" = true)
    (k_all_settings : PySem.W.keepIn K (.ref f_all_settings) = true)
    (a_settings_of : PySem.W.nsIn K mainGlobals "settings_of" = some (some (.ref f_settings_of)))
    (l_settings_of : K.lookup f_settings_of = some ⟨oc_settings_of, od_settings_of, .func (PySem.W.fnOf "settings_of" "settings_of" (defArgs s_settings_of) (defBody s_settings_of) (defScope s_settings_of) .none kV_settings_of dc_settings_of pm_settings_of an_settings_of cd_settings_of ct_settings_of), sl_settings_of⟩)
    (i_settings_of : PySem.W.codeIn K cd_settings_of "settings_of" = true)
    (k_settings_of : PySem.W.keepIn K (.ref f_settings_of) = true)
    (a_law_term_right : PySem.W.nsIn K mainGlobals "_law_term_right" = some (some (.ref f_law_term_right)))
    (l_law_term_right : K.lookup f_law_term_right = some ⟨oc_law_term_right, od_law_term_right, .func (PySem.W.fnOf "_law_term_right" "_law_term_right" (defArgs s_law_term_right) (defBody s_law_term_right) (defScope s_law_term_right) .none kV_law_term_right dc_law_term_right pm_law_term_right an_law_term_right cd_law_term_right ct_law_term_right), sl_law_term_right⟩)
    (i_law_term_right : PySem.W.codeIn K cd_law_term_right "_law_term_right" = true)
    (k_law_term_right : PySem.W.keepIn K (.ref f_law_term_right) = true)
    (a_laid : PySem.W.nsIn K mainGlobals "laid" = some (some (.ref f_laid)))
    (l_laid : K.lookup f_laid = some ⟨oc_laid, od_laid, .func (PySem.W.fnOf "laid" "laid" (defArgs s_laid) (defBody s_laid) (defScope s_laid) .none kV_laid dc_laid pm_laid an_laid cd_laid ct_laid), sl_laid⟩)
    (i_laid : PySem.W.codeIn K cd_laid "laid" = true)
    (k_laid : PySem.W.keepIn K (.ref f_laid) = true)
    (a_law : PySem.W.nsIn K mainGlobals "law" = some (some (.ref f_law)))
    (l_law : K.lookup f_law = some ⟨oc_law, od_law, .func (PySem.W.fnOf "law" "law" (defArgs s_law) (defBody s_law) (defScope s_law) .none kV_law dc_law pm_law an_law cd_law ct_law), sl_law⟩)
    (i_law : PySem.W.codeIn K cd_law "law" = true)
    (k_law : PySem.W.keepIn K (.ref f_law) = true)
    (z_all : PySem.W.nsIn K mainGlobals "all" = some none)
    (z_bool : PySem.W.nsIn K mainGlobals "bool" = some none)
    (z_enumerate : PySem.W.nsIn K mainGlobals "enumerate" = some none)
    (z_int : PySem.W.nsIn K mainGlobals "int" = some none)
    (z_isinstance : PySem.W.nsIn K mainGlobals "isinstance" = some none)
    (z_len : PySem.W.nsIn K mainGlobals "len" = some none)
    (z_list : PySem.W.nsIn K mainGlobals "list" = some none)
    (z_range : PySem.W.nsIn K mainGlobals "range" = some none)
    (z_sorted : PySem.W.nsIn K mainGlobals "sorted" = some none)
    (z_str : PySem.W.nsIn K mainGlobals "str" = some none)
    (z_type : PySem.W.nsIn K mainGlobals "type" = some none)
    (b_DARK : PySem.W.nsIn K mainGlobals "DARK" = some (some (.str v_DARK tk_DARK)))
    (e_DARK : v_DARK = tx [48])
    (b_EITHER : PySem.W.nsIn K mainGlobals "EITHER" = some (some (.str v_EITHER tk_EITHER)))
    (e_EITHER : v_EITHER = tx [45])
    (b_LIT : PySem.W.nsIn K mainGlobals "LIT" = some (some (.str v_LIT tk_LIT)))
    (e_LIT : v_LIT = tx [49])
    (b_SIGNS : PySem.W.nsIn K mainGlobals "SIGNS" = some (some (.str v_SIGNS tk_SIGNS)))
    (e_SIGNS : v_SIGNS = tx [45, 48, 49])
    : LamX.LawAtS PySem.Challenge.rw_fewterms_k01_terms w K CX0 6 63 "_law_script" mg fa h := by
  have e := hfa.symm.trans (PySem.W.mg_of X G a_law)
  have e2 : f_law = fa := by cases e; rfl
  subst e2
  have F_law_joined := fun_mk (st := s_law_joined) l_law_joined i_law_joined k_law_joined
  have D_law_joined : Def K mg "_law_joined" s_law_joined P_law_joined f_law_joined _ := ⟨F_law_joined, PySem.W.mg_of X G a_law_joined, F_law_joined.binds (ps := P_law_joined) fun _ _ _ _ _ _ us hl => match us, hl with | [_, _], _ => rfl⟩
  have F_law_spread := fun_mk (st := s_law_spread) l_law_spread i_law_spread k_law_spread
  have D_law_spread : Def K mg "_law_spread" s_law_spread P_law_spread f_law_spread _ := ⟨F_law_spread, PySem.W.mg_of X G a_law_spread, F_law_spread.binds (ps := P_law_spread) fun _ _ _ _ _ _ us hl => match us, hl with | [_, _], _ => rfl⟩
  have F_law_bent := fun_mk (st := s_law_bent) l_law_bent i_law_bent k_law_bent
  have D_law_bent : Def K mg "_law_bent" s_law_bent P_law_bent f_law_bent _ := ⟨F_law_bent, PySem.W.mg_of X G a_law_bent, F_law_bent.binds (ps := P_law_bent) fun _ _ _ _ _ _ us hl => match us, hl with | [_, _], _ => rfl⟩
  have F_law_pair := fun_mk (st := s_law_pair) l_law_pair i_law_pair k_law_pair
  have D_law_pair : Def K mg "_law_pair" s_law_pair P_law_pair f_law_pair _ := ⟨F_law_pair, PySem.W.mg_of X G a_law_pair, F_law_pair.binds (ps := P_law_pair) fun _ _ _ _ _ _ us hl => match us, hl with | [_, _], _ => rfl⟩
  have F_law_agrees := fun_mk (st := s_law_agrees) l_law_agrees i_law_agrees k_law_agrees
  have D_law_agrees : Def K mg "_law_agrees" s_law_agrees P_law_agrees f_law_agrees _ := ⟨F_law_agrees, PySem.W.mg_of X G a_law_agrees, F_law_agrees.binds (ps := P_law_agrees) fun _ _ _ _ _ _ us hl => match us, hl with | [_, _], _ => rfl⟩
  have F_law_odd := fun_mk (st := s_law_odd) l_law_odd i_law_odd k_law_odd
  have D_law_odd : Def K mg "_law_odd" s_law_odd P_law_odd f_law_odd _ := ⟨F_law_odd, PySem.W.mg_of X G a_law_odd, F_law_odd.binds (ps := P_law_odd) fun _ _ _ _ _ _ us hl => match us, hl with | [_, _], _ => rfl⟩
  have F_freed := fun_mk (st := s_freed) l_freed i_freed k_freed
  have D_freed : Def K mg "freed" s_freed P_freed f_freed _ := ⟨F_freed, PySem.W.mg_of X G a_freed, F_freed.binds (ps := P_freed) fun _ _ _ _ _ _ us hl => match us, hl with | [_, _], _ => rfl⟩
  have F_is_lit := fun_mk (st := s_is_lit) l_is_lit i_is_lit k_is_lit
  have D_is_lit : Def K mg "is_lit" s_is_lit P_is_lit f_is_lit _ := ⟨F_is_lit, PySem.W.mg_of X G a_is_lit, F_is_lit.binds (ps := P_is_lit) fun _ _ _ _ _ _ us hl => match us, hl with | [_, _], _ => rfl⟩
  have F_sign_at := fun_mk (st := s_sign_at) l_sign_at i_sign_at k_sign_at
  have D_sign_at : Def K mg "sign_at" s_sign_at P_sign_at f_sign_at _ := ⟨F_sign_at, PySem.W.mg_of X G a_sign_at, F_sign_at.binds (ps := P_sign_at) fun _ _ _ _ _ _ us hl => match us, hl with | [_, _], _ => rfl⟩
  have F_has := fun_mk (st := s_has) l_has i_has k_has
  have D_has : Def K mg "has" s_has P_has f_has _ := ⟨F_has, PySem.W.mg_of X G a_has, F_has.binds (ps := P_has) fun _ _ _ _ _ _ us hl => match us, hl with | [_, _], _ => rfl⟩
  have F_is_term := fun_mk (st := s_is_term) l_is_term i_is_term k_is_term
  have D_is_term : Def K mg "is_term" s_is_term P_is_term f_is_term _ := ⟨F_is_term, PySem.W.mg_of X G a_is_term, F_is_term.binds (ps := P_is_term) fun _ _ _ _ _ _ us hl => match us, hl with | [_, _], _ => rfl⟩
  have DC_is_term : DefC K mg "is_term" s_is_term P_is_term f_is_term _ c_is_term := ⟨D_is_term, ⟨_, _, _, _, _, _, _, _, rfl, l_is_term, i_is_term⟩⟩
  have O_is_term := own "is_term" f_is_term r_is_term (PySem.W.mg_of X G a_is_term) c_is_term p_is_term _ _ _ _ _ _ l_is_term rfl rfl t_is_term u_is_term
  have F_all_settings := fun_mk (st := s_all_settings) l_all_settings i_all_settings k_all_settings
  have D_all_settings : Def K mg "all_settings" s_all_settings P_all_settings f_all_settings _ := ⟨F_all_settings, PySem.W.mg_of X G a_all_settings, F_all_settings.binds (ps := P_all_settings) fun _ _ _ _ _ _ us hl => match us, hl with | [_], _ => rfl⟩
  have F_settings_of := fun_mk (st := s_settings_of) l_settings_of i_settings_of k_settings_of
  have D_settings_of : Def K mg "settings_of" s_settings_of P_settings_of f_settings_of _ := ⟨F_settings_of, PySem.W.mg_of X G a_settings_of, F_settings_of.binds (ps := P_settings_of) fun _ _ _ _ _ _ us hl => match us, hl with | [_], _ => rfl⟩
  have F_law_term_right := fun_mk (st := s_law_term_right) l_law_term_right i_law_term_right k_law_term_right
  have D_law_term_right : Def K mg "_law_term_right" s_law_term_right P_law_term_right f_law_term_right _ := ⟨F_law_term_right, PySem.W.mg_of X G a_law_term_right, F_law_term_right.binds (ps := P_law_term_right) fun _ _ _ _ _ _ us hl => match us, hl with | [_, _], _ => rfl⟩
  have F_laid := fun_mk (st := s_laid) l_laid i_laid k_laid
  have D_laid : Def K mg "laid" s_laid P_laid f_laid _ := ⟨F_laid, PySem.W.mg_of X G a_laid, F_laid.binds (ps := P_laid) fun _ _ _ _ _ _ us hl => match us, hl with | [_, _], _ => rfl⟩
  have F_law := fun_mk (st := s_law) l_law i_law k_law
  have D_law : Def K mg "law" s_law P_law f_law _ := ⟨F_law, PySem.W.mg_of X G a_law, F_law.binds (ps := P_law) fun _ _ _ _ _ _ us hl => match us, hl with | [_], _ => rfl⟩
  have c_DARK : ∃ t, mg "DARK" = some (.str (tx [48]) t) := ⟨tk_DARK, by rw [← e_DARK]; exact PySem.W.mg_of X G b_DARK⟩
  have c_EITHER : ∃ t, mg "EITHER" = some (.str (tx [45]) t) := ⟨tk_EITHER, by rw [← e_EITHER]; exact PySem.W.mg_of X G b_EITHER⟩
  have c_LIT : ∃ t, mg "LIT" = some (.str (tx [49]) t) := ⟨tk_LIT, by rw [← e_LIT]; exact PySem.W.mg_of X G b_LIT⟩
  have c_SIGNS : ∃ t, mg "SIGNS" = some (.str (tx [45, 48, 49]) t) := ⟨tk_SIGNS, by rw [← e_SIGNS]; exact PySem.W.mg_of X G b_SIGNS⟩
  have y_all := PySem.W.mg_none_of X G z_all
  have y_bool := PySem.W.mg_none_of X G z_bool
  have y_enumerate := PySem.W.mg_none_of X G z_enumerate
  have y_int := PySem.W.mg_none_of X G z_int
  have y_isinstance := PySem.W.mg_none_of X G z_isinstance
  have y_len := PySem.W.mg_none_of X G z_len
  have y_list := PySem.W.mg_none_of X G z_list
  have y_range := PySem.W.mg_none_of X G z_range
  have y_sorted := PySem.W.mg_none_of X G z_sorted
  have y_str := PySem.W.mg_none_of X G z_str
  have y_type := PySem.W.mg_none_of X G z_type
  refine ⟨PySem.W.fnOf "law" "law" (defArgs s_law) (defBody s_law) (defScope s_law) .none kV_law dc_law pm_law an_law cd_law ct_law, [(c_is_term, p_is_term)], spD K [p_is_term] 1 (g_law), fun p hp => by
      simp only [List.mem_cons, List.not_mem_nil, or_false] at hp
      subst hp
      exact O_is_term.1, fun p hp => by
      simp only [List.mem_cons, List.not_mem_nil, or_false] at hp
      subst hp
      exact q_is_term, fun p hp => by
      simp only [List.mem_cons, List.not_mem_nil, or_false] at hp
      subst hp
      exact O_is_term.2, fun s v => .of_eq rfl, fun H a ns hl _ hT hS => law_sp (law_eq ns (by omega)) hT hS, fun base kb gb tb => ?_⟩
  have G_law_joined := ok_law_joined (P := PySem.Challenge.rw_fewterms_k01_terms.prog) (w := w) (mg := mg) (base := base) (T := [p_is_term]) D_law_joined y_len y_range y_sorted
  have G_law_spread := ok_law_spread (P := PySem.Challenge.rw_fewterms_k01_terms.prog) (w := w) (mg := mg) (base := base) (T := [p_is_term]) D_law_spread
  have G_law_bent := ok_law_bent (P := PySem.Challenge.rw_fewterms_k01_terms.prog) (w := w) (mg := mg) (base := base) (T := [p_is_term]) D_law_bent D_law_spread G_law_spread y_len y_range
  have G_law_pair := ok_law_pair (P := PySem.Challenge.rw_fewterms_k01_terms.prog) (w := w) (mg := mg) (base := base) (T := [p_is_term]) D_law_pair D_law_bent D_law_spread G_law_bent G_law_spread y_range
  have G_law_agrees := ok_law_agrees (P := PySem.Challenge.rw_fewterms_k01_terms.prog) (w := w) (mg := mg) (base := base) (T := [p_is_term]) D_law_agrees y_enumerate y_int
  have G_law_odd := ok_law_odd (P := PySem.Challenge.rw_fewterms_k01_terms.prog) (w := w) (mg := mg) (base := base) (T := [p_is_term]) D_law_odd y_len y_list
  have G_freed := ok_freed (P := PySem.Challenge.rw_fewterms_k01_terms.prog) (w := w) (mg := mg) (base := base) (T := [p_is_term]) D_freed c_EITHER
  have G_is_lit := ok_is_lit (P := PySem.Challenge.rw_fewterms_k01_terms.prog) (w := w) (mg := mg) (base := base) (T := [p_is_term]) D_is_lit
  have G_sign_at := ok_sign_at (P := PySem.Challenge.rw_fewterms_k01_terms.prog) (w := w) (mg := mg) (base := base) (T := [p_is_term]) D_sign_at D_is_lit G_is_lit c_DARK c_LIT
  have G_has := ok_has (P := PySem.Challenge.rw_fewterms_k01_terms.prog) (w := w) (mg := mg) (base := base) (T := [p_is_term]) D_has D_sign_at G_sign_at y_enumerate c_EITHER
  have G_is_term := ok_is_term (P := PySem.Challenge.rw_fewterms_k01_terms.prog) (w := w) (mg := mg) (base := base) (T := [p_is_term]) DC_is_term (let t := tb (c_is_term, p_is_term) (by simp); ⟨t.code, t.bm, t.gP⟩) (by simp) gb y_all y_len y_str y_type c_SIGNS
  have G_all_settings := ok_all_settings (P := PySem.Challenge.rw_fewterms_k01_terms.prog) (w := w) (mg := mg) (base := base) (T := [p_is_term]) D_all_settings y_list y_range
  have G_settings_of := ok_settings_of (P := PySem.Challenge.rw_fewterms_k01_terms.prog) (w := w) (mg := mg) (base := base) (T := [p_is_term]) D_settings_of D_all_settings D_has G_all_settings G_has y_len
  have G_law_term_right := ok_law_term_right (P := PySem.Challenge.rw_fewterms_k01_terms.prog) (w := w) (mg := mg) (base := base) (T := [p_is_term]) D_law_term_right D_law_agrees D_law_odd D_freed D_has D_is_term D_settings_of G_law_agrees G_law_odd G_freed G_has G_is_term G_settings_of y_bool y_isinstance y_len y_range
  have G_laid := ok_laid (P := PySem.Challenge.rw_fewterms_k01_terms.prog) (w := w) (mg := mg) (base := base) (T := [p_is_term]) D_laid D_freed G_freed y_len y_range c_EITHER
  have G_law := ok_law (P := PySem.Challenge.rw_fewterms_k01_terms.prog) (w := w) (mg := mg) (base := base) (T := [p_is_term]) D_law D_law_joined D_law_pair D_law_spread D_law_term_right D_laid G_law_joined G_law_pair G_law_spread G_law_term_right G_laid y_enumerate
  exact G_law
end K01
open PySem PySem.W PyProof.Rows
set_option maxHeartbeats 0 in
theorem PySem.Challenge.cw_fewterms_k01_terms_holds : PySem.Challenge.rw_fewterms_k01_terms.Holds := by
  w_on; o_law; k_head; (case hw => w_witness2)
  k_fill
  refine Fw.walk_all (l := PySem.Challenge.rw_fewterms_k01_terms) (n := 63) (k := 6) (x := "_law_script") (CX := fun _ => L2.CX0) rfl (by decide) rfl ⟨rfl, by decide, by decide⟩ (fun w h Y => PySem.W.kIn_of Y) ?F (fun _ _ _ _ _ h => h)
  case F =>
    intro w mg fa h Y KX G hmg own
    refine' K01.all_mk KX G hmg own ?a_law_joined ?l_law_joined ?i_law_joined ?k_law_joined ?a_law_spread ?l_law_spread ?i_law_spread ?k_law_spread ?a_law_bent ?l_law_bent ?i_law_bent ?k_law_bent ?a_law_pair ?l_law_pair ?i_law_pair ?k_law_pair ?a_law_agrees ?l_law_agrees ?i_law_agrees ?k_law_agrees ?a_law_odd ?l_law_odd ?i_law_odd ?k_law_odd ?a_freed ?l_freed ?i_freed ?k_freed ?a_is_lit ?l_is_lit ?i_is_lit ?k_is_lit ?a_sign_at ?l_sign_at ?i_sign_at ?k_sign_at ?a_has ?l_has ?i_has ?k_has ?a_is_term ?l_is_term ?i_is_term ?k_is_term ?t_is_term ?u_is_term ?q_is_term ?r_is_term ?a_all_settings ?l_all_settings ?i_all_settings ?k_all_settings ?a_settings_of ?l_settings_of ?i_settings_of ?k_settings_of ?a_law_term_right ?l_law_term_right ?i_law_term_right ?k_law_term_right ?a_laid ?l_laid ?i_laid ?k_laid ?a_law ?l_law ?i_law ?k_law ?z_all ?z_bool ?z_enumerate ?z_int ?z_isinstance ?z_len ?z_list ?z_range ?z_sorted ?z_str ?z_type ?b_DARK ?e_DARK ?b_EITHER ?e_EITHER ?b_LIT ?e_LIT ?b_SIGNS ?e_SIGNS
    (case a_law_joined => k_is)
    (case l_law_joined => k_is)
    (case i_law_joined => k_is)
    (case k_law_joined => k_is)
    (case a_law_spread => k_is)
    (case l_law_spread => k_is)
    (case i_law_spread => k_is)
    (case k_law_spread => k_is)
    (case a_law_bent => k_is)
    (case l_law_bent => k_is)
    (case i_law_bent => k_is)
    (case k_law_bent => k_is)
    (case a_law_pair => k_is)
    (case l_law_pair => k_is)
    (case i_law_pair => k_is)
    (case k_law_pair => k_is)
    (case a_law_agrees => k_is)
    (case l_law_agrees => k_is)
    (case i_law_agrees => k_is)
    (case k_law_agrees => k_is)
    (case a_law_odd => k_is)
    (case l_law_odd => k_is)
    (case i_law_odd => k_is)
    (case k_law_odd => k_is)
    (case a_freed => k_is)
    (case l_freed => k_is)
    (case i_freed => k_is)
    (case k_freed => k_is)
    (case a_is_lit => k_is)
    (case l_is_lit => k_is)
    (case i_is_lit => k_is)
    (case k_is_lit => k_is)
    (case a_sign_at => k_is)
    (case l_sign_at => k_is)
    (case i_sign_at => k_is)
    (case k_sign_at => k_is)
    (case a_has => k_is)
    (case l_has => k_is)
    (case i_has => k_is)
    (case k_has => k_is)
    (case a_is_term => k_is)
    (case l_is_term => k_is)
    (case i_is_term => k_is)
    (case k_is_term => k_is)
    (case t_is_term => k_is)
    (case u_is_term => first | rfl | k_is)
    (case q_is_term => first | rfl | kernel_rfl | decide +kernel)
    (case r_is_term => first | rfl | kernel_rfl)
    (case a_all_settings => k_is)
    (case l_all_settings => k_is)
    (case i_all_settings => k_is)
    (case k_all_settings => k_is)
    (case a_settings_of => k_is)
    (case l_settings_of => k_is)
    (case i_settings_of => k_is)
    (case k_settings_of => k_is)
    (case a_law_term_right => k_is)
    (case l_law_term_right => k_is)
    (case i_law_term_right => k_is)
    (case k_law_term_right => k_is)
    (case a_laid => k_is)
    (case l_laid => k_is)
    (case i_laid => k_is)
    (case k_laid => k_is)
    (case a_law => k_is)
    (case l_law => k_is)
    (case i_law => k_is)
    (case k_law => k_is)
    (case z_all => k_is)
    (case z_bool => k_is)
    (case z_enumerate => k_is)
    (case z_int => k_is)
    (case z_isinstance => k_is)
    (case z_len => k_is)
    (case z_list => k_is)
    (case z_range => k_is)
    (case z_sorted => k_is)
    (case z_str => k_is)
    (case z_type => k_is)
    (case b_DARK => k_is)
    (case e_DARK => first | rfl | decide +kernel)
    (case b_EITHER => k_is)
    (case e_EITHER => first | rfl | decide +kernel)
    (case b_LIT => k_is)
    (case e_LIT => first | rfl | decide +kernel)
    (case b_SIGNS => k_is)
    (case e_SIGNS => first | rfl | decide +kernel)
