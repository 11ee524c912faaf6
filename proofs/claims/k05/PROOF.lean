import PyProof.Rows.All
import Wide.All
import OpenK.AllK
import Wide.FinOn
import HandS.ForMost
import HandS.Walk
import HandS.AnyAll
import HandS.Conv
import HandS.More
import HandS.Style
import HandS.IsInst
import HandS.EndTab
import HandS.Exc
import HandS.ExcOwn
import HandS.ExcIs
import HandS.ExcValue
import HandS.WordsExc
import HandS.Zip
import HandS.Defaults
import HandS.Dict
import KE.GoesMore
import HandS.TupMul
import PyProof.Rows.SortShellAny
import HandS.DictComp
import HandS.Small
import HandS.Iter
import PySem.Challenge.RW_fewterms_k05_tellings
set_option Elab.async false
set_option linter.all false
set_option maxRecDepth 100000
set_option maxHeartbeats 4000000
/-! An error that outlives its clause: an object on the abstract heap. -/
namespace Fw
open PySem PySem.Spec PyProof.Rows L2
/-- a raised error of the class cls at a -/
def ExH (cls : Value) (d : Option Addr) (a : Addr) : HO := .ext fun h => ∃ (oe : Obj) (vs : Array Value), h.get? a = some oe ∧ Zc cls d oe ∧ oe.data = .fields vs
theorem exH_ok {P : Program} {w : World} {H : Hp} {h : Heap} {a : Addr} {cls : Value} {d : Option Addr} {oe : Obj} {vs : Array Value} (e : h.get? a = some oe) (z : Zc cls d oe) (k : oe.data = .fields vs) : ObjOk P w H h a (ExH cls d a) :=
  ⟨⟨oe, vs, e, z, k⟩, ⟨oe, e⟩, fun _ _ ⟨o, v, q, r⟩ k => ⟨o, v, k o q, r⟩⟩
section
variable {X : Cx} {pins : List (Addr × Obj)} {σ : L2.St} {H : Hp} {sI s' : Shared} {B : Heap}
/-- on the ground, the error tracked from here on -/
theorem landedT (I : Inv X pins σ H sI) (nb : ∀ b o, sI.heap.get? b = some o → b ∉ frs X.stack → B.get? b = some o) (sb : B.StaysIn s'.heap) (up : sI.heap.UpToSlots s'.heap) (eo : s'.os = sI.os) (bg : AllBare s'.gens)
    {a : Addr} {oe : Obj} {vs : Array Value} {cls : Value} {d : Option Addr} (na : sI.heap.get? a = none) (he : s'.heap.get? a = some oe) (hz : Zc cls d oe) (hd : oe.data = .fields vs) (hn : H a = none) : Inv X pins σ (upd H a (ExH cls d a)) s' := by
  have onF : ∀ b ∈ frs X.stack, ∀ o, sI.heap.get? b = some o → ∃ sl, s'.heap.get? b = some { o with slots := sl } := fun b hb o e => by
    obtain ⟨_, o2, e2, nd⟩ := I.stack.mem hb
    rw [e] at e2
    cases e2
    exact up b o e nd
  have ne : ∀ b o, sI.heap.get? b = some o → b ≠ a := fun b o e z => by
    rw [z, na] at e
    cases e
  have u : Un (frs X.stack) [] H (upd H a (ExH cls d a)) sI.heap s'.heap := {
    keep := fun b o e _ hb _ => sb b o (nb b o e hb)
    slot := fun b o e _ hb _ => onF b hb o e
    free := fun b o e n _ => by rw [upd_ne (ne b o e)]; exact n
    there := fun b o e _ => by
      by_cases hb : b ∈ frs X.stack
      · obtain ⟨sl, q⟩ := onF b hb o e
        exact ⟨_, q⟩
      · exact ⟨o, sb b o (nb b o e hb)⟩
    tups := fun b xs e => by rw [upd_ne (ne_of_none e hn)]; exact e
    frzs := fun b o u e => by rw [upd_ne (ne_of_none e hn)]; exact e
    tbls := fun b ps e => ⟨#[], by rw [upd_ne (ne_of_none e hn), e]; simp⟩ }
  have hok : HOk X.prog X.w (upd H a (ExH cls d a)) s'.heap := ((I.inGround nb).kept sb).laidN (fun _ _ e => e) hn (exH_ok he hz hd)
  have J := I.call (ch := []) (h' := s'.heap) (g' := s'.gens) (t' := s'.toks) (d' := s'.drawn) u hok bg (fun _ z => nomatch z)
  obtain ⟨b1, b2, b3, b4, b5⟩ := s'
  have e5 : b5 = sI.os := eo
  subst e5
  exact J
/-- into a clause's suite, nothing pinned -/
theorem toSuite (I : Inv X pins σ H sI) (a : Addr) : Inv (X.suite a (X.pn ++ pins)) [] σ H sI :=
  ⟨I.ok.suite _ _, I.os, I.bare, I.base, I.loc, I.cell, I.free, I.freeC, fun p hp => I.pin p (by rw [List.append_nil] at hp; exact hp), I.hok, I.len⟩
theorem ofSuite {a : Addr} {pn' : List (Addr × Obj)} (I : Inv (X.suite a (X.pn ++ pins)) pn' σ H sI) (ok : X.Ok) : Inv X pins σ H sI :=
  ⟨ok, I.os, I.bare, I.base, I.loc, I.cell, I.free, I.freeC, fun p hp => I.pin p (List.mem_append_left _ hp), I.hok, I.len⟩
end
/-- what the clause wants of the body's errors: caught, the error stands on the heap -/
def wAsT (K : PySem.W.Frag) (c : Value) (i : Nat) (ts : TS) (Wout : WX) (D : Ends) : WX := fun cls d σ H =>
  ∃ b, PySem.W.exmOne K cls c = some b ∧ (b = true → ∀ a, H a = none → ts { nx := fun σ' H' => D.nx (σ'.set i none) H', rt := D.rt, bk := fun σ' H' => D.bk (σ'.set i none) H', ct := fun σ' H' => D.ct (σ'.set i none) H' } (σ.set i (some (.ref a))) (upd H a (ExH cls d a))) ∧
    (b = false → Wout cls d σ H)
section
variable {X : Cx} {x n : Str} {c : Value} {i : Nat} {body suite : List Stmt} {b₀ : Stmt} {np pos pos' : Pos} {tb : WX → TS} {ts : TS} {Wout : WX}
theorem ps_try_asT (hs : X.stack = X.env :: X.outer) (hf : X.env.frame = some X.env.locals) (hN : X.N.Nodup) (hi : X.N[i]? = some n) (hln : X.env.kindOf n = some .local) (hc : Names X x c) (tk : Takes X Wout)
    (hb : ∀ (W : WX) (pn : List (Addr × Obj)) (xe : Value → Shared → Prop), Takes (X.tr pn xe) W → PassesOwn (model X.prog X.w) X.A X.env xe → PSs (X.tr pn xe) body (tb W)) (hsu : ∀ (a : Addr) (pn : List (Addr × Obj)), PSs (X.suite a pn) (b₀ :: suite) ts) :
    PS X (.Try body [.ExceptHandler (some (.Name x np)) (some n) (b₀ :: suite) pos'] [] [] pos) (fun D σ H => tb (wAsT X.K c i ts Wout D) D σ H) := by
  refine ⟨fun pins s σ H D I h => ?_⟩
  have okX := I.ok
  have frX : X.A.frames = some (X.env :: X.outer) := by rw [okX.frames, hs]
  have ln : Loc X.env.scope n := Or.inl hln
  refine wpAny_Try_except (wpAny_mono ((hb (wAsT X.K c i ts Wout D) (X.pn ++ pins) (fun e s1 => wpAny (model X.prog X.w) X.A (noteFrame e X.env) (fun _ s2 => wpAny (model X.prog X.w) X.A (setFlight e none)
    (fun _ s3 => wpAny (model X.prog X.w) X.A (handleBy e X.env [.ExceptHandler (some (.Name x np)) (some n) (b₀ :: suite) pos']) (SP X pins D) X.xe s3) X.xe s2) X.xe s1) (fun u s1 hx => ?_) PassesOwn.looking).run [] s σ H D (I.toTry _) h) (fun f s1 h1 => ?_) fun _ _ z => z)
  · obtain ⟨a, B, sI, pins1, σ1, H1, cls, d, rfl, J0, nb, up, sky, na, eo, bg, b, hb1, yes, no⟩ := hx
    have J : Inv X pins σ1 H1 sI := Inv.ofTry J0 okX
    have sky1 : Sky B (X.env :: X.outer) a (Zc cls d) X.env.locals s1.heap := by rw [← hs]; exact sky
    show wpAny (model X.prog X.w) X.A (noteFrame (.ref a) X.env) _ _ _
    refine Sky.land Zc.steady frX hf sky1 fun h3 fl3 up3 => ?_
    have J3 : Inv X pins σ1 H1 { s1 with heap := h3 } := J.landed nb fl3.1 (up.trans up3) eo bg
    obtain ⟨o3, v3, e3, z3, k3⟩ := HandSPX.FlyingZ.there fl3
    have nfr : a ∉ frs (X.env :: X.outer) := fun hm => by
      obtain ⟨_, o2, e2, nd⟩ := fl3.2.2.1.mem hm
      rw [e3] at e2
      cases e2
      exact nd _ k3
    have nI : sI.heap.get? a = none := by
      cases q : sI.heap.get? a with
      | none => rfl
      | some o =>
        have z := nb a o q (by rw [hs]; exact nfr)
        rw [fl3.2.1] at z
        cases z
    refine wpAny_handleBy_cons (codeAny_handlers_test ?_) (by intro q; cases q)
    have LT : PySem.W.Looks (model X.prog X.w) h3 (typeOf (.ref a)) cls := fun A Q E s k q => wpAny_typeOf_ref (k _ _ e3) (by rw [z3.1]; exact q)
    have LM := PySem.W.exm_one (M := model X.prog X.w) J3.kIn LT hb1
    have S3 := toSuite J3 a
    have rd : ∀ {Q : Value → Shared → Prop} {E : Value → Shared → Prop}, Q c { s1 with heap := h3 } → wpAny (model X.prog X.w) (X.A.mark (some (.ref a))) (eval (.Name x np) X.env) Q E { s1 with heap := h3 } := fun {Q E} q => by
      obtain ⟨hg, hq, hm | ⟨hm, hv, hnn⟩⟩ := hc
      · exact ld_glob (X := X.suite a (X.pn ++ pins)) S3 hg hm q hq
      · exact ld_blt (X := X.suite a (X.pn ++ pins)) S3 hg hm hv q hnn hq
    refine rd (LM.here ?_)
    cases b with
    | true =>
      refine codeAny_handlers_suite_as (HandSPX.lands_againZ fl3 fun h4 fl4 up4 => ?_)
      obtain ⟨o4, v4, e4, z4, k4⟩ := HandSPX.FlyingZ.there fl4
      have J4 : Inv X pins σ1 (upd H1 a (ExH cls d a)) { s1 with heap := h4 } := landedT (s' := { s1 with heap := h4 }) J nb fl4.1 ((up.trans up3).trans up4) eo bg nI e4 z4 k4 na
      refine store_ok (X := X.suite a (X.pn ++ pins)) (v := .ref a) (toSuite J4 a) hN hi ln rfl (fun s5 S5 => ?_) (.inr hln)
      refine wpAny_mono ((hsu a (X.pn ++ pins)).run [] s5 _ _ _ S5 (yes rfl a na)) (fun f s6 h6 => ?_) fun _ _ z => False.elim z
      have fin : ∀ {σ6 : L2.St} {H6 : Hp} {Q : Shared → Prop}, Inv (X.suite a (X.pn ++ pins)) [] σ6 H6 s6 → (∀ s7, Inv X pins (σ6.set i none) H6 s7 → Q s7) → wpAny (model X.prog X.w) X.A (do bindName X.env n .none; unbindBehindTheSuite X.env n pos') (fun _ s7 => Q s7) X.xe s6 :=
        fun {σ6 H6 Q} S6 q => gone_ok (ofSuite S6 okX) hN hi hln q
      cases f with
      | next =>
        obtain ⟨σ6, H6, S6, q6⟩ := h6
        exact fin S6 fun s7 J7 => ⟨_, _, J7, q6⟩
      | brk =>
        obtain ⟨σ6, H6, S6, q6⟩ := h6
        exact fin S6 fun s7 J7 => ⟨_, _, J7, q6⟩
      | cont =>
        obtain ⟨σ6, H6, S6, q6⟩ := h6
        exact fin S6 fun s7 J7 => ⟨_, _, J7, q6⟩
      | ret u =>
        obtain ⟨v6, σ6, H6, S6, r6, q6⟩ := h6
        exact fin S6 fun s7 J7 => ⟨_, _, _, J7, r6, q6⟩
    | false =>
      show wpAny _ X.A (handleBy (.ref a) X.env []) _ _ _
      refine wpAny_handleBy_nil ?_
      obtain ⟨k1, k2, k3', oe, vs, T1, oT, ts', he, hz, hd, hv1, hr⟩ := id fl3
      have again : wpAny (model X.prog X.w) X.A (setFlight (.ref a) X.env.frame) (fun _ s4 => wpAny (model X.prog X.w) X.A (throw (.ref a) : Sem Flow) (SP X pins D) X.xe s4) X.xe { s1 with heap := h3 } := by
        rw [hf]
        exact HandSPX.setFlight_upZ fl3 fun h4 hh4 up4 => wpAny_throw (tk _ _ ⟨a, B, sI, pins, σ1, H1, cls, d, rfl, J, nb, (up.trans up3).trans up4, .inr (.inr (by rw [hs]; exact hh4)), na, eo, bg, no rfl⟩)
      unfold PySem.passOn
      refine wpAny_bind (wpAny_field he hd hv1 ?_)
      rw [if_neg (show ¬ ((Value.ref T1 == Value.none) = true) from by simp)]
      first | exact wpAny_bind (wpAny_pure (wpAny_bind again)) | exact wpAny_bind again
  · cases f with
    | next =>
      obtain ⟨σ1, H1, J, q⟩ := h1
      exact wpAny_execs_nil ⟨σ1, H1, Inv.ofTry J I.ok, q⟩
    | brk =>
      obtain ⟨σ1, H1, J, q⟩ := h1
      exact ⟨σ1, H1, Inv.ofTry J I.ok, q⟩
    | cont =>
      obtain ⟨σ1, H1, J, q⟩ := h1
      exact ⟨σ1, H1, Inv.ofTry J I.ok, q⟩
    | ret u =>
      obtain ⟨v, σ1, H1, J, r, q⟩ := h1
      exact ⟨v, σ1, H1, Inv.ofTry J I.ok, r, q⟩
end
/-! ### isinstance of an error, by its class -/
def rIsX (K : PySem.W.Frag) : List V → Hp → VK → Prop := fun xs H Q => ∃ (a D : Addr) (c : V) (cv : Value) (b : Bool), xs = [.ref a, c] ∧ H a = some (ExH (.ref D) none a) ∧ ExcC K D ∧ (∀ u, RelV c u → u = cv) ∧ PySem.W.kitOne K (.ref D) cv = some b ∧ Q (.bl b) H
theorem call_isX {X : Cx} : CallR X (.builtin "isinstance") (rIsX X.K) := by
  intro pins s σ H xs us Q I r h
  obtain ⟨a, D, c, cv, b, rfl, hH, C, hcv, e, q⟩ := h
  cases r with
  | cons rx rr =>
    cases rr with
    | cons rt rr =>
      cases rr
      cases rx
      have ec := hcv _ rt
      subst ec
      obtain ⟨⟨oe, vs, hget, hz, hv⟩, _, _⟩ := I.hok a _ hH
      have J : PySem.W.InstAt s.heap a oe D none := by
        obtain ⟨oc, od, oda, osl⟩ := oe
        obtain ⟨h1, h2⟩ := hz
        dsimp only at h1 h2 hv
        subst h1 h2 hv
        exact ⟨hget, rfl, rfl, trivial⟩
      exact PySem.W.kia_one (PySem.W.handS_kitx_exc C.hg C.hk C.hs C.hd C.ha C.hn C.ht C.hm) I.kIn J e (fun z => nomatch z) fun tk => ⟨.bl b, H, I.kept (t' := tk) fun _ _ z => z, rfl, q⟩
end Fw
/-! Data beside the abstract heap: what a value is worth, frozen or borrowed; the programs' defs as functions on data. -/
namespace Fw
open PySem PySem.Spec PyProof.Rows L2
/-- a text by its signs -/
def tx (s : List Nat) : Str := ⟨s.toArray⟩
theorem tx_len (s : List Nat) : (tx s).length = s.length := by simp [tx, Str.length]
theorem tx_list (s : List Nat) : (tx s).cps.toList = s := by simp [tx]
theorem tx_inj {a b : List Nat} (h : tx a = tx b) : a = b := by
  have := congrArg (fun s : Str => s.cps.toList) h
  simpa [tx] using this
theorem tx_app (a b : List Nat) : tx a ++ tx b = tx (a ++ b) := by
  show Str.append (tx a) (tx b) = _
  simp [Str.append, tx]
/-- a key of a dict: an int, a text by its signs -/
abbrev DK := Sum Int (List Nat)
def kyOf : DK → L2.Key
  | .inl i => .inl i
  | .inr s => .inr (tx s)
inductive D where
  | non | bl (b : Bool) | int (i : Int) | str (s : List Nat) | lst (xs : List D) | tup (xs : List D) | ty (n : String)
  | ins (c : Addr) (ns : List Str) (ds : List D)
  | exn (c : Addr) (ns : List Str) (ds : List D)
  | emp | cls (c : Addr)
  | slf (a c : Addr) (ns : List Str) (ds : List D)
  | dct (ks : List DK) (ds : List D)
  deriving Inhabited
section
variable (K : PySem.W.Frag)
mutual
def Rp (H : Hp) : D → V → Prop
  | .non, v => v = .non
  | .bl b, v => v = .bl b
  | .int i, v => v = .int i
  | .str s, v => v = .str (tx s)
  | .ty n, v => v = .ty n
  | .lst xs, v => ∃ a vs, v = .ref a ∧ SqL K H a vs ∧ RpL H xs vs
  | .tup xs, v => ∃ a vs, v = .ref a ∧ SqT K H a vs ∧ RpL H xs vs
  | .ins c ns ds, v => ∃ a dx vs, v = .ref a ∧ H a = some (.ins c dx (ns.zip vs)) ∧ ns.length = ds.length ∧ RpL H ds vs
  | .exn c ns ds, v => ∃ a d, v = .ref a ∧ H a = some (ExH (.ref c) d a) ∧ ((d = none ∧ ns = []) ∨ ∃ dd vs, ns ≠ [] ∧ d = some dd ∧ H dd = some (.xd (ns.zip vs)) ∧ ns.length = ds.length ∧ RpL H ds vs)
  | .emp, v => ∃ a, v = .ref a ∧ H a = some (.dK [])
  | .cls c, v => v = .ref c
  | .slf a c ns ds, v => v = .ref a ∧ ∃ dx vs, H a = some (.ins c dx (ns.zip vs)) ∧ ns.length = ds.length ∧ RpL H ds vs
  | .dct ks ds, v => ∃ a od vs, v = .ref a ∧ H a = some (.frz od (.dK ((ks.map kyOf).zip vs))) ∧ ks.length = ds.length ∧ RpL H ds vs
def RpL (H : Hp) : List D → List V → Prop
  | [], vs => vs = []
  | d :: ds, vs => ∃ v r, vs = v :: r ∧ Rp H d v ∧ RpL H ds r
end
end
/-- heaps that grow -/
def Sub (H H' : Hp) : Prop := ∀ a o, H a = some o → H' a = some o
theorem Sub.refl (H : Hp) : Sub H H := fun _ _ h => h
theorem Sub.trans {H H1 H2 : Hp} (a : Sub H H1) (b : Sub H1 H2) : Sub H H2 := fun x o h => b x o (a x o h)
theorem Sub.new {H : Hp} {p : Addr} {o : HO} (h : H p = none) : Sub H (upd H p o) := fun a u e => by
  rw [upd_ne (ne_of_none e h)]; exact e
theorem Sub.rd {H H' : Hp} {a : Addr} {u : HO} (e : Sub H H') (h : Rd H a u) : Rd H' a u := by
  rcases h with h | ⟨o, h⟩
  · exact Or.inl (e a _ h)
  · exact Or.inr ⟨o, e a _ h⟩
section
variable {K : PySem.W.Frag}
theorem Sub.l {H H' : Hp} {a : Addr} {xs : List V} (e : Sub H H') (h : SqL K H a xs) : SqL K H' a xs := by
  rcases h with h | h
  · exact Or.inl (e.rd h)
  · exact Or.inr h
theorem Sub.t {H H' : Hp} {a : Addr} {xs : List V} (e : Sub H H') (h : SqT K H a xs) : SqT K H' a xs := by
  rcases h with h | h
  · exact Or.inl (e.rd h)
  · exact Or.inr h
mutual
theorem Rp.mono {H H' : Hp} (e : Sub H H') : ∀ (d : D) {v : V}, Rp K H d v → Rp K H' d v
  | .non, v, h => by simpa [Rp] using h
  | .bl b, v, h => by simpa [Rp] using h
  | .int i, v, h => by simpa [Rp] using h
  | .str s, v, h => by simpa [Rp] using h
  | .ty n, v, h => by simpa [Rp] using h
  | .lst xs, v, h => by
    rw [Rp] at h ⊢
    obtain ⟨a, vs, h1, h2, h3⟩ := h
    exact ⟨a, vs, h1, e.l h2, RpL.mono e xs h3⟩
  | .tup xs, v, h => by
    rw [Rp] at h ⊢
    obtain ⟨a, vs, h1, h2, h3⟩ := h
    exact ⟨a, vs, h1, e.t h2, RpL.mono e xs h3⟩
  | .ins c ns ds, v, h => by
    rw [Rp] at h ⊢
    obtain ⟨a, dx, vs, h1, h2, h3, h4⟩ := h
    exact ⟨a, dx, vs, h1, e _ _ h2, h3, RpL.mono e ds h4⟩
  | .exn c ns ds, v, h => by
    rw [Rp] at h ⊢
    obtain ⟨a, d, h1, h2, h3⟩ := h
    refine ⟨a, d, h1, e _ _ h2, h3.imp id fun ⟨dd, vs, k0, k1, k2, k3, k4⟩ => ⟨dd, vs, k0, k1, e _ _ k2, k3, RpL.mono e ds k4⟩⟩
  | .emp, v, h => by
    rw [Rp] at h ⊢
    obtain ⟨a, h1, h2⟩ := h
    exact ⟨a, h1, e _ _ h2⟩
  | .cls c, v, h => by simpa [Rp] using h
  | .slf a c ns ds, v, h => by
    rw [Rp] at h ⊢
    obtain ⟨h1, dx, vs, h2, h3, h4⟩ := h
    exact ⟨h1, dx, vs, e _ _ h2, h3, RpL.mono e ds h4⟩
  | .dct ks ds, v, h => by
    rw [Rp] at h ⊢
    obtain ⟨a, od, vs, h1, h2, h3, h4⟩ := h
    exact ⟨a, od, vs, h1, e _ _ h2, h3, RpL.mono e ds h4⟩
theorem RpL.mono {H H' : Hp} (e : Sub H H') : ∀ (ds : List D) {vs : List V}, RpL K H ds vs → RpL K H' ds vs
  | [], vs, h => by simpa [RpL] using h
  | d :: ds, vs, h => by
    rw [RpL] at h ⊢
    obtain ⟨v, r, h1, h2, h3⟩ := h
    exact ⟨v, r, h1, Rp.mono e d h2, RpL.mono e ds h3⟩
end
theorem RpL.nil {H : Hp} : RpL K H [] [] := by rw [RpL]
theorem RpL.cons {H : Hp} {d : D} {ds : List D} {v : V} {vs : List V} (h : Rp K H d v) (r : RpL K H ds vs) : RpL K H (d :: ds) (v :: vs) := by
  rw [RpL]; exact ⟨v, vs, rfl, h, r⟩
theorem RpL.app {H : Hp} : ∀ {ds es : List D} {vs us : List V}, RpL K H ds vs → RpL K H es us → RpL K H (ds ++ es) (vs ++ us)
  | [], es, vs, us, h, r => by
    rw [RpL] at h; subst h; exact r
  | d :: ds, es, vs, us, h, r => by
    rw [RpL] at h
    obtain ⟨v, rr, h1, h2, h3⟩ := h
    subst h1
    exact RpL.cons h2 (RpL.app h3 r)
theorem RpL.len {H : Hp} : ∀ {ds : List D} {vs : List V}, RpL K H ds vs → ds.length = vs.length
  | [], vs, h => by rw [RpL] at h; subst h; rfl
  | d :: ds, vs, h => by
    rw [RpL] at h
    obtain ⟨v, r, h1, h2, h3⟩ := h
    subst h1
    simp [RpL.len h3]
theorem RpL.get {H : Hp} : ∀ {ds : List D} {vs : List V} {i : Nat} {d : D}, RpL K H ds vs → ds[i]? = some d → ∃ v, vs[i]? = some v ∧ Rp K H d v
  | [], vs, i, d, h, e => by simp at e
  | d :: ds, vs, 0, d', h, e => by
    rw [RpL] at h
    obtain ⟨v, r, h1, h2, h3⟩ := h
    simp at e; subst e; subst h1
    exact ⟨v, rfl, h2⟩
  | d :: ds, vs, i + 1, d', h, e => by
    rw [RpL] at h
    obtain ⟨v, r, h1, h2, h3⟩ := h
    subst h1
    obtain ⟨u, h4, h5⟩ := RpL.get h3 (by simpa using e)
    exact ⟨u, by simpa using h4, h5⟩
theorem RpL.getV {H : Hp} : ∀ {ds : List D} {vs : List V} {i : Nat} {v : V}, RpL K H ds vs → vs[i]? = some v → ∃ d, ds[i]? = some d ∧ Rp K H d v
  | [], vs, i, v, h, e => by rw [RpL] at h; subst h; simp at e
  | d :: ds, vs, 0, v', h, e => by
    rw [RpL] at h
    obtain ⟨v, r, h1, h2, h3⟩ := h
    subst h1; simp at e; subst e
    exact ⟨d, rfl, h2⟩
  | d :: ds, vs, i + 1, v', h, e => by
    rw [RpL] at h
    obtain ⟨v, r, h1, h2, h3⟩ := h
    subst h1
    obtain ⟨u, h4, h5⟩ := RpL.getV h3 (by simpa using e)
    exact ⟨u, by simpa using h4, h5⟩
theorem RpL.drop {H : Hp} : ∀ {ds : List D} {vs : List V} (n : Nat), RpL K H ds vs → RpL K H (ds.drop n) (vs.drop n)
  | ds, vs, 0, h => h
  | [], vs, n + 1, h => by rw [RpL] at h; subst h; exact RpL.nil
  | d :: ds, vs, n + 1, h => by
    rw [RpL] at h
    obtain ⟨v, r, h1, h2, h3⟩ := h
    subst h1
    exact RpL.drop n h3
theorem RpL.take {H : Hp} : ∀ {ds : List D} {vs : List V} (n : Nat), RpL K H ds vs → RpL K H (ds.take n) (vs.take n)
  | ds, vs, 0, h => by simp; exact RpL.nil
  | [], vs, n + 1, h => by rw [RpL] at h; subst h; exact RpL.nil
  | d :: ds, vs, n + 1, h => by
    rw [RpL] at h
    obtain ⟨v, r, h1, h2, h3⟩ := h
    subst h1
    exact RpL.cons h2 (RpL.take n h3)
theorem RpL.set {H : Hp} : ∀ {ds : List D} {vs : List V} (n : Nat) {d : D} {v : V}, RpL K H ds vs → Rp K H d v → RpL K H (ds.set n d) (vs.set n v)
  | [], vs, n, d, v, h, _ => by rw [RpL] at h; subst h; exact RpL.nil
  | _ :: ds, vs, 0, d, v, h, hd => by
    rw [RpL] at h
    obtain ⟨v', r, h1, h2, h3⟩ := h
    subst h1
    exact RpL.cons hd h3
  | _ :: ds, vs, n + 1, d, v, h, hd => by
    rw [RpL] at h
    obtain ⟨v', r, h1, h2, h3⟩ := h
    subst h1
    exact RpL.cons h2 (RpL.set n h3 hd)
theorem RpL.eraseIdx {H : Hp} : ∀ {ds : List D} {vs : List V} (n : Nat), RpL K H ds vs → RpL K H (ds.eraseIdx n) (vs.eraseIdx n)
  | [], vs, n, h => by rw [RpL] at h; subst h; exact RpL.nil
  | _ :: ds, vs, 0, h => by
    rw [RpL] at h
    obtain ⟨v', r, h1, h2, h3⟩ := h
    subst h1
    exact h3
  | _ :: ds, vs, n + 1, h => by
    rw [RpL] at h
    obtain ⟨v', r, h1, h2, h3⟩ := h
    subst h1
    exact RpL.cons h2 (RpL.eraseIdx n h3)
theorem RpL.rev {H : Hp} : ∀ {ds : List D} {vs : List V}, RpL K H ds vs → RpL K H ds.reverse vs.reverse
  | [], vs, h => by rw [RpL] at h; subst h; exact RpL.nil
  | d :: ds, vs, h => by
    rw [RpL] at h
    obtain ⟨v, r, h1, h2, h3⟩ := h
    subst h1
    rw [List.reverse_cons, List.reverse_cons]
    exact RpL.app (RpL.rev h3) (RpL.cons h2 RpL.nil)
end
/-- no object within -/
def flat : D → Bool
  | .non => true
  | .bl _ => true
  | .int _ => true
  | .str _ => true
  | .ty _ => true
  | .cls _ => true
  | _ => false
theorem Rp.flat {K : PySem.W.Frag} {H H' : Hp} {d : D} {v : V} (f : flat d = true) (h : Rp K H d v) : Rp K H' d v := by
  cases d <;> simp_all [Fw.flat, Rp]
theorem RpL.flat {K : PySem.W.Frag} {H H' : Hp} : ∀ {ds : List D} {vs : List V}, ds.all Fw.flat = true → RpL K H ds vs → RpL K H' ds vs
  | [], vs, f, h => by rw [RpL] at h; subst h; exact RpL.nil
  | d :: ds, vs, f, h => by
    rw [RpL] at h
    obtain ⟨v, r, h1, h2, h3⟩ := h
    subst h1
    rw [List.all_cons, Bool.and_eq_true] at f
    exact RpL.cons (h2.flat f.1) (RpL.flat f.2 h3)
/-- F: the part of H that stays as it is; T: the tables -/
structure Ok (T : List Addr) (F H : Hp) : Prop where
  sub : Sub F H
  tab : ∀ P ∈ T, GxR.TabG H P
  ntab : ∀ P ∈ T, F P = none
structure Le (T : List Addr) (F H F' H' : Hp) : Prop where
  f : Sub F F'
  h : ∀ a o, a ∉ T → H a = some o → H' a = some o
  n : ∀ a, F a = none → H a ≠ none → F' a = none
  ok : Ok T F' H'
section
variable {T : List Addr} {F H F' H' F'' H'' : Hp}
theorem tab_ne {H : Hp} {P : Addr} (t : GxR.TabG H P) : H P ≠ none := by
  obtain ⟨ps, h, _⟩ := t
  rw [h]; simp
theorem Ok.nt (ok : Ok T F H) {p : Addr} (h : H p = none) : p ∉ T := fun m => tab_ne (ok.tab p m) h
theorem Ok.nf (ok : Ok T F H) {p : Addr} (h : H p = none) : F p = none := by
  cases e : F p with
  | none => rfl
  | some o => rw [ok.sub _ _ e] at h; cases h
theorem Ok.nT (ok : Ok T F H) {p : Addr} {o : HO} (h : F p = some o) : p ∉ T := fun m => by rw [ok.ntab p m] at h; cases h
theorem tab_upd {P p : Addr} {o : HO} (t : GxR.TabG H P) (h : H p = none) : GxR.TabG (upd H p o) P := by
  obtain ⟨ps, h1, h2⟩ := t
  exact ⟨ps, by rw [upd_ne (ne_of_none h1 h)]; exact h1, h2⟩
theorem Ok.new (ok : Ok T F H) {p : Addr} {o : HO} (h : H p = none) : Ok T (upd F p o) (upd H p o) where
  sub := fun a u e => by
    by_cases z : a = p
    · subst z; rw [upd_same] at e ⊢; exact e
    · rw [upd_ne z] at e ⊢; exact ok.sub _ _ e
  tab := fun P m => tab_upd (ok.tab P m) h
  ntab := fun P m => by
    rw [upd_ne (show P ≠ p from fun z => ok.nt h (by rw [← z]; exact m))]; exact ok.ntab P m
theorem Ok.newH (ok : Ok T F H) {p : Addr} {o : HO} (h : H p = none) : Ok T F (upd H p o) where
  sub := fun a u e => (Sub.new h) a u (ok.sub _ _ e)
  tab := fun P m => tab_upd (ok.tab P m) h
  ntab := ok.ntab
theorem Ok.frz (ok : Ok T F H) {p : Addr} {o : HO} (h : H p = some o) (hp : p ∉ T) : Ok T (upd F p o) H where
  sub := fun a u e => by
    by_cases z : a = p
    · subst z; rw [upd_same] at e; rw [h]; exact e
    · rw [upd_ne z] at e; exact ok.sub _ _ e
  tab := ok.tab
  ntab := fun P m => by
    rw [upd_ne (show P ≠ p from fun z => hp (by rw [← z]; exact m))]; exact ok.ntab P m
/-- an object that is not of F changes -/
theorem Ok.mut (ok : Ok T F H) {p : Addr} {o : HO} (hf : F p = none) (hp : p ∉ T) : Ok T F (upd H p o) where
  sub := fun a u e => by
    rw [upd_ne (show a ≠ p from fun z => by rw [z, hf] at e; cases e)]; exact ok.sub _ _ e
  tab := fun P m => by
    obtain ⟨ps, h1, h2⟩ := ok.tab P m
    exact ⟨ps, by rw [upd_ne (show P ≠ p from fun z => hp (by rw [← z]; exact m))]; exact h1, h2⟩
  ntab := ok.ntab
theorem Le.refl (ok : Ok T F H) : Le T F H F H := ⟨Sub.refl _, fun _ _ _ h => h, fun _ h _ => h, ok⟩
theorem Le.trans (a : Le T F H F' H') (b : Le T F' H' F'' H'') : Le T F H F'' H'' where
  f := a.f.trans b.f
  h := fun x o n h => b.h x o n (a.h x o n h)
  n := fun x h1 h2 => by
    by_cases m : x ∈ T
    · exact b.ok.ntab x m
    · refine b.n x (a.n x h1 h2) ?_
      cases e : H x with
      | none => exact absurd e h2
      | some o => rw [a.h x o m e]; simp
  ok := b.ok
theorem Le.new (ok : Ok T F H) {p : Addr} {o : HO} (h : H p = none) : Le T F H (upd F p o) (upd H p o) where
  f := Sub.new (ok.nf h)
  h := fun a u _ e => Sub.new h a u e
  n := fun a h1 h2 => by
    rw [upd_ne (show a ≠ p from fun z => h2 (by rw [z]; exact h))]; exact h1
  ok := ok.new h
theorem Le.newH (ok : Ok T F H) {p : Addr} {o : HO} (h : H p = none) : Le T F H F (upd H p o) where
  f := Sub.refl _
  h := fun a u _ e => Sub.new h a u e
  n := fun a h1 _ => h1
  ok := ok.newH h
/-- what was new since H is frozen -/
theorem Le.frz (l : Le T F H F' H') {p : Addr} {o : HO} (h0 : H p = none) (h : H' p = some o) (hf : F' p = none) (hp : p ∉ T) : Le T F H (upd F' p o) H' where
  f := l.f.trans (Sub.new hf)
  h := l.h
  n := fun a h1 h2 => by
    rw [upd_ne (show a ≠ p from fun z => h2 (by rw [z]; exact h0))]; exact l.n a h1 h2
  ok := l.ok.frz h hp
/-- what was new since H changes -/
theorem Le.mut (l : Le T F H F' H') {p : Addr} {o : HO} (h0 : H p = none) (hf : F' p = none) (hp : p ∉ T) : Le T F H F' (upd H' p o) where
  f := l.f
  h := fun a u m e => by
    rw [upd_ne (ne_of_none e h0)]; exact l.h a u m e
  n := l.n
  ok := l.ok.mut hf hp
theorem sqL_nt {K : PySem.W.Frag} {P : Addr} {vs : List V} (h : GxR.TabG H P) (e : Rd H P (.lst vs)) : False := by
  obtain ⟨ps, h1, _⟩ := h
  rcases e with e | ⟨o, e⟩ <;> rw [h1] at e <;> cases e
theorem sqT_nt {P : Addr} {vs : List V} (h : GxR.TabG H P) (e : Rd H P (.tup vs)) : False := by
  obtain ⟨ps, h1, _⟩ := h
  rcases e with e | ⟨o, e⟩ <;> rw [h1] at e <;> cases e
end
section
variable {K : PySem.W.Frag} {T : List Addr} {F H F' H' : Hp}
theorem Le.rd (l : Le T F H F' H') (t : ∀ P ∈ T, GxR.TabG H P) {a : Addr} {u : HO} (nu : ∀ ps, u ≠ .tbl ps) (h : Rd H a u) : Rd H' a u := by
  have nT : a ∉ T := fun m => by
    obtain ⟨ps, h1, _⟩ := t a m
    rcases h with e | ⟨o, e⟩
    · rw [h1] at e; exact nu ps (Option.some.inj e).symm
    · rw [h1] at e; cases e
  rcases h with e | ⟨o, e⟩
  · exact .inl (l.h _ _ nT e)
  · exact .inr ⟨o, l.h _ _ nT e⟩
theorem Le.l (l : Le T F H F' H') (t : ∀ P ∈ T, GxR.TabG H P) {a : Addr} {vs : List V} (h : SqL K H a vs) : SqL K H' a vs := by
  rcases h with h | h
  · exact .inl (l.rd t (fun _ z => by cases z) h)
  · exact .inr h
theorem Le.t (l : Le T F H F' H') (t : ∀ P ∈ T, GxR.TabG H P) {a : Addr} {vs : List V} (h : SqT K H a vs) : SqT K H' a vs := by
  rcases h with h | h
  · exact .inl (l.rd t (fun _ z => by cases z) h)
  · exact .inr h
mutual
theorem Le.rp (l : Le T F H F' H') (t : ∀ P ∈ T, GxR.TabG H P) : ∀ (d : D) {v : V}, Rp K H d v → Rp K H' d v
  | .non, v, h => by simpa [Rp] using h
  | .bl b, v, h => by simpa [Rp] using h
  | .int i, v, h => by simpa [Rp] using h
  | .str s, v, h => by simpa [Rp] using h
  | .ty n, v, h => by simpa [Rp] using h
  | .lst xs, v, h => by
    rw [Rp] at h ⊢
    obtain ⟨a, vs, h1, h2, h3⟩ := h
    exact ⟨a, vs, h1, l.l t h2, Le.rpl l t xs h3⟩
  | .tup xs, v, h => by
    rw [Rp] at h ⊢
    obtain ⟨a, vs, h1, h2, h3⟩ := h
    exact ⟨a, vs, h1, l.t t h2, Le.rpl l t xs h3⟩
  | .ins c ns ds, v, h => by
    rw [Rp] at h ⊢
    obtain ⟨a, dx, vs, h1, h2, h3, h4⟩ := h
    refine ⟨a, dx, vs, h1, l.h _ _ (fun m => ?_) h2, h3, Le.rpl l t ds h4⟩
    obtain ⟨ps, q, _⟩ := t a m
    rw [q] at h2; cases h2
  | .exn c ns ds, v, h => by
    rw [Rp] at h ⊢
    have nt : ∀ {b : Addr} {o : HO}, H b = some o → (∀ ps, o ≠ .tbl ps) → b ∉ T := fun {b o} e ne m => by
      obtain ⟨ps, q, _⟩ := t b m
      rw [q] at e
      exact ne ps (Option.some.inj e).symm
    obtain ⟨a, d, h1, h2, h3⟩ := h
    refine ⟨a, d, h1, l.h _ _ (nt h2 fun _ z => by cases z) h2, h3.imp id fun ⟨dd, vs, k0, k1, k2, k3, k4⟩ => ⟨dd, vs, k0, k1, l.h _ _ (nt k2 fun _ z => by cases z) k2, k3, Le.rpl l t ds k4⟩⟩
  | .emp, v, h => by
    rw [Rp] at h ⊢
    obtain ⟨a, h1, h2⟩ := h
    refine ⟨a, h1, l.h _ _ (fun m => ?_) h2⟩
    obtain ⟨ps, q, _⟩ := t a m
    rw [q] at h2; cases h2
  | .cls c, v, h => by simpa [Rp] using h
  | .slf a c ns ds, v, h => by
    rw [Rp] at h ⊢
    obtain ⟨h1, dx, vs, h2, h3, h4⟩ := h
    refine ⟨h1, dx, vs, l.h _ _ (fun m => ?_) h2, h3, Le.rpl l t ds h4⟩
    obtain ⟨ps, q, _⟩ := t a m
    rw [q] at h2; cases h2
  | .dct ks ds, v, h => by
    rw [Rp] at h ⊢
    obtain ⟨a, od, vs, h1, h2, h3, h4⟩ := h
    refine ⟨a, od, vs, h1, l.h _ _ (fun m => ?_) h2, h3, Le.rpl l t ds h4⟩
    obtain ⟨ps, q, _⟩ := t a m
    rw [q] at h2; cases h2
theorem Le.rpl (l : Le T F H F' H') (t : ∀ P ∈ T, GxR.TabG H P) : ∀ (ds : List D) {vs : List V}, RpL K H ds vs → RpL K H' ds vs
  | [], vs, h => by simpa [RpL] using h
  | d :: ds, vs, h => by
    rw [RpL] at h ⊢
    obtain ⟨v, r, h1, h2, h3⟩ := h
    exact ⟨v, r, h1, Le.rp l t d h2, Le.rpl l t ds h3⟩
end
end
end Fw
namespace Fw
open PySem PySem.Spec PyProof.Rows L2
/-- what an expression gives: frozen; of the callers; a new list; a list of one's own that may change -/
inductive R where
  | val (d : D) | brw (d : D) | new (xs : List D) | bor (xs : List D)
def R.dat : R → D
  | .val d => d
  | .brw d => d
  | .new xs => .lst xs
  | .bor xs => .lst xs
/-- a new list kept as it is -/
def R.fz : R → R
  | .new xs => .val (.lst xs)
  | r => r
theorem R.fz_dat (r : R) : r.fz.dat = r.dat := by cases r <;> rfl
inductive O (α : Type) where
  | ok (a : α) | exc (c : Addr) (fs : Option (List Str × List D)) | no
def O.bind {α β : Type} (o : O α) (f : α → O β) : O β := match o with
  | .ok a => f a
  | .exc c fs => .exc c fs
  | .no => .no
def O.of {α : Type} : Option α → O α
  | some a => .ok a
  | none => .no
@[simp] theorem O.bind_ok {α β : Type} (a : α) (f : α → O β) : (O.ok a).bind f = f a := rfl
@[simp] theorem O.bind_exc {α β : Type} (c) (fs) (f : α → O β) : (O.exc c fs : O α).bind f = .exc c fs := rfl
@[simp] theorem O.bind_no {α β : Type} (f : α → O β) : (O.no : O α).bind f = .no := rfl
@[simp] theorem O.of_some {α : Type} (a : α) : O.of (some a) = .ok a := rfl
@[simp] theorem O.of_none {α : Type} : O.of (none : Option α) = .no := rfl
inductive Sl where
  | no | val (d : D) | brw (d : D) | own (xs : List D) | own2 (xss : List (List D)) | odc (ks : List DK) (ds : List D)
  deriving Inhabited
abbrev Env := List Sl
theorem refs_inj : ∀ {ps qs : List Addr}, ps.map V.ref = qs.map V.ref → ps = qs
  | [], [], _ => rfl
  | [], q :: qs, h => by cases h
  | p :: ps, [], h => by cases h
  | p :: ps, q :: qs, h => by
    rw [List.map_cons, List.map_cons] at h
    injection h with h1 h2
    cases h1
    rw [refs_inj h2]
/-- what may be read at H0 may be read at H -/
structure Up (K : PySem.W.Frag) (H0 H : Hp) : Prop where
  rp : ∀ {d : D} {v : V}, Rp K H0 d v → Rp K H d v
  l : ∀ {p : Addr} {vs : List V}, SqL K H0 p vs → SqL K H p vs
  t : ∀ {p : Addr} {vs : List V}, SqT K H0 p vs → SqT K H p vs
section
variable (K : PySem.W.Frag) (T : List Addr)
/-- a new list of new lists -/
def Own2 (H0 F H : Hp) (p : Addr) (ps : List Addr) (xss : List (List D)) : Prop := H0 p = none ∧ F p = none ∧ p ∉ T ∧ H p = some (.lst (ps.map V.ref)) ∧ p ∉ ps ∧ ps.Nodup ∧ ps.length = xss.length ∧
  ∀ (k : Nat) (q : Addr), ps[k]? = some q → H0 q = none ∧ F q = none ∧ q ∉ T ∧ ∃ (vs : List V) (xs : List D), xss[k]? = some xs ∧ H q = some (.lst vs) ∧ RpL K F xs vs
/-- dicts of one's own -/
def DicOk (H0 F H : Hp) (σ : L2.St) (es : Env) : Prop :=
  (∀ (i : Nat) ks ds, es[i]? = some (.odc ks ds) → ∃ p vs, σ[i]? = some (some (V.ref p)) ∧ H0 p = none ∧ F p = none ∧ p ∉ T ∧ H p = some (.dK ((ks.map kyOf).zip vs)) ∧ ks.length = ds.length ∧ RpL K F ds vs) ∧
  ∀ (i j : Nat) ks ds ls fs p, es[i]? = some (.odc ks ds) → es[j]? = some (.odc ls fs) → σ[i]? = some (some (V.ref p)) → σ[j]? = some (some (V.ref p)) → i = j
structure EnvOk (H0 F H : Hp) (σ : L2.St) (es : Env) : Prop where
  len : σ.length = es.length
  val : ∀ (i : Nat) d, es[i]? = some (.val d) → ∃ v, σ[i]? = some (some v) ∧ Rp K F d v
  brw : ∀ (i : Nat) d, es[i]? = some (.brw d) → ∃ v, σ[i]? = some (some v) ∧ Rp K H0 d v
  own : ∀ (i : Nat) xs, es[i]? = some (.own xs) → ∃ p vs, σ[i]? = some (some (V.ref p)) ∧ H0 p = none ∧ F p = none ∧ p ∉ T ∧ H p = some (.lst vs) ∧ RpL K F xs vs
  uni : ∀ (i j : Nat) xs ys p, es[i]? = some (.own xs) → es[j]? = some (.own ys) → σ[i]? = some (some (V.ref p)) → σ[j]? = some (some (V.ref p)) → i = j
  two : ∀ (i : Nat) xss, es[i]? = some (.own2 xss) → ∃ p ps, σ[i]? = some (some (V.ref p)) ∧ Own2 K T H0 F H p ps xss ∧ (∀ (j : Nat) xs q, es[j]? = some (.own xs) → σ[j]? = some (some (V.ref q)) → q ≠ p ∧ q ∉ ps) ∧ ∀ (j : Nat) yss, es[j]? = some (.own2 yss) → j = i
  dic : DicOk K T H0 F H σ es
/-- from the entry (F0, H0) to (F, H), the slots as the data says -/
structure StOk (F0 H0 F H : Hp) (σ : L2.St) (es : Env) : Prop where
  ok0 : Ok T F0 H0
  le : Le T F0 H0 F H
  env : EnvOk K T H0 F H σ es
def Rr (H0 H F' H' : Hp) (v : V) : R → Prop
  | .val d => Rp K F' d v
  | .brw d => Rp K H0 d v
  | .new xs => ∃ p vs, v = .ref p ∧ H p = none ∧ F' p = none ∧ p ∉ T ∧ H' p = some (.lst vs) ∧ RpL K F' xs vs
  | .bor xs => ∃ p vs, v = .ref p ∧ F' p = none ∧ p ∉ T ∧ H' p = some (.lst vs) ∧ RpL K F' xs vs
/-- the same, a new list being frozen already -/
def Rq (H0 F' H' : Hp) (v : V) : R → Prop
  | .val d => Rp K F' d v
  | .brw d => Rp K H0 d v
  | .new xs => False
  | .bor xs => ∃ p vs, v = .ref p ∧ F' p = none ∧ p ∉ T ∧ H' p = some (.lst vs) ∧ RpL K F' xs vs
def RqL (H0 F' H' : Hp) : List R → List V → Prop
  | [], vs => vs = []
  | r :: rs, vs => ∃ v t, vs = v :: t ∧ Rq K T H0 F' H' v r ∧ RqL H0 F' H' rs t
/-- an exception by its data -/
def XOk (H : Hp) (c : Addr) (fs : Option (List Str × List D)) (cls : Value) (d : Option Addr) : Prop :=
  cls = .ref c ∧ match fs with
    | none => d = none
    | some (ns, ds) => ∃ dd vs, d = some dd ∧ H dd = some (.xd (ns.zip vs)) ∧ ns.length = ds.length ∧ ds.all flat = true ∧ RpL K H ds vs
end
section
variable {K : PySem.W.Frag} {T : List Addr} {F0 H0 F H F' H' F'' H'' : Hp} {σ : L2.St} {es : Env} {v : V} {r : R}
theorem DicOk.of {σ' : L2.St} {es' : Env} (d : DicOk K T H0 F H σ es) (hs : ∀ (i : Nat) ks ds, es'[i]? = some (.odc ks ds) → es[i]? = some (.odc ks ds) ∧ σ'[i]? = σ[i]?) (sb : Sub F F')
    (hF : ∀ p us, H p = some (.dK us) → F p = none → p ∉ T → F' p = none) (hH : ∀ p us, H p = some (.dK us) → F p = none → p ∉ T → H' p = some (.dK us)) : DicOk K T H0 F' H' σ' es' := by
  refine ⟨fun i ks ds e => ?_, fun i j ks ds ls fs p e1 e2 h1 h2 => ?_⟩
  · obtain ⟨e1, e2⟩ := hs i ks ds e
    obtain ⟨p, vs, g1, g2, g3, g4, g5, g6, g7⟩ := d.1 i ks ds e1
    exact ⟨p, vs, by rw [e2]; exact g1, g2, hF p _ g5 g3 g4, g4, hH p _ g5 g3 g4, g6, g7.mono sb⟩
  · obtain ⟨a1, a2⟩ := hs i ks ds e1
    obtain ⟨b1, b2⟩ := hs j ls fs e2
    rw [a2] at h1
    rw [b2] at h2
    exact d.2 i j ks ds ls fs p a1 b1 h1 h2
theorem StOk.ok (h : StOk K T F0 H0 F H σ es) : Ok T F H := h.le.ok
theorem Own2.step {p : Addr} {ps : List Addr} {xss : List (List D)} (o : Own2 K T H0 F H p ps xss) (l : Le T F H F' H') : Own2 K T H0 F' H' p ps xss := by
  obtain ⟨h1, h2, h3, h4, h5, h6, h7, h8⟩ := o
  refine ⟨h1, l.n p h2 (by rw [h4]; simp), h3, l.h p _ h3 h4, h5, h6, h7, fun k q hk => ?_⟩
  obtain ⟨g1, g2, g3, vs, xs, g4, g5, g6⟩ := h8 k q hk
  exact ⟨g1, l.n q g2 (by rw [g5]; simp), g3, vs, xs, g4, l.h q _ g3 g5, g6.mono l.f⟩
theorem StOk.step (h : StOk K T F0 H0 F H σ es) (l : Le T F H F' H') : StOk K T F0 H0 F' H' σ es where
  ok0 := h.ok0
  le := h.le.trans l
  env := {
    len := h.env.len
    val := fun i d e => by
      obtain ⟨v, h1, h2⟩ := h.env.val i d e
      exact ⟨v, h1, h2.mono l.f⟩
    brw := h.env.brw
    own := fun i xs e => by
      obtain ⟨p, vs, h1, h2, h3, h4, h5, h6⟩ := h.env.own i xs e
      exact ⟨p, vs, h1, h2, l.n p h3 (by rw [h5]; simp), h4, l.h p _ h4 h5, h6.mono l.f⟩
    uni := h.env.uni
    two := fun i xss e => by
      obtain ⟨p, ps, h1, h2, h3, h4⟩ := h.env.two i xss e
      exact ⟨p, ps, h1, h2.step l, h3, h4⟩
    dic := h.env.dic.of (fun _ _ _ e => ⟨e, rfl⟩) l.f (fun p us e f _ => l.n p f (by rw [e]; simp)) (fun p us e _ t => l.h p _ t e) }
theorem StOk.up (h : StOk K T F0 H0 F H σ es) : Up K H0 H := ⟨fun q => h.le.rp h.ok0.tab _ q, fun q => h.le.l h.ok0.tab q, fun q => h.le.t h.ok0.tab q⟩
theorem Rr.step (q : Rr K T H0 H F' H' v r) (l : Le T F' H' F'' H'') : Rr K T H0 H F'' H'' v r := by
  cases r with
  | val d => exact q.mono l.f
  | brw d => exact q
  | new xs =>
    obtain ⟨p, vs, h1, h2, h3, h4, h5, h6⟩ := q
    exact ⟨p, vs, h1, h2, l.n p h3 (by rw [h5]; simp), h4, l.h p _ h4 h5, h6.mono l.f⟩
  | bor xs =>
    obtain ⟨p, vs, h1, h3, h4, h5, h6⟩ := q
    exact ⟨p, vs, h1, l.n p h3 (by rw [h5]; simp), h4, l.h p _ h4 h5, h6.mono l.f⟩
theorem Rq.step (q : Rq K T H0 F' H' v r) (l : Le T F' H' F'' H'') : Rq K T H0 F'' H'' v r := by
  cases r with
  | val d => exact q.mono l.f
  | brw d => exact q
  | new xs => exact q.elim
  | bor xs =>
    obtain ⟨p, vs, h1, h3, h4, h5, h6⟩ := q
    exact ⟨p, vs, h1, l.n p h3 (by rw [h5]; simp), h4, l.h p _ h4 h5, h6.mono l.f⟩
theorem RqL.step : ∀ {rs : List R} {vs : List V}, RqL K T H0 F' H' rs vs → Le T F' H' F'' H'' → RqL K T H0 F'' H'' rs vs
  | [], vs, h, l => h
  | r :: rs, vs, h, l => by
    obtain ⟨v, t, h1, h2, h3⟩ := h
    exact ⟨v, t, h1, h2.step l, RqL.step h3 l⟩
/-- a new list is frozen -/
theorem Rr.fz (q : Rr K T H0 H F' H' v r) (l : Le T F H F' H') : ∃ F2, Le T F H F2 H' ∧ Sub F' F2 ∧ Rq K T H0 F2 H' v r.fz := by
  cases r with
  | val d => exact ⟨F', l, Sub.refl _, q⟩
  | brw d => exact ⟨F', l, Sub.refl _, q⟩
  | bor xs => exact ⟨F', l, Sub.refl _, q⟩
  | new xs =>
    obtain ⟨p, vs, h1, h2, h3, h4, h5, h6⟩ := q
    refine ⟨upd F' p (.lst vs), l.frz h2 h5 h3 h4, Sub.new h3, ?_⟩
    show Rp K _ (.lst xs) v
    rw [Rp]
    exact ⟨p, vs, h1, .inl (.inl upd_same), h6.mono (Sub.new h3)⟩
theorem Rq.toH (q : Rq K T H0 F' H' v r) (ok : Ok T F' H') (up : Up K H0 H') : Rp K H' r.dat v := by
  cases r with
  | val d => exact q.mono ok.sub
  | brw d => exact up.rp q
  | new xs => exact q.elim
  | bor xs =>
    obtain ⟨p, vs, h1, h3, h4, h5, h6⟩ := q
    show Rp K _ (.lst xs) v
    rw [Rp]
    exact ⟨p, vs, h1, .inl (.inl h5), h6.mono ok.sub⟩
theorem RqL.toH (ok : Ok T F' H') (up : Up K H0 H') : ∀ {rs : List R} {vs : List V}, RqL K T H0 F' H' rs vs → RpL K H' (rs.map R.dat) vs
  | [], vs, h => by cases h; exact RpL.nil
  | r :: rs, vs, h => by
    obtain ⟨v, t, h1, h2, h3⟩ := h
    subst h1
    exact RpL.cons (h2.toH ok up) (RqL.toH ok up h3)
/-- of the callers: what holds no object is kept -/
def nrm (d : D) : R := if flat d then .val d else .brw d
theorem rr_nrm {H1 F1 H2 : Hp} {d : D} {v : V} (h : Rp K H0 d v) : Rr K T H0 H1 F1 H2 v (nrm d) := by
  unfold nrm
  by_cases f : flat d = true
  · rw [if_pos f]; exact Rp.flat f h
  · rw [if_neg f]; exact h
theorem rq_nrm {F1 H2 : Hp} {d : D} {v : V} (h : Rp K H0 d v) : Rq K T H0 F1 H2 v (nrm d) := by
  unfold nrm
  by_cases f : flat d = true
  · rw [if_pos f]; exact Rp.flat f h
  · rw [if_neg f]; exact h
/-- what can be kept -/
def R.sto : R → Option D
  | .val d => some d
  | .brw d => if flat d then some d else none
  | .new xs => some (.lst xs)
  | .bor _ => none
theorem Rq.sto (q : Rq K T H0 F' H' v r) {d : D} (e : r.sto = some d) : Rp K F' d v := by
  cases r with
  | val d' => cases e; exact q
  | brw d' =>
    simp only [R.sto] at e
    split at e
    · rename_i f
      cases e
      exact Rp.flat f q
    · cases e
  | new xs => exact q.elim
  | bor xs => cases e
/-- the items of a list or a tuple, to be kept -/
def R.itm : R → Option (List D)
  | .val (.lst xs) => some xs
  | .val (.tup xs) => some xs
  | .bor xs => some xs
  | .brw (.lst xs) => if xs.all flat then some xs else none
  | .brw (.tup xs) => if xs.all flat then some xs else none
  | _ => none
theorem Rq.itm (q : Rq K T H0 F' H' v r) (ok : Ok T F' H') (up : Up K H0 H') {xs : List D} (e : r.itm = some xs) :
    ∃ p vs, v = .ref p ∧ (SqL K H' p vs ∨ SqT K H' p vs) ∧ RpL K F' xs vs := by
  cases r with
  | val d =>
    cases d <;> simp only [R.itm] at e <;> try cases e
    · rw [Rq, Rp] at q
      obtain ⟨a, vs, h1, h2, h3⟩ := q
      exact ⟨a, vs, h1, .inl (ok.sub.l h2), h3⟩
    · rw [Rq, Rp] at q
      obtain ⟨a, vs, h1, h2, h3⟩ := q
      exact ⟨a, vs, h1, .inr (ok.sub.t h2), h3⟩
  | brw d =>
    cases d <;> simp only [R.itm] at e <;> try cases e
    · split at e
      · rename_i f
        cases e
        have z := up.rp q
        rw [Rp] at z
        obtain ⟨a, vs, h1, h2, h3⟩ := z
        exact ⟨a, vs, h1, .inl h2, h3.flat f⟩
      · cases e
    · split at e
      · rename_i f
        cases e
        have z := up.rp q
        rw [Rp] at z
        obtain ⟨a, vs, h1, h2, h3⟩ := z
        exact ⟨a, vs, h1, .inr h2, h3.flat f⟩
      · cases e
  | new xs => exact q.elim
  | bor xs =>
    simp only [R.itm] at e
    cases e
    obtain ⟨p, vs, h1, h3, h4, h5, h6⟩ := q
    exact ⟨p, vs, h1, .inl (.inl (.inl h5)), h6⟩
end
/-! ### readings -/
section
variable (K : PySem.W.Frag) (T : List Addr) (W : WX)
/-- what follows an outcome: rel, how the value is the data's -/
def PO {α β : Type} (F H : Hp) (σ : L2.St) (rel : Hp → Hp → β → α → Prop) (Q : β → Hp → Prop) : O α → Prop
  | .ok r => ∀ v F' H', Le T F H F' H' → rel F' H' v r → Q v H'
  | .exc c fs => ∀ cls d F' H', Le T F H F' H' → XOk K H' c fs cls d → W cls d σ H'
  | .no => False
def tD (f : Env → O R) : TE := fun σ H Q => ∃ F0 H0 F es, StOk K T F0 H0 F H σ es ∧ PO K T W F H σ (Rr K T H0 H) Q (f es)
def tT (f : Env → O Bool) : TT := fun σ H Q => ∃ F0 H0 F es, StOk K T F0 H0 F H σ es ∧ PO K T W F H σ (fun _ _ b a => b = a) Q (f es)
def tDA (f : Env → O (List R)) : TA := fun σ H Q => ∃ F0 H0 F es, StOk K T F0 H0 F H σ es ∧ PO K T W F H σ (fun F' H' vs rs => RqL K T H0 F' H' rs vs) Q (f es)
end
section
variable {K : PySem.W.Frag} {T : List Addr} {W : WX} {F0 H0 F H F1 H1 : Hp} {σ : L2.St} {es : Env}
/-- new since H1 is new since H -/
theorem Rr.back {F' H' : Hp} {v : V} {r : R} (l : Le T F H F1 H1) (q : Rr K T H0 H1 F' H' v r) : Rr K T H0 H F' H' v r := by
  cases r with
  | val d => exact q
  | brw d => exact q
  | bor xs => exact q
  | new xs =>
    obtain ⟨p, vs, h1, h2, h3, h4, h5, h6⟩ := q
    refine ⟨p, vs, h1, ?_, h3, h4, h5, h6⟩
    cases e : H p with
    | none => rfl
    | some o => rw [l.h p o h4 e] at h2; cases h2
theorem PO.step {α β : Type} {rel rel' : Hp → Hp → β → α → Prop} {Q : β → Hp → Prop} {o : O α} (h : PO K T W F H σ rel Q o) (l : Le T F H F1 H1) (hr : ∀ F' H' v a, rel' F' H' v a → rel F' H' v a) : PO K T W F1 H1 σ rel' Q o := by
  cases o with
  | ok r => exact fun v F' H' l' q => h v F' H' (l.trans l') (hr _ _ _ _ q)
  | exc c fs => exact fun cls d F' H' l' q => h cls d F' H' (l.trans l') q
  | no => exact h
/-- a value first, then the rest -/
theorem po_seq {α β : Type} {rel rel' : Hp → Hp → β → α → Prop} {Q : β → Hp → Prop} {Q' : VK} {o : O R} {g : R → O α} (st : StOk K T F0 H0 F H σ es) (h : PO K T W F H σ rel Q (o.bind g))
    (hr : ∀ F1 H1, Le T F H F1 H1 → ∀ F' H' v a, rel' F' H' v a → rel F' H' v a)
    (k : ∀ a v F1 H1, o = .ok a → StOk K T F0 H0 F1 H1 σ es → Le T F H F1 H1 → Rq K T H0 F1 H1 v a.fz → PO K T W F1 H1 σ rel' Q (g a) → Q' v H1) : PO K T W F H σ (Rr K T H0 H) Q' o := by
  cases o with
  | ok a =>
    intro v F1 H1 l q
    obtain ⟨F2, l2, _, q2⟩ := q.fz l
    exact k a v F2 H1 rfl (st.step l2) l2 q2 (PO.step h l2 (hr F2 H1 l2))
  | exc c fs => exact h
  | no => exact h
/-- the same where the rest gives a value -/
theorem pr_seq {Q : VK} {Q' : VK} {o : O R} {g : R → O R} (st : StOk K T F0 H0 F H σ es) (h : PO K T W F H σ (Rr K T H0 H) Q (o.bind g))
    (k : ∀ a v F1 H1, o = .ok a → StOk K T F0 H0 F1 H1 σ es → Le T F H F1 H1 → Rq K T H0 F1 H1 v a.fz → PO K T W F1 H1 σ (Rr K T H0 H1) Q (g a) → Q' v H1) : PO K T W F H σ (Rr K T H0 H) Q' o := by
  cases o with
  | ok a =>
    intro v F1 H1 l q
    obtain ⟨F2, l2, _, q2⟩ := q.fz l
    exact k a v F2 H1 rfl (st.step l2) l2 q2 (PO.step h l2 fun _ _ _ _ => Rr.back l2)
  | exc c fs => exact h
  | no => exact h
/-- a test first -/
theorem pt_seq {Q : VK} {Q' : Bool → Hp → Prop} {o : O Bool} {g : Bool → O R} (st : StOk K T F0 H0 F H σ es) (h : PO K T W F H σ (Rr K T H0 H) Q (o.bind g))
    (k : ∀ b F1 H1, o = .ok b → StOk K T F0 H0 F1 H1 σ es → Le T F H F1 H1 → PO K T W F1 H1 σ (Rr K T H0 H1) Q (g b) → Q' b H1) : PO K T W F H σ (fun _ _ b a => b = a) Q' o := by
  cases o with
  | ok a =>
    intro v F1 H1 l q
    subst q
    exact k v F1 H1 rfl (st.step l) l (PO.step h l fun _ _ _ _ => Rr.back l)
  | exc c fs => exact h
  | no => exact h
/-- arguments first -/
theorem pa_seq {Q : VK} {Q' : List V → Hp → Prop} {o : O (List R)} {g : List R → O R} (st : StOk K T F0 H0 F H σ es) (h : PO K T W F H σ (Rr K T H0 H) Q (o.bind g))
    (k : ∀ rs vs F1 H1, o = .ok rs → StOk K T F0 H0 F1 H1 σ es → Le T F H F1 H1 → RqL K T H0 F1 H1 rs vs → PO K T W F1 H1 σ (Rr K T H0 H1) Q (g rs) → Q' vs H1) : PO K T W F H σ (fun F' H' vs rs => RqL K T H0 F' H' rs vs) Q' o := by
  cases o with
  | ok a =>
    intro v F1 H1 l q
    exact k a v F1 H1 rfl (st.step l) l q (PO.step h l fun _ _ _ _ => Rr.back l)
  | exc c fs => exact h
  | no => exact h
theorem StOk.rq (st : StOk K T F0 H0 F H σ es) {v : V} {r : R} (q : Rq K T H0 F H v r) : Rp K H r.dat v := q.toH st.ok st.up
end
/-- the rules' words: an expression is worth f -/
def DE (X : Cx) (T : List Addr) (W : WX) (e : Expr) (f : Env → O R) : Prop := PE X e (tD X.K T W f)
def DT (X : Cx) (T : List Addr) (W : WX) (e : Expr) (f : Env → O Bool) : Prop := PT X e (tT X.K T W f)
def DW (X : Cx) (T : List Addr) (W : WX) (e : Expr) (f : Env → O Bool) : Prop := PW X e (tT X.K T W f)
def DA (X : Cx) (T : List Addr) (W : WX) (es : List Expr) (f : Env → O (List R)) : Prop := PA X es (tDA X.K T W f)
theorem pe_weak {X : Cx} {e : Expr} {t t' : TE} (h : PE X e t) (w : ∀ σ H Q, t' σ H Q → t σ H Q) : PE X e t' := ⟨fun pins s σ H Q I q => h.run pins s σ H Q I (w σ H Q q)⟩
theorem pt_weak {X : Cx} {e : Expr} {t t' : TT} (h : PT X e t) (w : ∀ σ H Q, t' σ H Q → t σ H Q) : PT X e t' := ⟨fun pins s σ H Q I q => h.run pins s σ H Q I (w σ H Q q)⟩
theorem pw_weak {X : Cx} {e : Expr} {t t' : TT} (h : PW X e t) (w : ∀ σ H Q, t' σ H Q → t σ H Q) : PW X e t' := ⟨fun whole pins s σ H Q I q => h.run whole pins s σ H Q I (w σ H Q q)⟩
theorem pa_weak {X : Cx} {e : List Expr} {t t' : TA} (h : PA X e t) (w : ∀ σ H Q, t' σ H Q → t σ H Q) : PA X e t' := ⟨fun pos pins s σ H Q I q => h.run pos pins s σ H Q I (w σ H Q q)⟩
theorem ps_weak {X : Cx} {e : Stmt} {t t' : TS} (h : PS X e t) (w : ∀ D σ H, t' D σ H → t D σ H) : PS X e t' := ⟨fun pins s σ H D I q => h.run pins s σ H D I (w D σ H q)⟩
theorem pss_weak {X : Cx} {e : List Stmt} {t t' : TS} (h : PSs X e t) (w : ∀ D σ H, t' D σ H → t D σ H) : PSs X e t' := ⟨fun pins s σ H D I q => h.run pins s σ H D I (w D σ H q)⟩
theorem pi_weak {X : Cx} {tg e : Expr} {t t' : TI} (h : PI X tg e t) (w : ∀ σ H Q, t' σ H Q → t σ H Q) : PI X tg e t' := ⟨fun pins s σ H Q I q => h.run pins s σ H Q I (w σ H Q q)⟩
end Fw
namespace Fw
open PySem PySem.Spec PyProof.Rows L2
section
variable {X : Cx} {T : List Addr} {W : WX} {a b c e : Expr} {fa fb fc : Env → O R} {pos : Pos}
/-! ### names, constants -/
def fVar (i : Nat) : Env → O R := fun es => match es[i]? with
  | some (.val d) => .ok (.val d)
  | some (.brw d) => .ok (nrm d)
  | some (.own xs) => .ok (.bor xs)
  | _ => .no
theorem StOk.var {K : PySem.W.Frag} {F0 H0 F H : Hp} {σ : L2.St} {es : Env} (st : StOk K T F0 H0 F H σ es) {i : Nat} {r : R} (h : fVar i es = .ok r) : ∃ v, σ[i]? = some (some v) ∧ Rr K T H0 H F H v r := by
  unfold fVar at h
  split at h
  · rename_i d e
    cases h
    exact st.env.val i d e
  · rename_i d e
    cases h
    obtain ⟨v, h1, h2⟩ := st.env.brw i d e
    exact ⟨v, h1, rr_nrm h2⟩
  · rename_i xs e
    cases h
    obtain ⟨p, vs, h1, h2, h3, h4, h5, h6⟩ := st.env.own i xs e
    exact ⟨.ref p, h1, p, vs, rfl, h3, h4, h5, h6⟩
  · cases h
theorem de_var (i : Nat) {x : Str} {pos : Pos} (hN : X.N[i]? = some x := by rfl) (hv : Vis X.env.scope x := by first | exact Or.inl rfl | exact Or.inr (Or.inl rfl) | exact Or.inr (Or.inr rfl)) (hd : (x == ("__debug__" : Str)) = false := by decide)
    (hcd : (x == ("__classdict__" : Str)) = false := by decide) : DE X T W (.Name x pos) (fVar i) := by
  refine pe_weak (pv i hN hv hd hcd) fun σ H Q ⟨F0, H0, F, es, st, h⟩ => ?_
  cases hf : fVar i es with
  | ok r =>
    rw [hf] at h
    obtain ⟨v, h1, h2⟩ := st.var hf
    exact ⟨v, h1, h v F H (Le.refl st.ok) h2⟩
  | exc c fs =>
    unfold fVar at hf
    split at hf <;> cases hf
  | no => rw [hf] at h; exact h.elim
def fC (d : D) : Env → O R := fun _ => .ok (.val d)
theorem de_c {v : V} {d : D} (h : PE X e (tC v)) (hr : ∀ F, Rp X.K F d v) : DE X T W e (fC d) :=
  pe_weak h fun σ H Q ⟨F0, H0, F, es, st, q⟩ => q v F H (Le.refl st.ok) (hr F)
theorem de_int {i j pos} : DE X T W (.Constant (.int i) j pos) (fC (.int i)) := de_c pe_int fun F => by rw [Rp]
theorem de_bl {b j pos} : DE X T W (.Constant (.bool b) j pos) (fC (.bl b)) := de_c pe_bl fun F => by rw [Rp]
theorem de_non {j pos} : DE X T W (.Constant .none j pos) (fC .non) := de_c pe_non fun F => by rw [Rp]
theorem de_str (s : List Nat) {x j pos} (h : x = tx s := by decide +kernel) : DE X T W (.Constant (.str x) j pos) (fC (.str s)) := de_c pe_str fun F => by rw [Rp, h]
theorem de_glob {x : Str} {v : V} {u : Value} {d : D} {pos : Pos} (hg : Gl X x) (hm : X.mg x = some u) (r : RelV v u) (hr : ∀ F, Rp X.K F d v) (hd : (x == ("__debug__" : Str)) = false := by decide) : DE X T W (.Name x pos) (fC d) := de_c (pe_glob hg hm r hd) hr
/-- a name of the module that holds a text -/
theorem de_gstr (s : List Nat) {x : Str} {pos : Pos} (h : ∃ t, X.mg x = some (.str (tx s) t)) (hg : Gl X x := by rfl) (hd : (x == ("__debug__" : Str)) = false := by decide) : DE X T W (.Name x pos) (fC (.str s)) := by
  obtain ⟨t, hm⟩ := h
  exact de_glob hg hm (v := .str (tx s)) ⟨t, rfl⟩ (fun F => by rw [Rp]) hd
theorem de_gint (i : Int) {x : Str} {pos : Pos} (h : ∃ t, X.mg x = some (.int i t)) (hg : Gl X x := by rfl) (hd : (x == ("__debug__" : Str)) = false := by decide) : DE X T W (.Name x pos) (fC (.int i)) := by
  obtain ⟨t, hm⟩ := h
  exact de_glob hg hm (v := .int i) ⟨t, rfl⟩ (fun F => by rw [Rp]) hd
theorem de_bltn {x : Str} {n : String} {pos : Pos} (hm : X.mg x = none) (hv : bootBuiltins x = some (.type n)) (hg : Gl X x := by rfl) (hn : x ≠ "__name__" := by decide) (hd : (x == ("__debug__" : Str)) = false := by decide) : DE X T W (.Name x pos) (fC (.ty n)) :=
  de_c (pe_bltn hg hm hv (v := .ty n) rfl hn hd) fun F => by rw [Rp]
/-! ### operators -/
def fBin (d : R → R → Option R) (fa fb : Env → O R) : Env → O R := fun es => (fa es).bind fun a => (fb es).bind fun b => O.of (d a.fz b.fz)
def OpD (K : PySem.W.Frag) (T : List Addr) (r : R2) (d : R → R → Option R) : Prop :=
  ∀ (H0 F H : Hp) (x y : V) (a b c : R) (Q : VK), Ok T F H → Up K H0 H → Rq K T H0 F H x a → Rq K T H0 F H y b → d a b = some c →
    (∀ v F' H', Le T F H F' H' → Rr K T H0 H F' H' v c → Q v H') → r x y H Q
/-- the reading of two operands -/
theorem bin_weak {K : PySem.W.Frag} {r : R2} {d : R → R → Option R} (hd : OpD K T r d) {σ : L2.St} {H : Hp} {Q : VK} (h : tD K T W (fBin d fa fb) σ H Q) : tOp r (tD K T W fa) (tD K T W fb) σ H Q := by
  obtain ⟨F0, H0, F, es, st, h⟩ := h
  refine ⟨F0, H0, F, es, st, pr_seq st h fun a x F1 H1 _ st1 l1 q1 h1 => ?_⟩
  refine ⟨F0, H0, F1, es, st1, pr_seq st1 h1 fun b y F2 H2 _ st2 l2 q2 h2 => ?_⟩
  cases hc : d a.fz b.fz with
  | none => rw [hc] at h2; exact h2.elim
  | some c =>
    rw [hc] at h2
    exact hd H0 F2 H2 x y _ _ c Q st2.ok st2.up (q1.step l2) q2 hc h2
theorem de_bin {op : Operator} {r : R2} {d : R → R → Option R} (ho : OpR X (binaryOp op) r) (hd : OpD X.K T r d) (ha : DE X T W a fa) (hb : DE X T W b fb) : DE X T W (.BinOp a op b pos) (fBin d fa fb) :=
  pe_weak (pe_op ho ha hb) fun σ H Q h => bin_weak hd h
theorem de_cmp {op : CmpOp} {r : R2} {d : R → R → Option R} (ho : OpR X (compareOp op) r) (hd : OpD X.K T r d) (ha : DE X T W a fa) (hb : DE X T W b fb) (hm : behindInMarks op b = false := by first | exact nomark _ | rfl | with_unfolding_all rfl) : DE X T W (.Compare a [op] [b] pos) (fBin d fa fb) :=
  pe_weak (pe_cmpR ho ha hb hm) fun σ H Q h => bin_weak hd h
theorem de_ix {r : R2} {d : R → R → Option R} (ho : IxR X r) (hd : OpD X.K T r d) (ha : DE X T W a fa) (hb : DE X T W b fb) (hs : PlainIx b := by exact fun _ _ => rfl) : DE X T W (.Subscript a b pos) (fBin d fa fb) :=
  pe_weak (pe_ix ho ha hb hs) fun σ H Q h => bin_weak hd h
/-! ### tests -/
def R.tst : R → O Bool
  | .val (.bl b) => .ok b
  | _ => .no
def fTest (f : Env → O R) : Env → O Bool := fun es => (f es).bind fun r => r.fz.tst
theorem test_weak {K : PySem.W.Frag} {f : Env → O R} {σ : L2.St} {H : Hp} {Q : Bool → Hp → Prop} (h : tT K T W (fTest f) σ H Q) : tTest (tD K T W f) σ H Q := by
  obtain ⟨F0, H0, F, es, st, h⟩ := h
  refine ⟨F0, H0, F, es, st, ?_⟩
  refine po_seq (rel' := fun _ _ b a => b = a) st h (fun _ _ _ _ _ _ _ z => z) fun a v F1 H1 _ st1 l1 q1 h1 => ?_
  cases ha : a.fz.tst with
  | no => rw [ha] at h1; exact h1.elim
  | exc c fs =>
    unfold R.tst at ha
    split at ha <;> cases ha
  | ok k =>
    rw [ha] at h1
    refine ⟨k, ?_, h1 k F1 H1 (Le.refl st1.ok) rfl⟩
    unfold R.tst at ha
    split at ha
    · rename_i e
      cases ha
      rw [e, Rq, Rp] at q1
      exact q1
    · cases ha
theorem dt_cmp {op : CmpOp} {r : R2} {d : R → R → Option R} (ho : OpR X (compareOp op) r) (hd : OpD X.K T r d) (ha : DE X T W a fa) (hb : DE X T W b fb) (hm : behindInMarks op b = false := by first | exact nomark _ | rfl | with_unfolding_all rfl) : DT X T W (.Compare a [op] [b] pos) (fTest (fBin d fa fb)) :=
  pt_weak (pt_cmpR ho ha hb hm) fun σ H Q h => by
    have q := test_weak (K := X.K) h
    unfold tTest at q ⊢
    exact bin_weak hd q
theorem dt_val {f : Env → O R} (h : DE X T W e f) (he : ∀ whole, isTrue e X.env whole = (do let v ← whole; standAt e.pos; holding [v] (truthy v)) := by intro _; rfl) : DT X T W e (fTest f) :=
  pt_weak (pt_val h he) fun σ H Q q => test_weak q
def fNot (f : Env → O Bool) : Env → O Bool := fun es => (f es).bind fun b => .ok (!b)
theorem dt_not {f : Env → O Bool} (h : DT X T W a f) : DT X T W (.UnaryOp .Not a pos) (fNot f) :=
  pt_weak (pt_not h) fun σ H Q ⟨F0, H0, F, es, st, q⟩ => ⟨F0, H0, F, es, st, by
    unfold fNot at q
    cases hf : f es with
    | ok b =>
      rw [hf] at q
      exact fun v F' H' l z => by
        subst z
        exact q _ F' H' l rfl
    | exc c fs => rw [hf] at q; exact q
    | no => rw [hf] at q; exact q⟩
def fAnd (f g : Env → O Bool) : Env → O Bool := fun es => (f es).bind fun b => if b then g es else .ok false
def fOr (f g : Env → O Bool) : Env → O Bool := fun es => (f es).bind fun b => if b then .ok true else g es
variable {f g : Env → O Bool} {rest : List Expr}
theorem and_weak {K : PySem.W.Frag} {σ : L2.St} {H : Hp} {Q : Bool → Hp → Prop} (q : tT K T W (fAnd f g) σ H Q) : tAnd (tT K T W f) (tT K T W g) σ H Q := by
  obtain ⟨F0, H0, F, es, st, q⟩ := q
  refine ⟨F0, H0, F, es, st, ?_⟩
  unfold fAnd at q
  cases hf : f es with
  | ok b =>
    rw [hf] at q
    intro v F' H' l z
    subst z
    cases v with
    | true => exact ⟨F0, H0, F', es, st.step l, PO.step q l fun _ _ _ _ z => z⟩
    | false => exact q false F' H' l rfl
  | exc c fs => rw [hf] at q; exact q
  | no => rw [hf] at q; exact q
theorem or_weak {K : PySem.W.Frag} {σ : L2.St} {H : Hp} {Q : Bool → Hp → Prop} (q : tT K T W (fOr f g) σ H Q) : tOr (tT K T W f) (tT K T W g) σ H Q := by
  obtain ⟨F0, H0, F, es, st, q⟩ := q
  refine ⟨F0, H0, F, es, st, ?_⟩
  unfold fOr at q
  cases hf : f es with
  | ok b =>
    rw [hf] at q
    intro v F' H' l z
    subst z
    cases v with
    | true => exact q true F' H' l rfl
    | false => exact ⟨F0, H0, F', es, st.step l, PO.step q l fun _ _ _ _ z => z⟩
  | exc c fs => rw [hf] at q; exact q
  | no => rw [hf] at q; exact q
theorem dw_and1 (h : DT X T W a f) : DW X T W (.BoolOp .And [a] pos) f := pw_and1 h
theorem dw_or1 (h : DT X T W a f) : DW X T W (.BoolOp .Or [a] pos) f := pw_or1 h
theorem dw_and (h : DT X T W a f) (r : DW X T W (.BoolOp .And (b :: rest) pos) g) : DW X T W (.BoolOp .And (a :: b :: rest) pos) (fAnd f g) := pw_weak (pw_and h r) fun σ H Q q => and_weak q
theorem dw_or (h : DT X T W a f) (r : DW X T W (.BoolOp .Or (b :: rest) pos) g) : DW X T W (.BoolOp .Or (a :: b :: rest) pos) (fOr f g) := pw_weak (pw_or h r) fun σ H Q q => or_weak q
theorem dt_w (h : DW X T W e f) : DT X T W e f := PW.pt h
/-! ### and, or, not as values -/
def R.bv : R → O Bool := R.tst
def fAndV (fa fb : Env → O R) : Env → O R := fun es => (fa es).bind fun r => r.fz.tst.bind fun b => if b then fb es else .ok (.val (.bl false))
def fOrV (fa fb : Env → O R) : Env → O R := fun es => (fa es).bind fun r => r.fz.tst.bind fun b => if b then .ok (.val (.bl true)) else fb es
def fNotV (fa : Env → O R) : Env → O R := fun es => (fa es).bind fun r => r.fz.tst.bind fun b => .ok (.val (.bl (!b)))
theorem tst_ok {K : PySem.W.Frag} {H0 F H : Hp} {v : V} {r : R} {k : Bool} (q : Rq K T H0 F H v r) (h : r.tst = .ok k) : v = .bl k := by
  unfold R.tst at h
  split at h
  · cases h; rw [Rq, Rp] at q; exact q
  · cases h
theorem tst_exc {r : R} {c fs} (h : r.tst = .exc c fs) : False := by
  unfold R.tst at h
  split at h <;> cases h
theorem de_one {op} {f : Env → O R} (h : DE X T W a f) : DE X T W (.BoolOp op [a] pos) f := pe_one h
theorem de_and (ha : DE X T W a fa) (hb : DE X T W (.BoolOp .And (b :: rest) pos) fb) : DE X T W (.BoolOp .And (a :: b :: rest) pos) (fAndV fa fb) :=
  pe_weak (pe_and ha hb) fun σ H Q ⟨F0, H0, F, es, st, h⟩ => ⟨F0, H0, F, es, st, pr_seq st h fun a x F1 H1 _ st1 l1 q1 h1 => by
    cases hk : a.fz.tst with
    | ok k =>
      rw [hk] at h1
      refine ⟨k, tst_ok q1 hk, ?_⟩
      cases k with
      | true => exact ⟨F0, H0, F1, es, st1, h1⟩
      | false => exact h1 _ F1 H1 (Le.refl st1.ok) (by rw [Rr, Rp])
    | exc c fs => exact (tst_exc hk).elim
    | no => rw [hk] at h1; exact h1.elim⟩
theorem de_or (ha : DE X T W a fa) (hb : DE X T W (.BoolOp .Or (b :: rest) pos) fb) : DE X T W (.BoolOp .Or (a :: b :: rest) pos) (fOrV fa fb) :=
  pe_weak (pe_or ha hb) fun σ H Q ⟨F0, H0, F, es, st, h⟩ => ⟨F0, H0, F, es, st, pr_seq st h fun a x F1 H1 _ st1 l1 q1 h1 => by
    cases hk : a.fz.tst with
    | ok k =>
      rw [hk] at h1
      refine ⟨k, tst_ok q1 hk, ?_⟩
      cases k with
      | true => exact h1 _ F1 H1 (Le.refl st1.ok) (by rw [Rr, Rp])
      | false => exact ⟨F0, H0, F1, es, st1, h1⟩
    | exc c fs => exact (tst_exc hk).elim
    | no => rw [hk] at h1; exact h1.elim⟩
theorem de_not (ha : DE X T W a fa) : DE X T W (.UnaryOp .Not a pos) (fNotV fa) :=
  pe_weak (pe_not ha) fun σ H Q ⟨F0, H0, F, es, st, h⟩ => ⟨F0, H0, F, es, st, pr_seq st h fun a x F1 H1 _ st1 l1 q1 h1 => by
    cases hk : a.fz.tst with
    | ok k =>
      rw [hk] at h1
      exact ⟨k, tst_ok q1 hk, h1 _ F1 H1 (Le.refl st1.ok) (by rw [Rr, Rp])⟩
    | exc c fs => exact (tst_exc hk).elim
    | no => rw [hk] at h1; exact h1.elim⟩
/-! ### a if t else b -/
def fIf (t : Env → O Bool) (fa fb : Env → O R) : Env → O R := fun es => (t es).bind fun c => if c then fa es else fb es
theorem de_if (ht : DT X T W c f) (ha : DE X T W a fa) (hb : DE X T W b fb) : DE X T W (.IfExp c a b pos) (fIf f fa fb) :=
  pe_weak (pe_ifExp ht ha hb) fun σ H Q ⟨F0, H0, F, es, st, h⟩ => ⟨F0, H0, F, es, st, pt_seq st h fun k F1 H1 _ st1 l1 h1 => by
    cases k with
    | true => exact ⟨F0, H0, F1, es, st1, h1⟩
    | false => exact ⟨F0, H0, F1, es, st1, h1⟩⟩
/-! ### unary minus -/
def fNeg (fa : Env → O R) : Env → O R := fun es => (fa es).bind fun r => match r with
  | .val (.int i) => .ok (.val (.int (-i)))
  | _ => .no
theorem de_neg (ha : DE X T W a fa) : DE X T W (.UnaryOp .USub a pos) (fNeg fa) :=
  pe_weak (pe_un un_neg ha) fun σ H Q ⟨F0, H0, F, es, st, h⟩ => ⟨F0, H0, F, es, st, pr_seq st h fun r x F1 H1 _ st1 l1 q1 h1 => by
    split at h1
    · rename_i i _
      have q2 : Rq X.K T H0 F1 H1 x (.val (.int i)) := q1
      rw [Rq, Rp] at q2
      exact ⟨i, q2, h1 _ F1 H1 (Le.refl st1.ok) (by rw [Rr, Rp])⟩
    · exact h1.elim⟩
/-! ### displays -/
def fNil : Env → O (List R) := fun _ => .ok []
def fCons (fa : Env → O R) (fr : Env → O (List R)) : Env → O (List R) := fun es => (fa es).bind fun a => (fr es).bind fun r => .ok (a.fz :: r)
theorem da_nil : DA X T W [] fNil := pa_weak pa_nil fun σ H Q ⟨F0, H0, F, es, st, h⟩ => h [] F H (Le.refl st.ok) rfl
theorem da_cons {e : Expr} {es : List Expr} {fr : Env → O (List R)} (ha : DE X T W e fa) (hr : DA X T W es fr) (hst : starEach (e :: es) X.env = (false, eval e X.env) :: starEach es X.env := by rfl) : DA X T W (e :: es) (fCons fa fr) :=
  pa_weak (pa_cons ha hr hst) fun σ H Q ⟨F0, H0, F, es, st, h⟩ => by
    refine ⟨F0, H0, F, es, st, po_seq (rel' := fun F' H' vs rs => RqL X.K T H0 F' H' rs vs) st h (fun _ _ _ _ _ _ _ z => z) fun a x F1 H1 _ st1 l1 q1 h1 => ?_⟩
    refine ⟨F0, H0, F1, es, st1, ?_⟩
    cases hf : fr es with
    | ok r =>
      rw [hf] at h1
      exact fun vs F' H' l q => h1 (x :: vs) F' H' l ⟨x, vs, rfl, q1.step l, q⟩
    | exc c fs => rw [hf] at h1; exact h1
    | no => rw [hf] at h1; exact h1
def stoL : List R → Option (List D)
  | [] => some []
  | r :: rs => match r.sto, stoL rs with
    | some d, some ds => some (d :: ds)
    | _, _ => none
theorem stoL_ok {K : PySem.W.Frag} {H0 F H : Hp} : ∀ {rs : List R} {vs : List V} {ds : List D}, RqL K T H0 F H rs vs → stoL rs = some ds → RpL K F ds vs
  | [], vs, ds, h, e => by cases h; cases e; exact RpL.nil
  | r :: rs, vs, ds, h, e => by
    obtain ⟨v, t, h1, h2, h3⟩ := h
    subst h1
    unfold stoL at e
    split at e
    · rename_i d es e1 e2
      cases e
      exact RpL.cons (h2.sto e1) (stoL_ok h3 e2)
    · cases e
theorem RqL.len {K : PySem.W.Frag} {H0 F H : Hp} : ∀ {rs : List R} {vs : List V}, RqL K T H0 F H rs vs → rs.length = vs.length
  | [], vs, h => by cases h; rfl
  | r :: rs, vs, h => by
    obtain ⟨v, t, h1, h2, h3⟩ := h
    subst h1
    simp [RqL.len h3]
def fLst (fr : Env → O (List R)) : Env → O R := fun es => (fr es).bind fun rs => match stoL rs with
  | some ds => if ds.length ≤ 100000 then .ok (.new ds) else .no
  | none => .no
def fTup (fr : Env → O (List R)) : Env → O R := fun es => (fr es).bind fun rs => match stoL rs with
  | some ds => if ds.length ≤ 100000 then .ok (.val (.tup ds)) else .no
  | none => .no
theorem sz {n : Nat} (h : n ≤ 100000) : n ≤ sizeLine := Nat.le_trans h (by decide)
theorem szl {n : Nat} (h : n < 100000) : n < sizeLine := Nat.lt_of_lt_of_le h (by decide)
/-- a new list at p -/
theorem rr_new {K : PySem.W.Frag} {F0 H0 F H : Hp} {σ : L2.St} {es : Env} (st : StOk K T F0 H0 F H σ es) {p : Addr} (hp : H p = none) {ds : List D} {vs : List V} (h : RpL K F ds vs) : Rr K T H0 H F (upd H p (.lst vs)) (.ref p) (.new ds) :=
  ⟨p, vs, rfl, hp, st.ok.nf hp, st.ok.nt hp, upd_same, h⟩
theorem rp_tup {K : PySem.W.Frag} {F : Hp} {p : Addr} (hp : F p = none) {ds : List D} {vs : List V} (h : RpL K F ds vs) : Rp K (upd F p (.tup vs)) (.tup ds) (.ref p) := by
  rw [Rp]; exact ⟨p, vs, rfl, .inl (.inl upd_same), h.mono (Sub.new hp)⟩
theorem rp_lst {K : PySem.W.Frag} {F : Hp} {p : Addr} (hp : F p = none) {ds : List D} {vs : List V} (h : RpL K F ds vs) : Rp K (upd F p (.lst vs)) (.lst ds) (.ref p) := by
  rw [Rp]; exact ⟨p, vs, rfl, .inl (.inl upd_same), h.mono (Sub.new hp)⟩
theorem de_lst {es : List Expr} {fr : Env → O (List R)} (h : DA X T W es fr) (hn : es.length ≤ 30 := by decide) : DE X T W (.List es pos) (fLst fr) :=
  pe_weak (pe_lst h) fun σ H Q ⟨F0, H0, F, es, st, h⟩ => ⟨F0, H0, F, es, st, pa_seq st h fun rs vs F1 H1 _ st1 l1 q1 h1 => by
    cases hs : stoL rs with
    | none => rw [hs] at h1; exact h1.elim
    | some ds =>
      rw [hs] at h1
      have z := stoL_ok q1 hs
      simp only at h1
      split at h1
      · rename_i hl
        refine ⟨by rw [← z.len]; exact sz hl, fun p hp => ?_⟩
        exact h1 _ F1 _ (Le.newH st1.ok hp) (rr_new st1 hp z)
      · exact h1.elim⟩
theorem de_tup {es : List Expr} {k : Nat} {fr : Env → O (List R)} (h : DA X T W es fr) : DE X T W (.Tuple es k pos) (fTup fr) :=
  pe_weak (pe_tup h) fun σ H Q ⟨F0, H0, F, es, st, h⟩ => ⟨F0, H0, F, es, st, pa_seq st h fun rs vs F1 H1 _ st1 l1 q1 h1 => by
    cases hs : stoL rs with
    | none => rw [hs] at h1; exact h1.elim
    | some ds =>
      rw [hs] at h1
      have z := stoL_ok q1 hs
      simp only at h1
      split at h1
      · rename_i hl
        refine ⟨by rw [← z.len]; exact sz hl, fun p hp => ?_⟩
        exact h1 _ _ _ (Le.new st1.ok hp) (rp_tup (st1.ok.nf hp) z)
      · exact h1.elim⟩
end
end Fw
namespace Fw
open PySem PySem.Spec PyProof.Rows L2
section
variable {X : Cx} {T : List Addr} {K : PySem.W.Frag}
/-! ### whole numbers -/
def i2 (C : Int → Int → Bool) (f : Int → Int → D) : R → R → Option R
  | .val (.int i), .val (.int j) => if C i j then some (.val (f i j)) else none
  | _, _ => none
theorem i2_ok {C : Int → Int → Bool} {f : Int → Int → D} {a b c : R} (h : i2 C f a b = some c) : ∃ i j, a = .val (.int i) ∧ b = .val (.int j) ∧ C i j = true ∧ c = .val (f i j) := by
  unfold i2 at h
  split at h
  · split at h
    · rename_i i j hc
      cases h
      exact ⟨i, j, rfl, rfl, hc, rfl⟩
    · cases h
  · cases h
theorem rq_int {H0 F H : Hp} {v : V} {i : Int} (q : Rq K T H0 F H v (.val (.int i))) : v = .int i := by
  rw [Rq, Rp] at q; exact q
theorem rq_str {H0 F H : Hp} {v : V} {s : List Nat} (q : Rq K T H0 F H v (.val (.str s))) : v = .str (tx s) := by
  rw [Rq, Rp] at q; exact q
theorem rq_bl {H0 F H : Hp} {v : V} {s : Bool} (q : Rq K T H0 F H v (.val (.bl s))) : v = .bl s := by
  rw [Rq, Rp] at q; exact q
theorem opd_I {P : Int → Int → Prop} {C : Int → Int → Bool} {g : Int → Int → V} {f : Int → Int → D} (hc : ∀ i j, C i j = true → P i j) (hg : ∀ i j F, Rp K F (f i j) (g i j)) : OpD K T (rI P g) (i2 C f) :=
  fun H0 F H x y a b c Q ok up q1 q2 h k => by
    obtain ⟨i, j, rfl, rfl, h1, rfl⟩ := i2_ok h
    exact ⟨i, j, rq_int q1, rq_int q2, hc i j h1, k _ F H (Le.refl ok) (hg i j F)⟩
theorem opd_I0 {g : Int → Int → V} {f : Int → Int → D} (hg : ∀ i j F, Rp K F (f i j) (g i j)) : OpD K T (rI0 g) (i2 (fun _ _ => true) f) :=
  fun H0 F H x y a b c Q ok up q1 q2 h k => by
    obtain ⟨i, j, rfl, rfl, h1, rfl⟩ := i2_ok h
    exact ⟨i, j, rq_int q1, rq_int q2, k _ F H (Le.refl ok) (hg i j F)⟩
def mulC (i j : Int) : Bool := decide ((-(2 ^ 64) < i ∧ i < 2 ^ 64) ∨ (-(2 ^ 64) < j ∧ j < 2 ^ 64))
def divC (_ j : Int) : Bool := decide (0 < j ∧ j < 1073741824)
def modC (_ j : Int) : Bool := decide (0 < j)
def shlC (i j : Int) : Bool := decide (0 ≤ j ∧ j ≤ 1000000 ∧ i.natAbs < 2 ^ 64)
def shrC (_ j : Int) : Bool := decide (0 ≤ j)
def dSub := i2 (fun _ _ => true) fun i j => .int (i - j)
def dDiv := i2 divC fun i j => .int (i / j)
def dMod := i2 modC fun i j => .int (i % j)
def dShl := i2 shlC fun i j => .int (i * 2 ^ j.toNat)
def dShr := i2 shrC fun i j => .int (i / 2 ^ j.toNat)
def dAnd := i2 (fun _ _ => true) fun i j => .int (Builtin.bitAnd i j)
def dOr := i2 (fun _ _ => true) fun i j => .int (Builtin.bitOr i j)
def dXor := i2 (fun _ _ => true) fun i j => .int (Builtin.bitXor i j)
def dLt := i2 (fun _ _ => true) fun i j => .bl (decide (i < j))
def dLe := i2 (fun _ _ => true) fun i j => .bl (decide (i ≤ j))
def dGt := i2 (fun _ _ => true) fun i j => .bl (decide (j < i))
def dGe := i2 (fun _ _ => true) fun i j => .bl (decide (j ≤ i))
theorem od_sub : OpD K T (rI0 fun i j => .int (i - j)) dSub := opd_I0 fun _ _ _ => by rw [Rp]
theorem od_div : OpD K T (rI CDiv fun i j => .int (i / j)) dDiv := opd_I (fun i j h => by first | exact of_decide_eq_true h | (simpa [divC, modC, shlC, shrC, mulC, CDiv, CPow, CMul] using h)) fun _ _ _ => by rw [Rp]
theorem od_mod : OpD K T (rI (fun _ j => 0 < j) fun i j => .int (i % j)) dMod := opd_I (fun i j h => by first | exact of_decide_eq_true h | (simpa [divC, modC, shlC, shrC, mulC, CDiv, CPow, CMul] using h)) fun _ _ _ => by rw [Rp]
theorem od_shl : OpD K T (rI CPow fun i j => .int (i * 2 ^ j.toNat)) dShl := opd_I (fun i j h => by first | exact of_decide_eq_true h | (simpa [divC, modC, shlC, shrC, mulC, CDiv, CPow, CMul] using h)) fun _ _ _ => by rw [Rp]
theorem od_shr : OpD K T (rI (fun _ j => 0 ≤ j) fun i j => .int (i / 2 ^ j.toNat)) dShr := opd_I (fun i j h => by first | exact of_decide_eq_true h | (simpa [divC, modC, shlC, shrC, mulC, CDiv, CPow, CMul] using h)) fun _ _ _ => by rw [Rp]
theorem od_and : OpD K T (rI0 fun i j => .int (Builtin.bitAnd i j)) dAnd := opd_I0 fun _ _ _ => by rw [Rp]
theorem od_or : OpD K T (rI0 fun i j => .int (Builtin.bitOr i j)) dOr := opd_I0 fun _ _ _ => by rw [Rp]
theorem od_xor : OpD K T (rI0 fun i j => .int (Builtin.bitXor i j)) dXor := opd_I0 fun _ _ _ => by rw [Rp]
theorem od_lt : OpD K T (rI0 fun i j => .bl (decide (i < j))) dLt := opd_I0 fun _ _ _ => by rw [Rp]
theorem od_le : OpD K T (rI0 fun i j => .bl (decide (i ≤ j))) dLe := opd_I0 fun _ _ _ => by rw [Rp]
theorem od_gt : OpD K T (rI0 fun i j => .bl (decide (j < i))) dGt := opd_I0 fun _ _ _ => by rw [Rp]
theorem od_ge : OpD K T (rI0 fun i j => .bl (decide (j ≤ i))) dGe := opd_I0 fun _ _ _ => by rw [Rp]
theorem OpD.or {r r' : R2} {d : R → R → Option R} (h : ∀ H0 F H x y a b c Q, Ok T F H → Up K H0 H → Rq K T H0 F H x a → Rq K T H0 F H y b → d a b = some c →
    (∀ v F' H', Le T F H F' H' → Rr K T H0 H F' H' v c → Q v H') → r x y H Q ∨ r' x y H Q) : OpD K T (fun x y H Q => r x y H Q ∨ r' x y H Q) d := h
/-! ### list + list, any that may be read -/
def rCatL (K : PySem.W.Frag) : R2 := fun x y H Q => ∃ l b xs zs, x = .ref l ∧ y = .ref b ∧ SqL K H l xs ∧ SqL K H b zs ∧ xs.length + zs.length ≤ sizeLine ∧ ∀ p, H p = none → Q (.ref p) (upd H p (.lst (xs ++ zs)))
theorem op_catL : OpR X (binaryOp .Add) (rCatL X.K) := by
  intro pins s σ H x y v u Q I rx ry h
  obtain ⟨l, b, xs, zs, rfl, rfl, hl, hb, hz, q⟩ := h
  cases rx
  cases ry
  obtain ⟨is1, r1, ⟨o1, m1, g1, e1, e2, e3⟩, _⟩ := I.list hl
  obtain ⟨is2, r2, ⟨o2, m2, g2, f1, f2, f3⟩, _⟩ := I.list hb
  obtain ⟨c1, d1, t1, s1⟩ := o1
  obtain ⟨c2, d2, t2, s2⟩ := o2
  simp only at e1 e2 e3 f1 f2 f3
  subst e1 e2 e3 f1 f2 f3
  have n1 := r1.length
  have n2 := r2.length
  have e : is1.toArray ++ is2.toArray = (is1 ++ is2).toArray := by simp
  refine concat_meets ⟨_, g1, rfl⟩ ⟨_, g2, rfl⟩ noFill_list_add seq_list_add PySem.F.slot_list_add PySem.F.entry_list_add (PySem.F.args_list_add_2 _ _)
    (list_addW l b is1.toArray is2.toArray m1 m2 _ _ s1 s2 (by simp only [List.size_toArray]; omega)) ⟨g1, g2, ?_⟩
  rw [e]
  exact ⟨.ref _, _, I.lnew (t' := s.toks) (r1.append r2) (by rw [List.length_append]; omega), rfl, q _ I.fresh⟩
/-- + -/
def R.itmL : R → Option (List D)
  | .val (.lst xs) => some xs
  | .bor xs => some xs
  | .brw (.lst xs) => if xs.all flat then some xs else none
  | _ => none
theorem Rq.itmL {H0 F' H' : Hp} {v : V} {r : R} (q : Rq K T H0 F' H' v r) (ok : Ok T F' H') (up : Up K H0 H') {xs : List D} (e : r.itmL = some xs) :
    ∃ p vs, v = .ref p ∧ SqL K H' p vs ∧ RpL K F' xs vs := by
  cases r with
  | val d =>
    cases d <;> simp only [R.itmL] at e <;> try cases e
    · rw [Rq, Rp] at q
      obtain ⟨a, vs, h1, h2, h3⟩ := q
      exact ⟨a, vs, h1, ok.sub.l h2, h3⟩
  | brw d =>
    cases d <;> simp only [R.itmL] at e <;> try cases e
    · split at e
      · rename_i f
        cases e
        have z := up.rp q
        rw [Rp] at z
        obtain ⟨a, vs, h1, h2, h3⟩ := z
        exact ⟨a, vs, h1, h2, h3.flat f⟩
      · cases e
  | new xs => exact q.elim
  | bor xs =>
    simp only [R.itmL] at e
    cases e
    obtain ⟨p, vs, h1, h3, h4, h5, h6⟩ := q
    exact ⟨p, vs, h1, .inl (.inl h5), h6⟩
def catR (a b : R) : Option R := match a.itmL, b.itmL with
  | some xs, some ys => if xs.length + ys.length ≤ 100000 then some (.new (xs ++ ys)) else none
  | _, _ => none
def dAdd : R → R → Option R
  | .val (.int i), .val (.int j) => some (.val (.int (i + j)))
  | .val (.str s), .val (.str t) => if s.length + t.length ≤ 100000 then some (.val (.str (s ++ t))) else none
  | a, b => catR a b
def rAddA (K : PySem.W.Frag) : R2 := fun x y H Q => (rI0 fun i j => .int (i + j)) x y H Q ∨ ((fun x y H Q => ∃ i j, x = V.str i ∧ y = V.str j ∧ i.length + j.length ≤ sizeLine ∧ Q (.str (i ++ j)) H : R2) x y H Q ∨ rCatL K x y H Q)
theorem op_addA : OpR X (binaryOp .Add) (rAddA X.K) := OpR.or op_add (OpR.or op_add_str op_catL)
/-- a new list laid -/
theorem rr_lst {H0 F H : Hp} (ok : Ok T F H) {p : Addr} (hp : H p = none) {ds : List D} {vs : List V} (h : RpL K F ds vs) : Rr K T H0 H F (upd H p (.lst vs)) (.ref p) (.new ds) :=
  ⟨p, vs, rfl, hp, ok.nf hp, ok.nt hp, upd_same, h⟩
theorem od_add : OpD K T (rAddA K) dAdd := fun H0 F H x y a b c Q ok up q1 q2 h k => by
  unfold dAdd at h
  split at h
  · cases h
    exact .inl ⟨_, _, rq_int q1, rq_int q2, k _ F H (Le.refl ok) (by rw [Rr, Rp])⟩
  · split at h
    · rename_i s t hl
      cases h
      refine .inr (.inl ⟨_, _, rq_str q1, rq_str q2, by rw [tx_len, tx_len]; exact sz hl, ?_⟩)
      rw [tx_app]
      exact k _ F H (Le.refl ok) (by rw [Rr, Rp])
    · cases h
  · unfold catR at h
    split at h
    · rename_i xs ys e1 e2
      split at h
      · rename_i hl
        cases h
        obtain ⟨p, vs, rfl, s1, r1⟩ := q1.itmL ok up e1
        obtain ⟨p2, vs2, rfl, s2, r2⟩ := q2.itmL ok up e2
        refine .inr (.inr ⟨p, p2, vs, vs2, rfl, rfl, s1, s2, by rw [← r1.len, ← r2.len]; exact sz hl, fun p hp => ?_⟩)
        exact k _ F _ (Le.newH ok hp) (rr_lst ok hp (r1.app r2))
      · cases h
    · cases h
/-! ### * : ints, texts -/
def dMul : R → R → Option R := i2 mulC fun i j => .int (i * j)
theorem od_mul : OpD K T (rI CMul fun i j => .int (i * j)) dMul := opd_I (fun i j h => by simpa [mulC, CMul] using h) fun _ _ _ => by rw [Rp]
end
end Fw
namespace Fw
open PySem PySem.Spec PyProof.Rows L2
/-! ### == of data -/
mutual
def deq : D → D → Bool
  | .non, .non => true
  | .bl a, .bl b => a == b
  | .bl a, .int j => (if a then 1 else 0) == j
  | .int i, .bl b => i == (if b then 1 else 0)
  | .int i, .int j => i == j
  | .str s, .str t => s == t
  | .lst xs, .lst ys => deqL xs ys
  | .tup xs, .tup ys => deqL xs ys
  | _, _ => false
def deqL : List D → List D → Bool
  | [], [] => true
  | x :: xs, y :: ys => deq x y && deqL xs ys
  | _, _ => false
end
mutual
def py : D → PyData
  | .non => .none
  | .bl b => .bool b
  | .int i => .int i
  | .str s => .str (tx s)
  | .lst xs => .list (pyL xs)
  | .tup xs => .tuple (pyL xs)
  | .ty _ => .none
  | .ins _ _ _ => .none
  | .exn _ _ _ => .none
  | .emp => .none
  | .slf _ _ _ _ => .none
  | .cls _ => .none
  | .dct _ _ => .none
def pyL : List D → List PyData
  | [] => []
  | d :: ds => py d :: pyL ds
end
/-- plain data, at most n deep, the signs of a text as they can be -/
def shp : Nat → D → Bool
  | _, .non => true
  | _, .bl _ => true
  | _, .int _ => true
  | _, .str s => s.all fun c => decide (c < 1114112)
  | n + 1, .lst xs => xs.all (shp n)
  | n + 1, .tup xs => xs.all (shp n)
  | _, _ => false
theorem tx_beq (s t : List Nat) : (tx s == tx t) = (s == t) := by
  by_cases h : s = t
  · subst h; simp
  · have h2 : tx s ≠ tx t := fun z => h (tx_inj z)
    rw [beq_eq_false_iff_ne.mpr h, beq_eq_false_iff_ne.mpr h2]
mutual
theorem eqv_deq : ∀ (n m : Nat) (a b : D), shp n a = true → shp m b = true → PyData.eqv (py a) (py b) = deq a b
  | n, m, .lst xs, .lst ys, h1, h2 => by
    cases n with
    | zero => simp [shp] at h1
    | succ n =>
      cases m with
      | zero => simp [shp] at h2
      | succ m =>
        simp only [shp] at h1 h2
        simp only [py, PyData.eqv, deq]
        exact eqvL_deq n m xs ys h1 h2
  | n, m, .tup xs, .tup ys, h1, h2 => by
    cases n with
    | zero => simp [shp] at h1
    | succ n =>
      cases m with
      | zero => simp [shp] at h2
      | succ m =>
        simp only [shp] at h1 h2
        simp only [py, PyData.eqv, deq]
        exact eqvL_deq n m xs ys h1 h2
  | n, m, .non, b, h1, h2 => by cases b <;> simp_all [py, PyData.eqv, deq, shp]
  | n, m, .bl x, b, h1, h2 => by cases b <;> simp_all [py, PyData.eqv, deq, shp]
  | n, m, .int x, b, h1, h2 => by cases b <;> simp_all [py, PyData.eqv, deq, shp]
  | n, m, .str x, b, h1, h2 => by cases b <;> simp_all [py, PyData.eqv, deq, shp, tx_beq]
  | n, m, .lst x, .non, h1, h2 => by simp_all [py, PyData.eqv, deq, shp]
  | n, m, .lst x, .bl _, h1, h2 => by simp_all [py, PyData.eqv, deq, shp]
  | n, m, .lst x, .int _, h1, h2 => by simp_all [py, PyData.eqv, deq, shp]
  | n, m, .lst x, .str _, h1, h2 => by simp_all [py, PyData.eqv, deq, shp]
  | n, m, .lst x, .tup _, h1, h2 => by simp_all [py, PyData.eqv, deq, shp]
  | n, m, .tup x, .non, h1, h2 => by simp_all [py, PyData.eqv, deq, shp]
  | n, m, .tup x, .bl _, h1, h2 => by simp_all [py, PyData.eqv, deq, shp]
  | n, m, .tup x, .int _, h1, h2 => by simp_all [py, PyData.eqv, deq, shp]
  | n, m, .tup x, .str _, h1, h2 => by simp_all [py, PyData.eqv, deq, shp]
  | n, m, .tup x, .lst _, h1, h2 => by simp_all [py, PyData.eqv, deq, shp]
  | n, m, .lst x, .ty _, h1, h2 => by cases m <;> simp [shp] at h2
  | n, m, .lst x, .ins _ _ _, h1, h2 => by cases m <;> simp [shp] at h2
  | n, m, .lst x, .exn _ _ _, h1, h2 => by cases m <;> simp [shp] at h2
  | n, m, .lst x, .emp, h1, h2 => by cases m <;> simp [shp] at h2
  | n, m, .lst x, .slf _ _ _ _, h1, h2 => by cases m <;> simp [shp] at h2
  | n, m, .lst x, .cls _, h1, h2 => by cases m <;> simp [shp] at h2
  | n, m, .lst x, .dct _ _, h1, h2 => by cases m <;> simp [shp] at h2
  | n, m, .tup x, .ty _, h1, h2 => by cases m <;> simp [shp] at h2
  | n, m, .tup x, .ins _ _ _, h1, h2 => by cases m <;> simp [shp] at h2
  | n, m, .tup x, .exn _ _ _, h1, h2 => by cases m <;> simp [shp] at h2
  | n, m, .tup x, .emp, h1, h2 => by cases m <;> simp [shp] at h2
  | n, m, .tup x, .slf _ _ _ _, h1, h2 => by cases m <;> simp [shp] at h2
  | n, m, .tup x, .cls _, h1, h2 => by cases m <;> simp [shp] at h2
  | n, m, .tup x, .dct _ _, h1, h2 => by cases m <;> simp [shp] at h2
  | n, m, .ty _, b, h1, h2 => by cases n <;> simp [shp] at h1
  | n, m, .ins _ _ _, b, h1, h2 => by cases n <;> simp [shp] at h1
  | n, m, .exn _ _ _, b, h1, h2 => by cases n <;> simp [shp] at h1
  | n, m, .emp, b, h1, h2 => by cases n <;> simp [shp] at h1
  | n, m, .slf _ _ _ _, b, h1, h2 => by cases n <;> simp [shp] at h1
  | n, m, .cls _, b, h1, h2 => by cases n <;> simp [shp] at h1
  | n, m, .dct _ _, b, h1, h2 => by cases n <;> simp [shp] at h1
theorem eqvL_deq : ∀ (n m : Nat) (xs ys : List D), xs.all (shp n) = true → ys.all (shp m) = true → PyData.eqvAll (pyL xs) (pyL ys) = deqL xs ys
  | n, m, [], [], _, _ => by simp [pyL, PyData.eqvAll, deqL]
  | n, m, [], y :: ys, _, _ => by simp [pyL, PyData.eqvAll, deqL]
  | n, m, x :: xs, [], _, _ => by simp [pyL, PyData.eqvAll, deqL]
  | n, m, x :: xs, y :: ys, h1, h2 => by
    rw [List.all_cons, Bool.and_eq_true] at h1 h2
    simp only [pyL, PyData.eqvAll, deqL]
    rw [eqv_deq n m x y h1.1 h2.1, eqvL_deq n m xs ys h1.2 h2.2]
end
mutual
theorem shp_lay : ∀ (n : Nat) (a : D), shp n a = true → (py a).canLay0 = true ∧ (py a).depth ≤ n
  | n, .lst xs, h => by
    cases n with
    | zero => simp [shp] at h
    | succ n =>
      simp only [shp] at h
      have := shpL_lay n xs h
      simp only [py, PyData.canLay0, PyData.depth]
      exact ⟨this.1, by omega⟩
  | n, .tup xs, h => by
    cases n with
    | zero => simp [shp] at h
    | succ n =>
      simp only [shp] at h
      have := shpL_lay n xs h
      simp only [py, PyData.canLay0, PyData.depth]
      exact ⟨this.1, by omega⟩
  | n, .non, h => by simp [py, PyData.canLay0, PyData.depth]
  | n, .bl _, h => by simp [py, PyData.canLay0, PyData.depth]
  | n, .int _, h => by simp [py, PyData.canLay0, PyData.depth]
  | n, .str s, h => by
    have h' : (s.all fun c => decide (c < 1114112)) = true := by cases n <;> simpa only [shp] using h
    simp only [py, PyData.canLay0, PyData.depth]
    refine ⟨?_, Nat.zero_le _⟩
    show (tx s).cps.all (· < 0x110000) = true
    rw [tx]
    simpa using h'
  | n, .ty _, h => by cases n <;> simp [shp] at h
  | n, .ins _ _ _, h => by cases n <;> simp [shp] at h
  | n, .exn _ _ _, h => by cases n <;> simp [shp] at h
  | n, .emp, h => by cases n <;> simp [shp] at h
  | n, .slf _ _ _ _, h => by cases n <;> simp [shp] at h
  | n, .cls _, h => by cases n <;> simp [shp] at h
  | n, .dct _ _, h => by cases n <;> simp [shp] at h
theorem shpL_lay : ∀ (n : Nat) (xs : List D), xs.all (shp n) = true → PyData.canLayAll0 (pyL xs) = true ∧ PyData.depthAll (pyL xs) ≤ n
  | n, [], _ => by simp [pyL, PyData.canLayAll0, PyData.depthAll]
  | n, x :: xs, h => by
    rw [List.all_cons, Bool.and_eq_true] at h
    have h1 := shp_lay n x h.1
    have h2 := shpL_lay n xs h.2
    simp only [pyL, PyData.canLayAll0, PyData.depthAll]
    exact ⟨by rw [h1.1, h2.1]; rfl, by omega⟩
end
theorem shp_shaped {a : D} (h : shp 60 a = true) : SeqAt.shaped (py a) = true := by
  have := shp_lay 60 a h
  unfold SeqAt.shaped
  rw [this.1, Bool.true_and]
  exact decide_eq_true (by omega)
mutual
theorem rp_dp {K : PySem.W.Frag} {H : Hp} : ∀ (n : Nat) (d : D) {v : V}, shp n d = true → Rp K H d v → Dp K H v (py d)
  | n, .non, v, _, h => by rw [Rp] at h; subst h; simp only [py]; exact .non
  | n, .bl b, v, _, h => by rw [Rp] at h; subst h; simp only [py]; exact .bl b
  | n, .int i, v, _, h => by rw [Rp] at h; subst h; simp only [py]; exact .int i
  | n, .str s, v, _, h => by rw [Rp] at h; subst h; simp only [py]; exact .str _
  | n, .lst xs, v, hs, h => by
    rw [Rp] at h
    obtain ⟨a, vs, rfl, h2, h3⟩ := h
    cases n with
    | zero => simp [shp] at hs
    | succ n =>
      simp only [shp] at hs
      simp only [py]
      exact .lst h2 (rpl_dp n xs hs h3)
  | n, .tup xs, v, hs, h => by
    rw [Rp] at h
    obtain ⟨a, vs, rfl, h2, h3⟩ := h
    cases n with
    | zero => simp [shp] at hs
    | succ n =>
      simp only [shp] at hs
      simp only [py]
      exact .tup h2 (rpl_dp n xs hs h3)
  | n, .ty _, v, hs, h => by cases n <;> simp [shp] at hs
  | n, .ins _ _ _, v, hs, h => by cases n <;> simp [shp] at hs
  | n, .exn _ _ _, v, hs, h => by cases n <;> simp [shp] at hs
  | n, .emp, v, hs, h => by cases n <;> simp [shp] at hs
  | n, .slf _ _ _ _, v, hs, h => by cases n <;> simp [shp] at hs
  | n, .cls _, v, hs, h => by cases n <;> simp [shp] at hs
  | n, .dct _ _, v, hs, h => by cases n <;> simp [shp] at hs
theorem rpl_dp {K : PySem.W.Frag} {H : Hp} : ∀ (n : Nat) (ds : List D) {vs : List V}, ds.all (shp n) = true → RpL K H ds vs → DpAll K H vs (pyL ds)
  | n, [], vs, _, h => by rw [RpL] at h; subst h; simp only [pyL]; exact .nil
  | n, d :: ds, vs, hs, h => by
    rw [RpL] at h
    obtain ⟨v, r, rfl, h2, h3⟩ := h
    rw [List.all_cons, Bool.and_eq_true] at hs
    simp only [pyL]
    exact .cons (rp_dp n d hs.1 h2) (rpl_dp n ds hs.2 h3)
end
section
variable {X : Cx} {T : List Addr} {K : PySem.W.Frag}
def dEq (a b : R) : Option R := if shp 60 a.dat && shp 60 b.dat then some (.val (.bl (deq a.dat b.dat))) else none
def dNe (a b : R) : Option R := if shp 60 a.dat && shp 60 b.dat then some (.val (.bl (!deq a.dat b.dat))) else none
theorem od_eq : OpD K T (rEqD K) dEq := fun H0 F H x y a b c Q ok up q1 q2 h k => by
  unfold dEq at h
  split at h
  · rename_i e
    rw [Bool.and_eq_true] at e
    cases h
    refine ⟨py a.dat, py b.dat, rp_dp 60 _ e.1 (q1.toH ok up), rp_dp 60 _ e.2 (q2.toH ok up), shp_shaped e.1, shp_shaped e.2, ?_⟩
    rw [eqv_deq 60 60 _ _ e.1 e.2]
    exact k _ F H (Le.refl ok) (by rw [Rr, Rp])
  · cases h
theorem od_ne : OpD K T (rNeD K) dNe := fun H0 F H x y a b c Q ok up q1 q2 h k => by
  unfold dNe at h
  split at h
  · rename_i e
    rw [Bool.and_eq_true] at e
    cases h
    refine ⟨py a.dat, py b.dat, rp_dp 60 _ e.1 (q1.toH ok up), rp_dp 60 _ e.2 (q2.toH ok up), shp_shaped e.1, shp_shaped e.2, ?_⟩
    rw [eqv_deq 60 60 _ _ e.1 e.2]
    exact k _ F H (Le.refl ok) (by rw [Rr, Rp])
  · cases h
/-! ### in -/
def plainF : D → Bool
  | .non => true
  | .bl _ => true
  | .int _ => true
  | .str _ => true
  | _ => false
theorem flatV_of {H : Hp} {d : D} {v : V} (f : plainF d = true) (h : Rp K H d v) : flatV v = true := by
  cases d <;> simp [plainF] at f <;> (rw [Rp] at h; subst h; rfl)
theorem eqV_of {H : Hp} {d e : D} {v u : V} (f : plainF d = true) (g : plainF e = true) (h : Rp K H d v) (h' : Rp K H e u) : eqV v u = deq d e := by
  cases d <;> simp [plainF] at f <;> cases e <;> simp [plainF] at g <;> (rw [Rp] at h; rw [Rp] at h'; subst h h'; simp [eqV, deq, tx_beq])
theorem flatVs_of {H : Hp} : ∀ {ds : List D} {vs : List V}, ds.all plainF = true → RpL K H ds vs → vs.all flatV = true
  | [], vs, _, h => by rw [RpL] at h; subst h; rfl
  | d :: ds, vs, f, h => by
    rw [RpL] at h
    obtain ⟨v, r, rfl, h2, h3⟩ := h
    rw [List.all_cons, Bool.and_eq_true] at f ⊢
    exact ⟨flatV_of f.1 h2, flatVs_of f.2 h3⟩
theorem inV_of {H : Hp} {e : D} {u : V} (g : plainF e = true) (h' : Rp K H e u) : ∀ {ds : List D} {vs : List V}, ds.all plainF = true → RpL K H ds vs → inV u vs = ds.any fun d => deq d e
  | [], vs, _, h => by rw [RpL] at h; subst h; rfl
  | d :: ds, vs, f, h => by
    rw [RpL] at h
    obtain ⟨v, r, rfl, h2, h3⟩ := h
    rw [List.all_cons, Bool.and_eq_true] at f
    show (eqV v u || inV u r) = _
    rw [List.any_cons, eqV_of f.1 g h2 h', inV_of g h' f.2 h3]
def itmD : D → Option (List D)
  | .lst xs => some xs
  | .tup xs => some xs
  | _ => none
def dIn (a b : R) : Option R := match itmD b.dat with
  | some ds => if plainF a.dat && ds.all plainF then some (.val (.bl (ds.any fun d => deq d a.dat))) else none
  | none => none
def dNin (a b : R) : Option R := match itmD b.dat with
  | some ds => if plainF a.dat && ds.all plainF then some (.val (.bl (!ds.any fun d => deq d a.dat))) else none
  | none => none
theorem itmD_ok {H : Hp} {d : D} {v : V} {ds : List D} (h : Rp K H d v) (e : itmD d = some ds) : ∃ p vs, v = .ref p ∧ (SqL K H p vs ∨ SqT K H p vs) ∧ RpL K H ds vs := by
  cases d <;> simp only [itmD] at e <;> cases e
  · rw [Rp] at h
    obtain ⟨a, vs, h1, h2, h3⟩ := h
    exact ⟨a, vs, h1, .inl h2, h3⟩
  · rw [Rp] at h
    obtain ⟨a, vs, h1, h2, h3⟩ := h
    exact ⟨a, vs, h1, .inr h2, h3⟩
theorem od_in : OpD K T (rIn K false) dIn := fun H0 F H x y a b c Q ok up q1 q2 h k => by
  unfold dIn at h
  split at h
  · rename_i ds e
    split at h
    · rename_i f
      rw [Bool.and_eq_true] at f
      cases h
      obtain ⟨p, vs, rfl, h1, h2⟩ := itmD_ok (q2.toH ok up) e
      have q := q1.toH ok up
      refine ⟨p, vs, rfl, h1, flatV_of f.1 q, flatVs_of f.2 h2, ?_⟩
      rw [if_neg Bool.false_ne_true, inV_of f.1 q f.2 h2]
      exact k _ F H (Le.refl ok) (by rw [Rr, Rp])
    · cases h
  · cases h
theorem od_nin : OpD K T (rIn K true) dNin := fun H0 F H x y a b c Q ok up q1 q2 h k => by
  unfold dNin at h
  split at h
  · rename_i ds e
    split at h
    · rename_i f
      rw [Bool.and_eq_true] at f
      cases h
      obtain ⟨p, vs, rfl, h1, h2⟩ := itmD_ok (q2.toH ok up) e
      have q := q1.toH ok up
      refine ⟨p, vs, rfl, h1, flatV_of f.1 q, flatVs_of f.2 h2, ?_⟩
      rw [if_pos rfl, inV_of f.1 q f.2 h2]
      exact k _ F H (Le.refl ok) (by rw [Rr, Rp])
    · cases h
  · cases h
/-! ### is -/
def isNonD : D → Bool
  | .non => true
  | _ => false
def isB (a b : R) : Option Bool := match a.dat, b.dat with
  | .bl x, .bl y => some (decide (x = y))
  | .ty m, .ty n => some (decide (m = n))
  | x, .non => some (isNonD x)
  | _, _ => none
def dIs (a b : R) : Option R := (isB a b).map fun k => .val (.bl k)
def dNis (a b : R) : Option R := (isB a b).map fun k => .val (.bl (!k))
def rIsA : R2 := fun x y H Q => rIsB x y H Q ∨ ((fun x y H Q => ∃ m n, x = V.ty m ∧ y = V.ty n ∧ Q (.bl (decide (m = n))) H : R2) x y H Q ∨ (fun x y H Q => y = V.non ∧ Q (.bl (decide (x = .non))) H : R2) x y H Q)
def rNisA : R2 := fun x y H Q => rNotB x y H Q ∨ ((fun x y H Q => ∃ m n, x = V.ty m ∧ y = V.ty n ∧ Q (.bl (!decide (m = n))) H : R2) x y H Q ∨ (fun x y H Q => y = V.non ∧ Q (.bl (!decide (x = .non))) H : R2) x y H Q)
theorem op_isA : OpR X (compareOp .Is) rIsA := OpR.or op_isBl (OpR.or op_isTy op_isN)
theorem op_nisA : OpR X (compareOp .IsNot) rNisA := OpR.or op_notBl (OpR.or op_isNotTy op_notN)
theorem isNon_of {H : Hp} {d : D} {v : V} (h : Rp K H d v) : decide (v = .non) = isNonD d := by
  cases d <;> rw [Rp] at h <;> first | (subst h; rfl) | (obtain ⟨a, vs, rfl, _⟩ := h; rfl) | (obtain ⟨a, dx, vs, rfl, _⟩ := h; rfl) | (obtain ⟨a, d, rfl, _⟩ := h; rfl) | (obtain ⟨a, rfl, _⟩ := h; rfl) | (obtain ⟨rfl, _⟩ := h; rfl)
theorem isA_ok {H0 F H : Hp} {x y : V} {a b : R} {k : Bool} (ok : Ok T F H) (up : Up K H0 H) (q1 : Rq K T H0 F H x a) (q2 : Rq K T H0 F H y b) (h : isB a b = some k) :
    (∃ i j, x = .bl i ∧ y = .bl j ∧ decide (i = j) = k) ∨ (∃ m n, x = .ty m ∧ y = .ty n ∧ decide (m = n) = k) ∨ (y = .non ∧ decide (x = .non) = k) := by
  have z1 := q1.toH ok up
  have z2 := q2.toH ok up
  unfold isB at h
  split at h
  · rename_i e1 e2
    rw [e1, Rp] at z1; rw [e2, Rp] at z2
    exact .inl ⟨_, _, z1, z2, Option.some.inj h⟩
  · rename_i e1 e2
    rw [e1, Rp] at z1; rw [e2, Rp] at z2
    exact .inr (.inl ⟨_, _, z1, z2, Option.some.inj h⟩)
  · rename_i e2
    rw [e2, Rp] at z2
    exact .inr (.inr ⟨z2, (isNon_of z1).trans (Option.some.inj h)⟩)
  · cases h
theorem od_is : OpD K T rIsA dIs := fun H0 F H x y a b c Q ok up q1 q2 h k => by
  unfold dIs at h
  cases e : isB a b with
  | none => rw [e] at h; cases h
  | some z =>
    rw [e] at h
    cases h
    have w := k (.bl z) F H (Le.refl ok) (by rw [Rr, Rp])
    rcases isA_ok ok up q1 q2 e with ⟨i, j, h1, h2, h3⟩ | ⟨m, n, h1, h2, h3⟩ | ⟨h1, h2⟩
    · exact .inl ⟨i, j, h1, h2, by rw [h3]; exact w⟩
    · exact .inr (.inl ⟨m, n, h1, h2, by rw [h3]; exact w⟩)
    · exact .inr (.inr ⟨h1, by rw [h2]; exact w⟩)
theorem od_nis : OpD K T rNisA dNis := fun H0 F H x y a b c Q ok up q1 q2 h k => by
  unfold dNis at h
  cases e : isB a b with
  | none => rw [e] at h; cases h
  | some z =>
    rw [e] at h
    cases h
    have w := k (.bl (!z)) F H (Le.refl ok) (by rw [Rr, Rp])
    rcases isA_ok ok up q1 q2 e with ⟨i, j, h1, h2, h3⟩ | ⟨m, n, h1, h2, h3⟩ | ⟨h1, h2⟩
    · exact .inl ⟨i, j, h1, h2, by rw [h3]; exact w⟩
    · exact .inr (.inl ⟨m, n, h1, h2, by rw [h3]; exact w⟩)
    · exact .inr (.inr ⟨h1, by rw [h2]; exact w⟩)
/-! ### subscripts -/
theorem atI_len {H : Hp} {ds : List D} {vs : List V} {i : Int} {d : D} (h : RpL K H ds vs) (e : atI ds i = some d) : ∃ v, atI vs i = some v ∧ Rp K H d v := by
  unfold atI at e ⊢
  rw [← h.len]
  cases hk : ixN ds.length i with
  | none => rw [hk] at e; cases e
  | some j =>
    rw [hk] at e
    exact h.get e
def atR (i : Int) : R → Option R
  | .val (.lst xs) => (atI xs i).map .val
  | .val (.tup xs) => (atI xs i).map .val
  | .bor xs => (atI xs i).map .val
  | .brw (.lst xs) => (atI xs i).map nrm
  | .brw (.tup xs) => (atI xs i).map nrm
  | .val (.str s) => if s.length ≤ 100000 then (atI s i).map fun c => .val (.str [c]) else none
  | _ => none
def dIx : R → R → Option R
  | a, .val (.int i) => atR i a
  | _, _ => none
theorem od_ix : OpD K T (rIx K) dIx := fun H0 F H x y a b c Q ok up q1 q2 h k => by
  unfold dIx at h
  split at h
  · rename_i i
    have ey := rq_int q2
    unfold atR at h
    split at h
    · rename_i xs
      cases e : atI xs i with
      | none => rw [e] at h; cases h
      | some d =>
        rw [e] at h; cases h
        rw [Rq, Rp] at q1
        obtain ⟨p, vs, h1, h2, h3⟩ := q1
        obtain ⟨v, h4, h5⟩ := atI_len h3 e
        exact .inl ⟨p, vs, i, v, h1, ey, ok.sub.l h2, h4, k _ F H (Le.refl ok) h5⟩
    · rename_i xs
      cases e : atI xs i with
      | none => rw [e] at h; cases h
      | some d =>
        rw [e] at h; cases h
        rw [Rq, Rp] at q1
        obtain ⟨p, vs, h1, h2, h3⟩ := q1
        obtain ⟨v, h4, h5⟩ := atI_len h3 e
        exact .inr (.inl ⟨p, vs, i, v, h1, ey, ok.sub.t h2, h4, k _ F H (Le.refl ok) h5⟩)
    · rename_i xs
      cases e : atI xs i with
      | none => rw [e] at h; cases h
      | some d =>
        rw [e] at h; cases h
        obtain ⟨p, vs, h1, _, _, h2, h3⟩ := q1
        obtain ⟨v, h4, h5⟩ := atI_len h3 e
        exact .inl ⟨p, vs, i, v, h1, ey, .inl (.inl h2), h4, k _ F H (Le.refl ok) h5⟩
    · rename_i xs
      cases e : atI xs i with
      | none => rw [e] at h; cases h
      | some d =>
        rw [e] at h; cases h
        rw [Rq, Rp] at q1
        obtain ⟨p, vs, h1, h2, h3⟩ := q1
        obtain ⟨v, h4, h5⟩ := atI_len h3 e
        refine .inl ⟨p, vs, i, v, h1, ey, up.l h2, h4, k _ F H (Le.refl ok) (rr_nrm h5)⟩
    · rename_i xs
      cases e : atI xs i with
      | none => rw [e] at h; cases h
      | some d =>
        rw [e] at h; cases h
        rw [Rq, Rp] at q1
        obtain ⟨p, vs, h1, h2, h3⟩ := q1
        obtain ⟨v, h4, h5⟩ := atI_len h3 e
        refine .inr (.inl ⟨p, vs, i, v, h1, ey, up.t h2, h4, k _ F H (Le.refl ok) (rr_nrm h5)⟩)
    · rename_i s
      split at h
      · rename_i hl
        cases e : atI s i with
        | none => rw [e] at h; cases h
        | some d =>
          rw [e] at h; cases h
          refine .inr (.inr ⟨tx s, i, d, rq_str q1, ey, by rw [tx_len]; exact sz hl, by rw [tx_list]; exact e, ?_⟩)
          exact k _ F H (Le.refl ok) (by rw [Rr, Rp]; rfl)
      · cases h
    · cases h
  · cases h
end
end Fw
namespace Fw
open PySem PySem.Spec PyProof.Rows L2
section
variable {X : Cx} {T : List Addr} {W : WX} {K : PySem.W.Frag} {a b e o : Expr} {fa fb : Env → O R} {es : List Expr} {pos p2 apos : Pos} {x name : Str}
/-! ### slices -/
def fPart (f : Env → O R) : Env → O (Option Int) := fun es => (f es).bind fun r => match r with
  | .val (.int i) => .ok (some i)
  | _ => .no
def fNoPart : Env → O (Option Int) := fun _ => .ok none
def tDO (K : PySem.W.Frag) (T : List Addr) (W : WX) (f : Env → O (Option Int)) : TO := fun σ H Q => ∃ F0 H0 F es, StOk K T F0 H0 F H σ es ∧ PO K T W F H σ (fun _ _ b a => b = a) Q (f es)
def DO (X : Cx) (T : List Addr) (W : WX) (e : Option Expr) (f : Env → O (Option Int)) : Prop := L2.PO X e (tDO X.K T W f)
theorem po_weak {e : Option Expr} {t t' : TO} (h : L2.PO X e t) (w : ∀ σ H Q, t' σ H Q → t σ H Q) : L2.PO X e t' := ⟨fun pins s σ H Q I q => h.run pins s σ H Q I (w σ H Q q)⟩
theorem do_none : DO X T W none fNoPart := po_weak po_none fun σ H Q ⟨F0, H0, F, es, st, h⟩ => h none F H (Le.refl st.ok) rfl
theorem do_some (h : DE X T W e fa) : DO X T W (some e) (fPart fa) := po_weak (po_some h) fun σ H Q ⟨F0, H0, F, es, st, h⟩ => by
  refine ⟨F0, H0, F, es, st, po_seq (rel' := fun _ _ b a => b = a) st h (fun _ _ _ _ _ _ _ z => z) fun r v F1 H1 _ st1 l1 q1 h1 => ?_⟩
  split at h1
  · rename_i i _
    exact ⟨i, rq_int (T := T) (H0 := H0) (F := F1) (H := H1) q1, h1 _ F1 H1 (Le.refl st1.ok) rfl⟩
  · exact h1.elim
def cutL {α : Type} (xs : List α) (lo hi : Option Int) : List α := (xs.drop (HT.sIx xs.length 0 lo)).take (HT.sIx xs.length xs.length hi - HT.sIx xs.length 0 lo)
theorem cutL_rp {H : Hp} {ds : List D} {vs : List V} (h : RpL K H ds vs) (lo hi : Option Int) : RpL K H (cutL ds lo hi) (cutV vs lo hi) := by
  unfold cutL cutV
  rw [h.len]
  exact (h.drop _).take _
theorem cutS_tx (s : List Nat) (lo hi : Option Int) : cutS (tx s) lo hi = tx (cutL s lo hi) := by
  unfold cutS cutL
  rw [tx_list, tx_len]; rfl
def dSl (r : R) (lo hi : Option Int) : Option R := match r with
  | .val (.str s) => if s.length ≤ 100000 then some (.val (.str (cutL s lo hi))) else none
  | r => (r.itmL).map fun xs => .new (cutL xs lo hi)
def rSlQ (K : PySem.W.Frag) : V → Option Int → Option Int → Hp → VK → Prop := fun x lo hi H Q => rSlL K x lo hi H Q ∨ rSlS x lo hi H Q
theorem sl_q : SlR X (rSlQ X.K) := SlR.or sl_list sl_str
def fSl (fa : Env → O R) (lo hi : Env → O (Option Int)) : Env → O R := fun es => (fa es).bind fun r => (lo es).bind fun l => (hi es).bind fun h => O.of (dSl r.fz l h)
/-- a part first -/
theorem po_part {F0 H0 F H : Hp} {σ : L2.St} {es : Env} {Q : VK} {Q' : Option Int → Hp → Prop} {o : O (Option Int)} {g : Option Int → O R} (st : StOk K T F0 H0 F H σ es) (h : PO K T W F H σ (Rr K T H0 H) Q (o.bind g))
    (k : ∀ b F1 H1, o = .ok b → StOk K T F0 H0 F1 H1 σ es → Le T F H F1 H1 → PO K T W F1 H1 σ (Rr K T H0 H1) Q (g b) → Q' b H1) : PO K T W F H σ (fun _ _ b a => b = a) Q' o := by
  cases o with
  | ok a =>
    intro v F1 H1 l q
    subst q
    exact k v F1 H1 rfl (st.step l) l (PO.step h l fun _ _ _ _ => Rr.back l)
  | exc c fs => exact h
  | no => exact h
theorem de_slice {lo hi : Option Expr} {fl fh : Env → O (Option Int)} (ha : DE X T W e fa) (hl : DO X T W lo fl) (hh : DO X T W hi fh) : DE X T W (.Subscript e (.Slice lo hi none p2) pos) (fSl fa fl fh) :=
  pe_weak (pe_slice sl_q ha hl hh) fun σ H Q ⟨F0, H0, F, es, st, h⟩ => by
    refine ⟨F0, H0, F, es, st, pr_seq st h fun r v F1 H1 _ st1 l1 q1 h1 => ?_⟩
    refine ⟨F0, H0, F1, es, st1, po_part st1 h1 fun lo F2 H2 _ st2 l2 h2 => ?_⟩
    refine ⟨F0, H0, F2, es, st2, po_part st2 h2 fun hi F3 H3 _ st3 l3 h3 => ?_⟩
    have q := (q1.step l2).step l3
    cases hd : dSl r.fz lo hi with
    | none => rw [hd] at h3; exact h3.elim
    | some c =>
      rw [hd] at h3
      generalize r.fz = r' at hd q
      unfold dSl at hd
      split at hd
      · rename_i s
        split at hd
        · rename_i hz
          cases hd
          refine .inr ⟨_, rq_str q, by rw [tx_len]; exact sz hz, ?_⟩
          rw [cutS_tx]
          exact h3 _ F3 H3 (Le.refl st3.ok) (by rw [Rr, Rp])
        · cases hd
      · cases e : r'.itmL with
        | none => rw [e] at hd; cases hd
        | some xs =>
          rw [e] at hd
          cases hd
          obtain ⟨p, vs, rfl, s1, r1⟩ := q.itmL st3.ok st3.up e
          refine .inl ⟨p, vs, rfl, s1, fun z hz => ?_⟩
          exact h3 _ F3 _ (Le.newH st3.ok hz) (rr_lst st3.ok hz (cutL_rp r1 lo hi))
/-- xs[::-1] -/
def fRev (fa : Env → O R) : Env → O R := fun es => (fa es).bind fun r => match r.fz.itmL with
  | some xs => .ok (.new xs.reverse)
  | none => .no
theorem de_rev {k : Nat} {p1 p2 p3 : Pos} (ha : DE X T W e fa) : DE X T W (.Subscript e (.Slice none none (some (.UnaryOp .USub (.Constant (.int 1) k p1) p2)) p3) pos) (fRev fa) :=
  pe_weak (pe_revL ha) fun σ H Q ⟨F0, H0, F, es, st, h⟩ => by
    refine ⟨F0, H0, F, es, st, pr_seq st h fun r v F1 H1 _ st1 l1 q1 h1 => ?_⟩
    split at h1
    · rename_i xs e
      obtain ⟨p, vs, rfl, s1, r1⟩ := q1.itmL st1.ok st1.up e
      refine ⟨p, vs, rfl, s1, fun z hz => ?_⟩
      exact h1 _ F1 _ (Le.newH st1.ok hz) (rr_lst st1.ok hz r1.rev)
    · exact h1.elim
/-! ### defs -/
/-- a def by what it is on data -/
def spD (K : PySem.W.Frag) (T : List Addr) (n : Nat) (g : List D → O R) : Sp := fun vs H Q E => ∃ F ds, vs.length = n ∧ Ok T F H ∧ RpL K H ds vs ∧ match g ds with
  | .ok (.val d) => ∀ v F' H', Le T F H F' H' → Rr K T H H F' H' v (.val d) → Q v H'
  | .ok (.new xs) => ∀ v F' H', Le T F H F' H' → Rr K T H H F' H' v (.new xs) → Q v H'
  | .exc c fs => ∀ cls d F' H', Le T F H F' H' → XOk K H' c fs cls d → E cls d H'
  | _ => False
def fCall (g : List D → O R) (fr : Env → O (List R)) : Env → O R := fun es => (fr es).bind fun rs => match g (rs.map R.dat) with
  | .ok (.val d) => .ok (.val d)
  | .ok (.new xs) => .ok (.new xs)
  | .exc c fs => .exc c fs
  | _ => .no
/-- a def's call, from its promise; Ec: what is wanted of an exception -/
theorem call_weak {n : Nat} {g : List D → O R} {fr : Env → O (List R)} {Ec : L2.St → XK} {σ : L2.St} {H : Hp} {Q : VK} (hx : ∀ cls d H', W cls d σ H' → Ec σ cls d H') (hn : ∀ es rs, fr es = .ok rs → rs.length = n)
    (h : tD K T W (fCall g fr) σ H Q) : tDA K T W fr σ H fun vs H1 => spD K T n g vs H1 Q (Ec σ) := by
  obtain ⟨F0, H0, F, es, st, h⟩ := h
  refine ⟨F0, H0, F, es, st, pa_seq st h fun rs vs F1 H1 hrs st1 l1 q1 h1 => ?_⟩
  refine ⟨F1, rs.map R.dat, by rw [← q1.len]; exact hn es rs hrs, st1.ok, q1.toH st1.ok st1.up, ?_⟩
  cases hg : g (rs.map R.dat) with
  | no => rw [hg] at h1; exact h1
  | exc c fs =>
    rw [hg] at h1
    exact fun cls d F' H' l q => hx cls d H' (h1 cls d F' H' l q)
  | ok r =>
    rw [hg] at h1
    cases r with
    | val d => exact fun v F' H' l q => h1 v F' H' l q
    | new xs => exact fun v F' H' l q => h1 v F' H' l q
    | brw d => exact h1
    | bor xs => exact h1
/-- how many arguments -/
theorem fCons_len {fa : Env → O R} {fr : Env → O (List R)} {n : Nat} (h : ∀ es rs, fr es = .ok rs → rs.length = n) : ∀ es rs, fCons fa fr es = .ok rs → rs.length = n + 1 := by
  intro es rs e
  unfold fCons at e
  cases ha : fa es with
  | ok r =>
    rw [ha] at e
    cases hr : fr es with
    | ok l =>
      rw [hr] at e
      cases e
      show l.length + 1 = n + 1
      rw [h es l hr]
    | exc c fs => rw [hr] at e; cases e
    | no => rw [hr] at e; cases e
  | exc c fs => rw [ha] at e; cases e
  | no => rw [ha] at e; cases e
theorem fNil_len : ∀ es rs, fNil es = .ok rs → rs.length = 0 := by
  intro es rs e
  cases e
  rfl
/-- a call where nothing is raised -/
def fCall0 (g : List D → O R) (fr : Env → O (List R)) : Env → O R := fun es => (fr es).bind fun rs => match g (rs.map R.dat) with
  | .ok (.val d) => .ok (.val d)
  | .ok (.new xs) => .ok (.new xs)
  | _ => .no
theorem call0_weak {n : Nat} {g : List D → O R} {fr : Env → O (List R)} {Ec : XK} {σ : L2.St} {H : Hp} {Q : VK} (hn : ∀ es rs, fr es = .ok rs → rs.length = n)
    (h : tD K T W (fCall0 g fr) σ H Q) : tDA K T W fr σ H fun vs H1 => spD K T n g vs H1 Q Ec := by
  obtain ⟨F0, H0, F, es, st, h⟩ := h
  refine ⟨F0, H0, F, es, st, pa_seq st h fun rs vs F1 H1 hrs st1 l1 q1 h1 => ?_⟩
  refine ⟨F1, rs.map R.dat, by rw [← q1.len]; exact hn es rs hrs, st1.ok, q1.toH st1.ok st1.up, ?_⟩
  cases hg : g (rs.map R.dat) with
  | no => rw [hg] at h1; exact h1
  | exc c fs => rw [hg] at h1; exact h1.elim
  | ok r =>
    rw [hg] at h1
    cases r with
    | val d => exact fun v F' H' l q => h1 v F' H' l q
    | new xs => exact fun v F' H' l q => h1 v F' H' l q
    | brw d => exact h1
    | bor xs => exact h1
/-- f(..), nothing raised -/
theorem de_call {CX : CXT} {Ec : XK} {k n : Nat} {f : Addr} {fd : FuncData} {ps : List Str} {g : List D → O R} {fr : Env → O (List R)} {pos p : Pos} (F : FnOk X.prog X.w X.K X.mg X.base CX k f fd ps (spD X.K T n g)) (hx : Passes CX X Ec) (hr : Room k X.A) (hm : X.mg x = some (.ref f))
    (hk : PySem.W.keepIn X.K (.ref f) = true) (hb : Binds X.K fd ps []) (ha : DA X T W (e :: es) fr) (hn : ∀ es rs, fr es = .ok rs → rs.length = n) (hg : Gl X x := by rfl) (hdb : (x == ("__debug__" : Str)) = false := by decide)
    (he : starEach (e :: es) X.env = (false, eval e X.env) :: starEach es X.env := by rfl) (hpl : (backTo pos (starEach es X.env)).any (·.1) = false := by rfl) : DE X T W (.Call (.Name x p) (e :: es) [] pos) (fCall0 g fr) :=
  pe_weak (pe_call F hr hg hm hk hb .nil hx ha hdb he hpl) fun σ H Q h => by
    show tDA _ _ _ _ _ _ _
    have z := call0_weak (n := n) (Ec := Ec) hn h
    obtain ⟨F0, H0, F, es, st, z⟩ := z
    refine ⟨F0, H0, F, es, st, ?_⟩
    cases ho : fr es with
    | no => rw [ho] at z; exact z
    | exc c fs => rw [ho] at z; exact z
    | ok rs =>
      rw [ho] at z
      intro vs F' H' l q
      rw [List.append_nil]
      exact z vs F' H' l q
/-! ### built-ins by values -/
def CallD (K : PySem.W.Frag) (T : List Addr) (r : List V → Hp → VK → Prop) (d : List R → Option R) : Prop :=
  ∀ (H0 F H : Hp) (vs : List V) (rs : List R) (c : R) (Q : VK), Ok T F H → Up K H0 H → RqL K T H0 F H rs vs → d rs = some c → (∀ v F' H', Le T F H F' H' → Rr K T H0 H F' H' v c → Q v H') → r vs H Q
def fBi (d : List R → Option R) (fr : Env → O (List R)) : Env → O R := fun es => (fr es).bind fun rs => O.of (d rs)
theorem bi_weak {r : List V → Hp → VK → Prop} {d : List R → Option R} {fr : Env → O (List R)} (hd : CallD K T r d) {σ : L2.St} {H : Hp} {Q : VK} (h : tD K T W (fBi d fr) σ H Q) : tCB r (tDA K T W fr) σ H Q := by
  obtain ⟨F0, H0, F, es, st, h⟩ := h
  refine ⟨F0, H0, F, es, st, pa_seq st h fun rs vs F1 H1 _ st1 l1 q1 h1 => ?_⟩
  cases hc : d rs with
  | none => rw [hc] at h1; exact h1.elim
  | some c =>
    rw [hc] at h1
    exact hd H0 F1 H1 vs rs c Q st1.ok st1.up q1 hc h1
theorem de_bi {id : String} {r : List V → Hp → VK → Prop} {d : List R → Option R} {fr : Env → O (List R)} {pos p : Pos} (hc : CallR X (.builtin id) r) (hd : CallD X.K T r d) (hm : X.mg x = none) (hv : bootBuiltins x = some (.builtin id)) (ha : DA X T W (e :: es) fr)
    (hg : Gl X x := by rfl) (hn : x ≠ "__name__" := by decide) (hdb : (x == ("__debug__" : Str)) = false := by decide) (he : starEach (e :: es) X.env = (false, eval e X.env) :: starEach es X.env := by rfl) (hpl : (backTo pos (starEach es X.env)).any (·.1) = false := by rfl) :
    DE X T W (.Call (.Name x p) (e :: es) [] pos) (fBi d fr) := pe_weak (pe_callB hc hg hm hv ha hn hdb he hpl) fun σ H Q h => bi_weak hd h
theorem de_biT {ty : String} {r : List V → Hp → VK → Prop} {d : List R → Option R} {fr : Env → O (List R)} {pos p : Pos} (hc : CallR X (.type ty) r) (hd : CallD X.K T r d) (hm : X.mg x = none) (hv : bootBuiltins x = some (.type ty)) (ha : DA X T W (e :: es) fr)
    (hg : Gl X x := by rfl) (hn : x ≠ "__name__" := by decide) (hdb : (x == ("__debug__" : Str)) = false := by decide) (he : starEach (e :: es) X.env = (false, eval e X.env) :: starEach es X.env := by rfl) (hpl : (backTo pos (starEach es X.env)).any (·.1) = false := by rfl) :
    DE X T W (.Call (.Name x p) (e :: es) [] pos) (fBi d fr) := pe_weak (pe_callTy hc hg hm hv ha hn hdb he hpl) fun σ H Q h => bi_weak hd h
end
end Fw
namespace Fw
open PySem PySem.Spec PyProof.Rows L2
section
variable {X : Cx} {T : List Addr} {W : WX} {K : PySem.W.Frag}
theorem rql1 {H0 F H : Hp} {r : R} {vs : List V} (q : RqL K T H0 F H [r] vs) : ∃ v, vs = [v] ∧ Rq K T H0 F H v r := by
  obtain ⟨v, t, h1, h2, h3⟩ := q
  cases h3
  exact ⟨v, h1, h2⟩
theorem rql2 {H0 F H : Hp} {r u : R} {vs : List V} (q : RqL K T H0 F H [r, u] vs) : ∃ v w, vs = [v, w] ∧ Rq K T H0 F H v r ∧ Rq K T H0 F H w u := by
  obtain ⟨v, t, h1, h2, h3⟩ := q
  obtain ⟨w, rfl, h4⟩ := rql1 h3
  exact ⟨v, w, h1, h2, h4⟩
/-! ### len -/
def lenD : D → Option Int
  | .str s => if s.length ≤ 100000 then some s.length else none
  | .lst xs => some xs.length
  | .tup xs => some xs.length
  | _ => none
def dLen : List R → Option R
  | [r] => (lenD r.dat).map fun n => .val (.int n)
  | _ => none
theorem cd_len : CallD K T (fun xs H Q => ∃ x n, xs = [x] ∧ LenV K x H n ∧ Q (.int n) H) dLen := fun H0 F H vs rs c Q ok up q h k => by
  unfold dLen at h
  split at h
  · rename_i r
    obtain ⟨v, rfl, q1⟩ := rql1 q
    have z := q1.toH ok up
    cases e : lenD r.dat with
    | none => rw [e] at h; cases h
    | some n =>
      rw [e] at h
      cases h
      have w := k (.int n) F H (Le.refl ok) (by rw [Rr, Rp])
      unfold lenD at e
      split at e
      · rename_i s es
        split at e
        · rename_i hl
          cases e
          rw [es, Rp] at z
          subst z
          exact ⟨_, s.length, rfl, ⟨by rw [tx_len]; exact sz hl, (tx_len s).symm⟩, w⟩
        · cases e
      · rename_i s es
        cases e
        rw [es, Rp] at z
        obtain ⟨p, us, rfl, h2, h3⟩ := z
        exact ⟨_, s.length, rfl, .inl ⟨us, h2, h3.len⟩, w⟩
      · rename_i s es
        cases e
        rw [es, Rp] at z
        obtain ⟨p, us, rfl, h2, h3⟩ := z
        exact ⟨_, s.length, rfl, .inr ⟨us, h2, h3.len⟩, w⟩
      · cases e
  · cases h
/-! ### type, isinstance -/
def tyD : D → Option String
  | .non => some "NoneType"
  | .bl _ => some "bool"
  | .int _ => some "int"
  | .str _ => some "str"
  | .lst _ => some "list"
  | .tup _ => some "tuple"
  | _ => none
def tyD2 : D → Option String
  | .emp => some "dict"
  | d => tyD d
def dType : List R → Option R
  | [r] => (tyD2 r.dat).map fun n => .val (.ty n)
  | _ => none
theorem tyB_of {H : Hp} {d : D} {v : V} {n : String} (h : Rp K H d v) (e : tyD d = some n) : TyB K H v n := by
  cases d <;> simp only [tyD] at e <;> cases e <;> rw [Rp] at h
  · subst h; exact .non
  · subst h; exact .bl _
  · subst h; exact .int _
  · subst h; exact .str _
  · obtain ⟨a, vs, rfl, h2, _⟩ := h; exact .lst h2
  · obtain ⟨a, vs, rfl, h2, _⟩ := h; exact .tup h2
theorem tyB_of2 {H : Hp} {d : D} {v : V} {n : String} (h : Rp K H d v) (e : tyD2 d = some n) : TyB K H v n := by
  cases d <;> first | exact tyB_of h e | skip
  cases e
  rw [Rp] at h
  obtain ⟨a, rfl, h2⟩ := h
  exact .dK h2
theorem cd_type : CallD K T (rTyp K) dType := fun H0 F H vs rs c Q ok up q h k => by
  unfold dType at h
  split at h
  · rename_i r
    obtain ⟨v, rfl, q1⟩ := rql1 q
    cases e : tyD2 r.dat with
    | none => rw [e] at h; cases h
    | some n =>
      rw [e] at h
      cases h
      exact ⟨v, n, rfl, tyB_of2 (q1.toH ok up) e, k _ F H (Le.refl ok) (by rw [Rr, Rp])⟩
  · cases h
/-- isinstance of plain data and a built-in class -/
def isiB (a n : String) : Option Bool :=
  if n = "bool" then some (decide (a = "bool"))
  else if n = "int" then some (decide (a = "int") || decide (a = "bool"))
  else if n = "str" then some (decide (a = "str"))
  else if n = "list" then some (decide (a = "list"))
  else if n = "tuple" then some (decide (a = "tuple"))
  else none
def tyNames : List String := ["NoneType", "bool", "int", "str", "list", "tuple"]
theorem isiB_kit : ∀ a ∈ tyNames, ∀ n ∈ ["bool", "int", "str", "list", "tuple"], ∀ k, isiB a n = some k → kitB a n = some k := by
  have h : (tyNames.all fun a => ["bool", "int", "str", "list", "tuple"].all fun n => match isiB a n with
    | some k => decide (kitB a n = some k)
    | none => true) = true := by decide +kernel
  intro a ha n hn k hk
  have h1 := List.all_eq_true.mp h a ha
  have h2 := List.all_eq_true.mp h1 n hn
  rw [hk] at h2
  exact of_decide_eq_true h2
theorem isiB_n {a n : String} {k : Bool} (h : isiB a n = some k) : n ∈ ["bool", "int", "str", "list", "tuple"] := by
  unfold isiB at h
  by_cases h1 : n = "bool"
  · simp [h1]
  by_cases h2 : n = "int"
  · simp [h2]
  by_cases h3 : n = "str"
  · simp [h3]
  by_cases h4 : n = "list"
  · simp [h4]
  by_cases h5 : n = "tuple"
  · simp [h5]
  · simp [h1, h2, h3, h4, h5] at h
theorem tyD_n {d : D} {a : String} (h : tyD d = some a) : a ∈ tyNames := by
  cases d <;> simp only [tyD] at h <;> cases h <;> simp [tyNames]
def dIsi : List R → Option R
  | [r, .val (.ty n)] => match tyD r.dat with
    | some a => (isiB a n).map fun k => .val (.bl k)
    | none => none
  | _ => none
theorem tyX_of {H : Hp} {d : D} {v : V} {n : String} (h : Rp K H d v) (e : tyD d = some n) : TyX K H v (.type n) := by
  cases d <;> simp only [tyD] at e <;> cases e <;> rw [Rp] at h
  · subst h; exact .base .non
  · subst h; exact .base (.bl _)
  · subst h; exact .base (.int _)
  · subst h; exact .base (.str _)
  · obtain ⟨a, vs, rfl, h2, _⟩ := h
    rcases h2 with (h2 | ⟨o, h2⟩) | ⟨o, its, n, h2, h3, _⟩
    · exact .base (.lst h2)
    · exact .base (.frz h2)
    · exact .kList h2 h3
  · obtain ⟨a, vs, rfl, h2, _⟩ := h
    rcases h2 with (h2 | ⟨o, h2⟩) | ⟨o, its, n, h2, h3, _⟩
    · exact .base (.tup h2)
    · exact .fTuple h2
    · exact .kTuple h2 h3
theorem cd_isi : CallD K T (rIsi K) dIsi := fun H0 F H vs rs c Q ok up q h k => by
  unfold dIsi at h
  split at h
  · rename_i r n
    obtain ⟨v, w, rfl, q1, q2⟩ := rql2 q
    split at h
    · rename_i a ea
      cases e : isiB a n with
      | none => rw [e] at h; cases h
      | some b =>
        rw [e] at h
        cases h
        rw [Rq, Rp] at q2
        exact ⟨v, w, .type a, .type n, b, rfl, by rw [q2]; exact .ty n, tyX_of (q1.toH ok up) ea, kit_ty (isiB_kit a (tyD_n ea) n (isiB_n e) b e), k _ F H (Le.refl ok) (by rw [Rr, Rp])⟩
    · cases h
  · cases h
/-! ### int -/
/-- a text of one figure -/
def numS : List Nat → Option Int
  | [c] => if 48 ≤ c ∧ c ≤ 57 then some ((c : Int) - 48) else none
  | _ => none
theorem numS_ok {s : List Nat} {n : Int} (h : numS s = some n) : PySem.intText? (tx s) = some n := by
  unfold numS at h
  split at h
  · rename_i c
    split at h
    · rename_i hc
      cases h
      have : ∀ c, c ≤ 57 → 48 ≤ c → PySem.intText? (tx [c]) = some ((c : Int) - 48) := by
        have h : ((List.range 58).all fun c => decide (48 ≤ c → PySem.intText? (tx [c]) = some ((c : Int) - 48))) = true := by decide +kernel
        intro c h1 h2
        exact of_decide_eq_true (List.all_eq_true.mp h c (List.mem_range.mpr (by omega))) h2
      exact this c hc.2 hc.1
    · cases h
  · cases h
def dInt : List R → Option R
  | [.val (.int i)] => some (.val (.int i))
  | [.val (.bl b)] => some (.val (.int (if b then 1 else 0)))
  | [.val (.str s)] => if s.length ≤ 600 then (numS s).map fun n => .val (.int n) else none
  | _ => none
def rIntA : List V → Hp → VK → Prop := fun xs H Q => ((fun xs H Q => (∃ i, xs = [V.int i] ∧ Q (.int i) H) ∨ ∃ k, xs = [V.bl k] ∧ Q (.int (if k then 1 else 0)) H : List V → Hp → VK → Prop) xs H Q) ∨
  ((fun xs H Q => ∃ a n, xs = [V.str a] ∧ PySem.intText? a = some n ∧ a.length ≤ 640 ∧ Q (.int n) H : List V → Hp → VK → Prop) xs H Q)
theorem call_intA : CallR X (.type "int") rIntA := fun pins s σ H xs us Q I r h => by
  rcases h with h | h
  · exact call_int1 pins s σ H xs us Q I r h
  · exact call_int_str pins s σ H xs us Q I r h
theorem cd_int : CallD K T rIntA dInt := fun H0 F H vs rs c Q ok up q h k => by
  unfold dInt at h
  split at h
  · obtain ⟨v, rfl, q1⟩ := rql1 q
    cases h
    exact .inl (.inl ⟨_, by rw [rq_int q1], k _ F H (Le.refl ok) (by rw [Rr, Rp])⟩)
  · obtain ⟨v, rfl, q1⟩ := rql1 q
    cases h
    exact .inl (.inr ⟨_, by rw [rq_bl q1], k _ F H (Le.refl ok) (by rw [Rr, Rp])⟩)
  · rename_i s
    split at h
    · rename_i hl
      obtain ⟨v, rfl, q1⟩ := rql1 q
      cases e : numS s with
      | none => rw [e] at h; cases h
      | some n =>
        rw [e] at h
        cases h
        exact .inr ⟨tx s, n, by rw [rq_str q1], numS_ok e, by rw [tx_len]; omega, k _ F H (Le.refl ok) (by rw [Rr, Rp])⟩
    · cases h
  · cases h
/-! ### list(xs) -/
def signsD (s : List Nat) : List D := s.map fun c => .str [c]
theorem signs_rp {H : Hp} : ∀ s : List Nat, RpL K H (signsD s) (s.map fun c => V.str ⟨#[c]⟩)
  | [] => RpL.nil
  | c :: s => RpL.cons (by rw [Rp]; rfl) (signs_rp s)
def dList : List R → Option R
  | [.val (.str s)] => if s.length ≤ 100000 then some (.new (signsD s)) else none
  | [r] => r.itm.map .new
  | _ => none
def rListA (K : PySem.W.Frag) : List V → Hp → VK → Prop := fun xs H Q => (∃ p ys, xs = [V.ref p] ∧ (SqL K H p ys ∨ SqT K H p ys) ∧ ∀ l, H l = none → Q (.ref l) (upd H l (.lst ys))) ∨
  ∃ z, xs = [V.str z] ∧ z.length ≤ sizeLine ∧ ∀ l, H l = none → Q (.ref l) (upd H l (.lst (z.cps.toList.map fun c => V.str ⟨#[c]⟩)))
theorem signs_vals {z : Str} {us : List Value} (hl : us.length = z.cps.size) (h : ∀ (i : Nat) (u : Value), us[i]? = some u → ∃ (c : Nat) (t : Tok), z.cps[i]? = some c ∧ u = Value.str ⟨#[c]⟩ t) : Vals (z.cps.toList.map fun c => V.str ⟨#[c]⟩) us := by
  have e : (z.cps.toList.map fun c => V.str ⟨#[c]⟩) = (List.range us.length).map fun i => V.str ⟨#[z.cps.toList.getD i 0]⟩ := by
    rw [hl]
    apply List.ext_getElem
    · simp
    · intro i h1 h2
      simp at h1
      simp [h1]
  rw [e]
  refine vals_of_get us _ fun j u hj => ?_
  obtain ⟨c, t, h1, h2⟩ := h j u hj
  subst h2
  refine ⟨t, ?_⟩
  have : z.cps.toList.getD j 0 = c := by simp [h1]
  rw [this]
theorem call_listA (hc : X.calm = true) : CallR X (.type "list") (rListA X.K) := fun pins s σ H xs us Q I r h => by
  rcases h with h | ⟨z, rfl, hz, q⟩
  · exact call_list_of pins s σ H xs us Q I r h
  · obtain ⟨u, rfl, rx⟩ := vals1 r
    obtain ⟨t, rfl⟩ := rx
    refine call_list_str (I.ok.hd hc) z t (hn := hz) fun h' tk acc' c' hk hS hacc => ?_
    have hv : Vals (z.cps.toList.map fun c => V.str ⟨#[c]⟩) acc'.toList := signs_vals (by rw [Array.length_toList]; exact hacc.1) fun i u hu => hacc.2 i u (by rw [← Array.getElem?_toList]; exact hu)
    refine ⟨.ref s.heap.objs.size, _, I.laid (o := .lst (z.cps.toList.map fun c => V.str ⟨#[c]⟩)) hk (Nat.le_refl _) ⟨?_, acc'.toList, c', hv, ?_⟩, rfl, q _ I.fresh⟩
    · rw [List.length_map, Array.length_toList]; exact hz
    · rw [Array.toArray_toList]; exact hS
theorem cd_list : CallD K T (rListA K) dList := fun H0 F H vs rs c Q ok up q h k => by
  unfold dList at h
  split at h
  · rename_i s
    split at h
    · rename_i hl
      cases h
      obtain ⟨v, rfl, q1⟩ := rql1 q
      refine .inr ⟨tx s, by rw [rq_str q1], by rw [tx_len]; exact sz hl, fun p hp => ?_⟩
      rw [tx_list]
      exact k _ F _ (Le.newH ok hp) (rr_lst ok hp (signs_rp s))
    · cases h
  · rename_i r _
    obtain ⟨v, rfl, q1⟩ := rql1 q
    cases e : r.itm with
    | none => rw [e] at h; cases h
    | some xs =>
      rw [e] at h
      cases h
      obtain ⟨p, us, rfl, h1, h2⟩ := q1.itm ok up e
      exact .inl ⟨p, us, rfl, h1, fun l hl => k _ F _ (Le.newH ok hl) (rr_lst ok hl h2)⟩
  · cases h
end
end Fw
namespace Fw
open PySem PySem.Spec PyProof.Rows L2
/-! ### what is walked -/
section
variable {X : Cx} {tg : Expr} {pins : List (Addr × Obj)} {σ : L2.St} {H : Hp} {s : Shared} {Rk : It → Hp → Prop} {E : Value → Shared → Prop}
theorem it_list {a : Addr} {xs : List V} (I : Inv X pins σ H s) (hq : SqL X.K H a xs) (q : Rk (Itl X.K a) H) : wpAny (model X.prog X.w) X.A (pyIter (.ref a)) (PIE X pins σ tg Rk) E s := by
  obtain ⟨its, rv, p, hz⟩ := I.list hq
  exact wpAny_pyIter_list p.isList (pi_one (tk := s.toks) I _ (turn_list a _) ⟨_, Heap.get?_push_size _ rfl, rfl, rfl⟩ q)
theorem it_tup {a : Addr} {xs : List V} (I : Inv X pins σ H s) (hq : SqT X.K H a xs) (q : Rk (Itt X.K a) H) : wpAny (model X.prog X.w) X.A (pyIter (.ref a)) (PIE X pins σ tg Rk) E s := by
  obtain ⟨its, rv, p, hz⟩ := I.tuple hq
  exact wpAny_pyIter_tuple (show s.heap.IsTuple a its.toArray from p) (pi_one (tk := s.toks) I _ (turn_tuple a _) ⟨_, Heap.get?_push_size _ rfl, rfl, rfl⟩ q)
theorem it_str {x : Str} {t : Tok} (I : Inv X pins σ H s) (q : Rk (Its x) H) : wpAny (model X.prog X.w) X.A (pyIter (.str x t)) (PIE X pins σ tg Rk) E s := by
  cases ha : x.cps.all (· < 128)
  · exact wpAny_pyIter_wide ha (pi_one (tk := s.toks) I _ (turn_str _ x t "str_iterator" (.inr rfl)) ⟨_, Heap.get?_push_size _ rfl, rfl, rfl⟩ q)
  · exact wpAny_pyIter_ascii ha (pi_one (tk := s.toks) I _ (turn_str _ x t "str_ascii_iterator" (.inl rfl)) ⟨_, Heap.get?_push_size _ rfl, rfl, rfl⟩ q)
end
/-- the walk J gives the items xs, wherever S holds -/
def Src (K : PySem.W.Frag) (T : List Addr) (H0 : Hp) (S : Hp → Hp → Prop) (xs : List R) (J : It) : Prop := ∃ (G : Hp → Prop) (Y : Nat → Hp → V → Hp → Prop), Walk J xs.length G Y ∧ (∀ F2 H2, S F2 H2 → G H2) ∧
  ∀ i H2 x H3 F2, i < xs.length → S F2 H2 → Y i H2 x H3 → ∃ F3 r, xs[i]? = some r ∧ Le T F2 H2 F3 H3 ∧ Rq K T H0 F3 H3 x r
/-- fz: a loop's body may change lists of its own -/
def Sta (T : List Addr) (fz : Bool) (F0 H0 F' H' F2 H2 : Hp) : Prop := (if fz = true then Sub F' F2 else Le T F' H' F2 H2) ∧ Le T F0 H0 F2 H2
theorem Sta.f {T : List Addr} {fz : Bool} {F0 H0 F' H' F2 H2 : Hp} (s : Sta T fz F0 H0 F' H' F2 H2) : Sub F' F2 := by
  cases fz with
  | true => exact s.1
  | false => exact Le.f s.1
def tI (fz : Bool) (K : PySem.W.Frag) (T : List Addr) (W : WX) (f : Env → O (List R)) : TI := fun σ H Rk => ∃ F0 H0 F es, StOk K T F0 H0 F H σ es ∧ PO K T W F H σ (fun F' H' (J : It) xs => Src K T H0 (Sta T fz F0 H0 F' H') xs J) Rk (f es)
def DI (fz : Bool) (X : Cx) (T : List Addr) (W : WX) (tg e : Expr) (f : Env → O (List R)) : Prop := PI X tg e (tI fz X.K T W f)
section
variable {X : Cx} {T : List Addr} {W : WX} {tg a b e : Expr} {fa fb : Env → O R} {pos p p2 : Pos} {fz : Bool}
/-- items that stand -/
def itmR (fz : Bool) : R → Option (List R)
  | .val (.lst xs) => some (xs.map .val)
  | .val (.tup xs) => some (xs.map .val)
  | .val (.str s) => some ((signsD s).map .val)
  | .brw (.lst xs) => some (xs.map nrm)
  | .brw (.tup xs) => some (xs.map nrm)
  | .bor xs => if fz then none else some (xs.map .val)
  | _ => none
theorem val_at {K : PySem.W.Frag} {F2 : Hp} {xs : List D} {vs : List V} {i : Nat} {x : V} (r : RpL K F2 xs vs) (h : vs[i]? = some x) {H0 H3 : Hp} : ∃ rr, (xs.map R.val)[i]? = some rr ∧ Rq K T H0 F2 H3 x rr := by
  obtain ⟨d, h1, h2⟩ := r.getV h
  exact ⟨.val d, by rw [List.getElem?_map, h1]; rfl, h2⟩
theorem src_val {K : PySem.W.Frag} {F0 H0 F' H' : Hp} {a : Addr} {xs : List D} {vs : List V} (hs : SqL K F' a vs) (r : RpL K F' xs vs) : Src K T H0 (Sta T fz F0 H0 F' H') (xs.map .val) (Itl K a) := by
  refine ⟨fun H => SqL K H a vs, YAt vs, by rw [List.length_map, r.len]; exact walk_list, fun F2 H2 s => s.2.ok.sub.l (s.f.l hs), fun i H2 x H3 F2 hi s ⟨e, y⟩ => ?_⟩
  subst e
  obtain ⟨rr, h1, h2⟩ := val_at (T := T) (r.mono s.f) y (H0 := H0) (H3 := H3)
  exact ⟨F2, rr, h1, Le.refl s.2.ok, h2⟩
theorem src_valT {K : PySem.W.Frag} {F0 H0 F' H' : Hp} {a : Addr} {xs : List D} {vs : List V} (hs : SqT K F' a vs) (r : RpL K F' xs vs) : Src K T H0 (Sta T fz F0 H0 F' H') (xs.map .val) (Itt K a) := by
  refine ⟨fun H => SqT K H a vs, YAt vs, by rw [List.length_map, r.len]; exact walk_tup, fun F2 H2 s => s.2.ok.sub.t (s.f.t hs), fun i H2 x H3 F2 hi s ⟨e, y⟩ => ?_⟩
  subst e
  obtain ⟨rr, h1, h2⟩ := val_at (T := T) (r.mono s.f) y (H0 := H0) (H3 := H3)
  exact ⟨F2, rr, h1, Le.refl s.2.ok, h2⟩
theorem nrm_at {K : PySem.W.Frag} {H0 F2 H3 : Hp} {xs : List D} {vs : List V} {i : Nat} {x : V} (r : RpL K H0 xs vs) (h : vs[i]? = some x) : ∃ rr, (xs.map nrm)[i]? = some rr ∧ Rq K T H0 F2 H3 x rr := by
  obtain ⟨d, h1, h2⟩ := r.getV h
  exact ⟨nrm d, by rw [List.getElem?_map, h1]; rfl, rq_nrm h2⟩
theorem src_brw {K : PySem.W.Frag} {F0 H0 F' H' : Hp} {a : Addr} {xs : List D} {vs : List V} (ok0 : Ok T F0 H0) (hs : SqL K H0 a vs) (r : RpL K H0 xs vs) : Src K T H0 (Sta T fz F0 H0 F' H') (xs.map nrm) (Itl K a) := by
  refine ⟨fun H => SqL K H a vs, YAt vs, by rw [List.length_map, r.len]; exact walk_list, fun F2 H2 s => s.2.l ok0.tab hs, fun i H2 x H3 F2 hi s ⟨e, y⟩ => ?_⟩
  subst e
  obtain ⟨rr, h1, h2⟩ := nrm_at (T := T) r y (F2 := F2) (H3 := H3)
  exact ⟨F2, rr, h1, Le.refl s.2.ok, h2⟩
theorem src_brwT {K : PySem.W.Frag} {F0 H0 F' H' : Hp} {a : Addr} {xs : List D} {vs : List V} (ok0 : Ok T F0 H0) (hs : SqT K H0 a vs) (r : RpL K H0 xs vs) : Src K T H0 (Sta T fz F0 H0 F' H') (xs.map nrm) (Itt K a) := by
  refine ⟨fun H => SqT K H a vs, YAt vs, by rw [List.length_map, r.len]; exact walk_tup, fun F2 H2 s => s.2.t ok0.tab hs, fun i H2 x H3 F2 hi s ⟨e, y⟩ => ?_⟩
  subst e
  obtain ⟨rr, h1, h2⟩ := nrm_at (T := T) r y (F2 := F2) (H3 := H3)
  exact ⟨F2, rr, h1, Le.refl s.2.ok, h2⟩
theorem src_bor {K : PySem.W.Frag} {F0 H0 F' H' : Hp} {a : Addr} {xs : List D} {vs : List V} (nt : a ∉ T) (hs : H' a = some (.lst vs)) (r : RpL K F' xs vs) : Src K T H0 (Sta T false F0 H0 F' H') (xs.map .val) (Itl K a) := by
  refine ⟨fun H => SqL K H a vs, YAt vs, by rw [List.length_map, r.len]; exact walk_list, fun F2 H2 s => ?_, fun i H2 x H3 F2 hi s ⟨e, y⟩ => ?_⟩
  · have l : Le T F' H' F2 H2 := s.1
    exact .inl (.inl (l.h a _ nt hs))
  · subst e
    obtain ⟨rr, h1, h2⟩ := val_at (T := T) (r.mono s.f) y (H0 := H0) (H3 := H3)
    exact ⟨F2, rr, h1, Le.refl s.2.ok, h2⟩
theorem src_str {K : PySem.W.Frag} {F0 H0 F' H' : Hp} {s : List Nat} : Src K T H0 (Sta T fz F0 H0 F' H') ((signsD s).map .val) (Its (tx s)) := by
  refine ⟨fun _ => True, fun i H v H' => H' = H ∧ ∃ c, (tx s).cps[i]? = some c ∧ v = V.str ⟨#[c]⟩, by
    have e : ((signsD s).map R.val).length = (tx s).cps.size := by simp [signsD, tx]
    rw [e]; exact walk_str, fun _ _ _ => trivial, fun i H2 x H3 F2 hi st ⟨e, c, h1, h2⟩ => ?_⟩
  subst e h2
  refine ⟨F2, .val (.str [c]), ?_, Le.refl st.2.ok, ?_⟩
  · have : s[i]? = some c := by simpa [tx] using h1
    simp [signsD, this]
  · rw [Rq, Rp]; rfl
def fIt (fz : Bool) (fa : Env → O R) : Env → O (List R) := fun es => (fa es).bind fun r => O.of (itmR fz r.fz)
theorem di_any (ha : DE X T W a fa) : DI fz X T W tg a (fIt fz fa) := by
  refine ⟨fun pins s σ H Rk I h => ?_⟩
  obtain ⟨F0, H0, F, es, st, h⟩ := h
  refine thn (ha.run pins s σ H (fun v H1 => ∃ J, Rk J H1 ∧ ((∃ a xs, v = V.ref a ∧ SqL X.K H1 a xs ∧ J = Itl X.K a) ∨ (∃ a xs, v = V.ref a ∧ SqT X.K H1 a xs ∧ J = Itt X.K a) ∨ (∃ z, v = V.str z ∧ J = Its z))) I ⟨F0, H0, F, es, st, po_seq (rel' := fun F' H' (J : It) xs => Src X.K T H0 (Sta T fz F0 H0 F' H') xs J) st h (fun _ _ _ _ _ _ _ z => z) fun r v F1 H1 _ st1 l1 q1 h1 => ?_⟩) fun u s1 ⟨v, H1, I1, rv, J, hR, q⟩ => ?_
  · cases hi : itmR fz r.fz with
    | none => rw [hi] at h1; exact h1.elim
    | some xs =>
      rw [hi] at h1
      have fin : ∀ J, Src X.K T H0 (Sta T fz F0 H0 F1 H1) xs J → Rk J H1 := fun J s => h1 J F1 H1 (Le.refl st1.ok) s
      generalize r.fz = r' at hi q1
      unfold itmR at hi
      split at hi
      · cases hi
        rw [Rq, Rp] at q1
        obtain ⟨a, vs, rfl, h2, h3⟩ := q1
        exact ⟨_, fin _ (src_val h2 h3), .inl ⟨a, vs, rfl, st1.ok.sub.l h2, rfl⟩⟩
      · cases hi
        rw [Rq, Rp] at q1
        obtain ⟨a, vs, rfl, h2, h3⟩ := q1
        exact ⟨_, fin _ (src_valT h2 h3), .inr (.inl ⟨a, vs, rfl, st1.ok.sub.t h2, rfl⟩)⟩
      · cases hi
        exact ⟨_, fin _ src_str, .inr (.inr ⟨_, rq_str q1, rfl⟩)⟩
      · cases hi
        rw [Rq, Rp] at q1
        obtain ⟨a, vs, rfl, h2, h3⟩ := q1
        exact ⟨_, fin _ (src_brw st1.ok0 h2 h3), .inl ⟨a, vs, rfl, st1.up.l h2, rfl⟩⟩
      · cases hi
        rw [Rq, Rp] at q1
        obtain ⟨a, vs, rfl, h2, h3⟩ := q1
        exact ⟨_, fin _ (src_brwT st1.ok0 h2 h3), .inr (.inl ⟨a, vs, rfl, st1.up.t h2, rfl⟩)⟩
      · split at hi
        · cases hi
        · rename_i hf
          cases hi
          have e : fz = false := by simpa using hf
          subst e
          obtain ⟨p, vs, rfl, h2, h3, h4, h5⟩ := q1
          exact ⟨_, fin _ (src_bor h3 h4 h5), .inl ⟨p, vs, rfl, .inl (.inl h4), rfl⟩⟩
      · cases hi
  · rcases q with ⟨a, xs, rfl, h2, rfl⟩ | ⟨a, xs, rfl, h2, rfl⟩ | ⟨z, rfl, rfl⟩
    · cases rv
      exact it_list I1 h2 hR
    · cases rv
      exact it_tup I1 h2 hR
    · obtain ⟨t, rfl⟩ := rv
      exact it_str I1 hR
/-! range -/
def rgD (lo : Int) (n : Nat) : List R := (List.range n).map fun i => .val (.int (lo + (i : Nat)))
theorem src_range {K : PySem.W.Frag} {F0 H0 F' H' : Hp} {lo : Int} {n : Nat} : Src K T H0 (Sta T fz F0 H0 F' H') (rgD lo n) (Itr lo n) := by
  refine ⟨fun _ => True, YFn fun i => .int (lo + i), by
    have e : (rgD lo n).length = n := by simp [rgD]
    rw [e]; exact walk_range, fun _ _ _ => trivial, fun i H2 x H3 F2 hi st ⟨e, e2⟩ => ?_⟩
  subst e e2
  have hi' : i < n := by simpa [rgD] using hi
  exact ⟨F2, .val (.int (lo + i)), by simp [rgD, hi'], Le.refl st.2.ok, by rw [Rq, Rp]⟩
def fRg1 (fr : Env → O (List R)) : Env → O (List R) := fun es => (fr es).bind fun rs => match rs with
  | [.val (.int j)] => if -(2 ^ 62) ≤ j ∧ j < 2 ^ 62 then .ok (rgD 0 j.toNat) else .no
  | _ => .no
def fRg2 (fr : Env → O (List R)) : Env → O (List R) := fun es => (fr es).bind fun rs => match rs with
  | [.val (.int i), .val (.int j)] => if -(2 ^ 62) ≤ i ∧ i < 2 ^ 62 ∧ -(2 ^ 62) ≤ j ∧ j < 2 ^ 62 then .ok (rgD i (j - i).toNat) else .no
  | _ => .no
/-- arguments first, for what is walked -/
theorem pa_seqI {K : PySem.W.Frag} {F0 H0 F H : Hp} {σ : L2.St} {es : Env} {α β : Type} {rel rel' : Hp → Hp → β → α → Prop} {Q : β → Hp → Prop} {Q' : List V → Hp → Prop} {o : O (List R)} {g : List R → O α} (st : StOk K T F0 H0 F H σ es) (h : PO K T W F H σ rel Q (o.bind g))
    (hr : ∀ F' H' v a, rel' F' H' v a → rel F' H' v a)
    (k : ∀ rs vs F1 H1, o = .ok rs → StOk K T F0 H0 F1 H1 σ es → Le T F H F1 H1 → RqL K T H0 F1 H1 rs vs → PO K T W F1 H1 σ rel' Q (g rs) → Q' vs H1) : PO K T W F H σ (fun F' H' vs rs => RqL K T H0 F' H' rs vs) Q' o := by
  cases o with
  | ok a =>
    intro v F1 H1 l q
    exact k a v F1 H1 rfl (st.step l) l q (PO.step h l hr)
  | exc c fs => exact h
  | no => exact h
theorem di_range1 {fr : Env → O (List R)} (hm : X.mg "range" = none) (ha : DA X T W [a] fr) (hg : Gl X "range" := by rfl) (hs : starEach [a] X.env = [(false, eval a X.env)] := by rfl) : DI fz X T W tg (.Call (.Name "range" p) [a] [] pos) (fRg1 fr) :=
  pi_weak (pi_range1 hg hm ha hs) fun σ H Rk ⟨F0, H0, F, es, st, h⟩ => ⟨F0, H0, F, es, st, pa_seqI st h (fun _ _ _ _ z => z) fun rs vs F1 H1 _ st1 l1 q1 h1 => by
    split at h1
    · rename_i j _
      split at h1
      · rename_i hj
        obtain ⟨v, rfl, q2⟩ := rql1 q1
        exact ⟨j, by rw [rq_int q2], hj.1, hj.2, h1 _ F1 H1 (Le.refl st1.ok) src_range⟩
      · exact h1.elim
    · exact h1.elim⟩
theorem di_range2 {fr : Env → O (List R)} (hm : X.mg "range" = none) (ha : DA X T W [a, b] fr) (hg : Gl X "range" := by rfl) (hs : starEach [a, b] X.env = [(false, eval a X.env), (false, eval b X.env)] := by rfl) (hs2 : starEach [b] X.env = [(false, eval b X.env)] := by rfl) :
    DI fz X T W tg (.Call (.Name "range" p) [a, b] [] pos) (fRg2 fr) :=
  pi_weak (pi_range2 hg hm ha hs hs2) fun σ H Rk ⟨F0, H0, F, es, st, h⟩ => ⟨F0, H0, F, es, st, pa_seqI st h (fun _ _ _ _ z => z) fun rs vs F1 H1 _ st1 l1 q1 h1 => by
    split at h1
    · rename_i i j _
      split at h1
      · rename_i hj
        obtain ⟨v, w, rfl, q2, q3⟩ := rql2 q1
        exact ⟨i, j, by rw [rq_int q2, rq_int q3], hj, h1 _ F1 H1 (Le.refl st1.ok) src_range⟩
      · exact h1.elim
    · exact h1.elim⟩
/-! ### targets -/
inductive Tg where
  | nm (i : Nat) | tp (is : List Nat)
def gsOf : List Nat → TGs
  | [] => gNil
  | i :: is => gCons (gName i) (gsOf is)
def tgOf (K : PySem.W.Frag) : Tg → TG
  | .nm i => gName i
  | .tp is => gTup K is.length (gsOf is)
def R.slot : R → Option Sl
  | .val d => some (.val d)
  | .brw d => some (.brw d)
  | _ => none
def setAll : List Nat → List R → Env → Option Env
  | [], [], es => some es
  | i :: is, r :: rs, es => match r.slot with
    | some s => setAll is rs (es.set i s)
    | none => none
  | _, _, _ => none
def R.parts : R → Option (List R)
  | .val (.tup ds) => some (ds.map .val)
  | .brw (.tup ds) => some (ds.map nrm)
  | _ => none
def stTg : Tg → R → Env → Option Env
  | .nm i, r, es => r.slot.map fun s => es.set i s
  | .tp is, r, es => match r.parts with
    | some rs => if rs.length = is.length then setAll is rs es else none
    | none => none
def Tg.at : Tg → List Nat
  | .nm i => [i]
  | .tp is => is
end
section
variable {K : PySem.W.Frag} {T : List Addr} {F0 H0 F H : Hp} {σ : L2.St} {es : Env}
theorem get_set {α : Type} {l : List α} {i j : Nat} {a b : α} (h : (l.set i a)[j]? = some b) : (i = j ∧ b = a) ∨ (i ≠ j ∧ l[j]? = some b) := by
  by_cases e : i = j
  · subst e
    rw [List.getElem?_set_self'] at h
    cases hl : l[i]? with
    | none => rw [hl] at h; cases h
    | some c => rw [hl] at h; exact .inl ⟨rfl, (Option.some.inj h).symm⟩
  · rw [List.getElem?_set_ne e] at h
    exact .inr ⟨e, h⟩
/-- a slot is stored: a value that stays -/
theorem StOk.set {i : Nat} {v : V} {s : Sl} (st : StOk K T F0 H0 F H σ es) (hs : match s with
    | .no => True
    | .val d => Rp K F d v
    | .brw d => Rp K H0 d v
    | .own xs => ∃ p vs, v = .ref p ∧ H0 p = none ∧ F p = none ∧ p ∉ T ∧ H p = some (.lst vs) ∧ RpL K F xs vs ∧ (∀ j ys, j ≠ i → es[j]? = some (.own ys) → σ[j]? ≠ some (some (.ref p))) ∧ ∀ (j : Nat) (yss : List (List D)) (p' : Addr) (ps' : List Addr), es[j]? = some (Sl.own2 yss) → σ[j]? = some (some (V.ref p')) → Own2 K T H0 F H p' ps' yss → p ≠ p' ∧ p ∉ ps'
    | .own2 _ => False
    | .odc _ _ => False) :
    StOk K T F0 H0 F H (σ.set i (some v)) (es.set i s) where
  ok0 := st.ok0
  le := st.le
  env := by
    have ln := st.env.len
    have at_ : ∀ {u : Sl}, (es.set i s)[i]? = some u → (σ.set i (some v))[i]? = some (some v) := fun {u} h => by
      have : i < σ.length := by
        rw [ln]
        have := (List.getElem?_eq_some_iff.mp h).1
        simpa using this
      simp [this]
    refine ⟨by simp [ln], fun j d h => ?_, fun j d h => ?_, fun j xs h => ?_, fun j k xs ys p h1 h2 h3 h4 => ?_, fun j yss h => ?_, st.env.dic.of (fun j ks ds h => ?_) (Sub.refl _) (fun _ _ _ f _ => f) (fun _ _ e _ _ => e)⟩
    · rcases get_set h with ⟨e, e2⟩ | ⟨e, e2⟩
      · subst e
        refine ⟨v, at_ h, ?_⟩
        rw [← e2] at hs
        exact hs
      · rw [List.getElem?_set_ne e]
        exact st.env.val j d e2
    · rcases get_set h with ⟨e, e2⟩ | ⟨e, e2⟩
      · subst e
        refine ⟨v, at_ h, ?_⟩
        rw [← e2] at hs
        exact hs
      · rw [List.getElem?_set_ne e]
        exact st.env.brw j d e2
    · rcases get_set h with ⟨e, e2⟩ | ⟨e, e2⟩
      · subst e
        rw [← e2] at hs
        obtain ⟨p, vs, h1, h2, h3, h4, h5, h6, _, _⟩ := hs
        exact ⟨p, vs, by rw [at_ h, h1], h2, h3, h4, h5, h6⟩
      · rw [List.getElem?_set_ne e]
        exact st.env.own j xs e2
    · rcases get_set h1 with ⟨e, e2⟩ | ⟨e, e2⟩
      · rcases get_set h2 with ⟨f, f2⟩ | ⟨f, f2⟩
        · rw [← e, ← f]
        · subst e
          rw [at_ h1] at h3
          rw [← e2] at hs
          obtain ⟨p', vs, g1, _, _, _, _, _, g, _⟩ := hs
          rw [List.getElem?_set_ne f] at h4
          have : p = p' := by
            have := Option.some.inj (Option.some.inj h3)
            rw [g1] at this
            cases this; rfl
          subst this
          exact absurd h4 (g k ys (Ne.symm f) f2)
      · rcases get_set h2 with ⟨f, f2⟩ | ⟨f, f2⟩
        · subst f
          rw [at_ h2] at h4
          rw [← f2] at hs
          obtain ⟨p', vs, g1, _, _, _, _, _, g, _⟩ := hs
          rw [List.getElem?_set_ne e] at h3
          have : p = p' := by
            have := Option.some.inj (Option.some.inj h4)
            rw [g1] at this
            cases this; rfl
          subst this
          exact absurd h3 (g j xs (Ne.symm e) e2)
        · rw [List.getElem?_set_ne e] at h3
          rw [List.getElem?_set_ne f] at h4
          exact st.env.uni j k xs ys p e2 f2 h3 h4
    · rcases get_set h with ⟨e, e2⟩ | ⟨e, e2⟩
      · rw [← e2] at hs
        exact hs.elim
      · obtain ⟨p, ps, h1, h2, h3, h4⟩ := st.env.two j yss e2
        refine ⟨p, ps, by rw [List.getElem?_set_ne e]; exact h1, h2, fun k xs q hk hq => ?_, fun k zss hk => ?_⟩
        · rcases get_set hk with ⟨f, f2⟩ | ⟨f, f2⟩
          · subst f
            rw [at_ hk] at hq
            rw [← f2] at hs
            obtain ⟨p', vs, g1, _, _, _, _, _, _, g⟩ := hs
            have e3 : q = p' := by
              have := Option.some.inj (Option.some.inj hq)
              rw [g1] at this
              cases this; rfl
            subst e3
            exact g j yss p ps e2 h1 h2
          · rw [List.getElem?_set_ne f] at hq
            exact h3 k xs q f2 hq
        · rcases get_set hk with ⟨f, f2⟩ | ⟨f, f2⟩
          · rw [← f2] at hs
            exact hs.elim
          · exact h4 k zss f2
    · rcases get_set h with ⟨e, e2⟩ | ⟨e, e2⟩
      · rw [← e2] at hs
        exact hs.elim
      · exact ⟨e2, List.getElem?_set_ne e⟩
theorem StOk.slot {i : Nat} {v : V} {r : R} {s : Sl} (st : StOk K T F0 H0 F H σ es) (q : Rq K T H0 F H v r) (e : r.slot = some s) : StOk K T F0 H0 F H (σ.set i (some v)) (es.set i s) := by
  cases r <;> simp only [R.slot] at e <;> cases e
  · exact st.set q
  · exact st.set q
theorem wipe_get (σ : L2.St) (i : Nat) : ∀ vs : List Nat, (wipe σ vs)[i]? = if i ∈ vs ∧ i < σ.length then some none else σ[i]?
  | [] => by simp [wipe]
  | v :: vs => by
    have ih := wipe_get σ i vs
    unfold wipe
    by_cases e : v = i
    · subst e
      by_cases hl : v < σ.length
      · have : v < (wipe σ vs).length := by rw [wipe_length]; exact hl
        simp [this, hl]
      · have h1 : (wipe σ vs).length ≤ v := by rw [wipe_length]; omega
        have h2 : σ[v]? = none := List.getElem?_eq_none (by omega)
        have h3 : ((wipe σ vs).set v none)[v]? = none := List.getElem?_eq_none (by simpa using h1)
        rw [h3, if_neg (fun z => hl z.2), h2]
    · rw [List.getElem?_set_ne e, ih]
      have : i ≠ v := fun z => e z.symm
      simp [this]
theorem wipe_set {σ : L2.St} {i : Nat} {x : Option V} {vs : List Nat} (h : i ∈ vs) : wipe (σ.set i x) vs = wipe σ vs := by
  apply List.ext_getElem?
  intro j
  rw [wipe_get, wipe_get]
  by_cases e : j ∈ vs
  · by_cases hl : j < σ.length
    · simp [e, hl]
    · have h1 : σ[j]? = none := List.getElem?_eq_none (by omega)
      have h2 : (σ.set i x)[j]? = none := List.getElem?_eq_none (by simp; omega)
      rw [h1, h2]
      simp [hl]
  · have : i ≠ j := fun z => e (z ▸ h)
    simp [e, List.getElem?_set_ne this]
theorem gs_ok {Q : L2.St → Hp → Prop} : ∀ {is : List Nat} {rs : List R} {xs : List V} {σ : L2.St} {es es' : Env}, StOk K T F0 H0 F H σ es → RqL K T H0 F H rs xs → setAll is rs es = some es' →
    (∀ σ', StOk K T F0 H0 F H σ' es' → (∀ vs, (∀ i ∈ is, i ∈ vs) → wipe σ' vs = wipe σ vs) → Q σ' H) → gsOf is xs σ H Q
  | [], rs, xs, σ, es, es', st, q, e, k => by
    cases rs with
    | nil =>
      cases q
      cases e
      exact ⟨rfl, k σ st fun _ _ => rfl⟩
    | cons => cases e
  | i :: is, rs, xs, σ, es, es', st, q, e, k => by
    cases rs with
    | nil => cases e
    | cons r rs =>
      obtain ⟨v, t, rfl, h2, h3⟩ := q
      simp only [setAll] at e
      split at e
      · rename_i s es
        refine ⟨v, t, rfl, ?_⟩
        exact gs_ok (st.slot h2 es) h3 e fun σ' st' hw => k σ' st' fun vs hv => (hw vs fun j hj => hv j (List.mem_cons_of_mem _ hj)).trans (wipe_set (hv i List.mem_cons_self))
      · cases e
theorem rql_val {F H : Hp} : ∀ {ds : List D} {vs : List V}, RpL K F ds vs → RqL K T H0 F H (ds.map .val) vs
  | [], vs, h => by rw [RpL] at h; exact h
  | d :: ds, vs, h => by
    rw [RpL] at h
    obtain ⟨v, r, h1, h2, h3⟩ := h
    exact ⟨v, r, h1, h2, rql_val h3⟩
theorem rql_nrm {F H : Hp} : ∀ {ds : List D} {vs : List V}, RpL K H0 ds vs → RqL K T H0 F H (ds.map nrm) vs
  | [], vs, h => by rw [RpL] at h; exact h
  | d :: ds, vs, h => by
    rw [RpL] at h
    obtain ⟨v, r, h1, h2, h3⟩ := h
    exact ⟨v, r, h1, rq_nrm h2, rql_nrm h3⟩
theorem tg_ok {t : Tg} {r : R} {x : V} {es' : Env} {Q : L2.St → Hp → Prop} (st : StOk K T F0 H0 F H σ es) (q : Rq K T H0 F H x r) (e : stTg t r es = some es')
    (k : ∀ σ', StOk K T F0 H0 F H σ' es' → (∀ vs, (∀ i ∈ t.at, i ∈ vs) → wipe σ' vs = wipe σ vs) → Q σ' H) : tgOf K t x σ H Q := by
  cases t with
  | nm i =>
    simp only [stTg] at e
    cases hs : r.slot with
    | none => rw [hs] at e; cases e
    | some s =>
      rw [hs] at e
      cases e
      exact k _ (st.slot q hs) fun vs hv => wipe_set (hv i (by simp [Tg.at]))
  | tp is =>
    simp only [stTg] at e
    split at e
    · rename_i rs hp
      split at e
      · rename_i hl
        cases r <;> simp only [R.parts] at hp <;> try cases hp
        all_goals (rename_i d; cases d <;> simp only [R.parts] at hp <;> try cases hp)
        · rw [Rq, Rp] at q
          obtain ⟨a, vs, rfl, h2, h3⟩ := q
          refine ⟨a, vs, rfl, st.ok.sub.t h2, by rw [← h3.len]; simpa using hl, ?_⟩
          exact gs_ok st (rql_val h3) e k
        · rw [Rq, Rp] at q
          obtain ⟨a, vs, rfl, h2, h3⟩ := q
          refine ⟨a, vs, rfl, st.up.t h2, by rw [← h3.len]; simpa using hl, ?_⟩
          exact gs_ok st (rql_nrm h3) e k
      · cases e
    · cases e
end
end Fw
namespace Fw
open PySem PySem.Spec PyProof.Rows L2
abbrev W0 : WX := fun _ _ _ _ => False
def noX {α : Type} : O α → O α
  | .ok a => .ok a
  | _ => .no
def wipeE : Env → List Nat → Env
  | es, [] => es
  | es, v :: vs => (wipeE es vs).set v .no
theorem wipeE_get (es : Env) (i : Nat) : ∀ vs : List Nat, (wipeE es vs)[i]? = if i ∈ vs ∧ i < es.length then some .no else es[i]?
  | [] => by simp [wipeE]
  | v :: vs => by
    have ih := wipeE_get es i vs
    have ln : (wipeE es vs).length = es.length := by
      clear ih
      induction vs with
      | nil => rfl
      | cons v vs ih => simp [wipeE, ih]
    unfold wipeE
    by_cases e : v = i
    · subst e
      by_cases hl : v < es.length
      · have : v < (wipeE es vs).length := by rw [ln]; exact hl
        simp [this, hl]
      · have h1 : (wipeE es vs).length ≤ v := by rw [ln]; omega
        have h2 : es[v]? = none := List.getElem?_eq_none (by omega)
        have h3 : ((wipeE es vs).set v Sl.no)[v]? = none := List.getElem?_eq_none (by simpa using h1)
        rw [h3, if_neg (fun z => hl z.2), h2]
    · rw [List.getElem?_set_ne e, ih]
      have : i ≠ v := fun z => e z.symm
      simp [this]
theorem wipeE_len (es : Env) : ∀ vs : List Nat, (wipeE es vs).length = es.length
  | [] => rfl
  | v :: vs => by simp [wipeE, wipeE_len es vs]
theorem wipeE_some {es : Env} {i : Nat} {s : Sl} {vs : List Nat} (h : (wipeE es vs)[i]? = some s) (hs : s ≠ .no) : es[i]? = some s ∧ i ∉ vs := by
  rw [wipeE_get] at h
  split at h
  · exact absurd (Option.some.inj h).symm hs
  · rename_i z
    have hl := (List.getElem?_eq_some_iff.mp h).1
    exact ⟨h, fun m => z ⟨m, hl⟩⟩
section
variable {K : PySem.W.Frag} {T : List Addr} {F0 H0 F H : Hp} {σ : L2.St} {es : Env}
theorem StOk.wipe (st : StOk K T F0 H0 F H σ es) (vs : List Nat) : StOk K T F0 H0 F H (L2.wipe σ vs) (wipeE es vs) where
  ok0 := st.ok0
  le := st.le
  env := by
    have g : ∀ {i : Nat}, i ∉ vs → (L2.wipe σ vs)[i]? = σ[i]? := fun {i} n => by rw [wipe_get, if_neg (fun z => n z.1)]
    refine ⟨by rw [wipe_length, wipeE_len]; exact st.env.len, fun i d h => ?_, fun i d h => ?_, fun i xs h => ?_, fun i j xs ys p h1 h2 h3 h4 => ?_, fun i xss h => ?_, st.env.dic.of (fun i ks ds h => ?_) (Sub.refl _) (fun _ _ _ f _ => f) (fun _ _ e _ _ => e)⟩
    · obtain ⟨h1, h2⟩ := wipeE_some h (by simp)
      rw [g h2]; exact st.env.val i d h1
    · obtain ⟨h1, h2⟩ := wipeE_some h (by simp)
      rw [g h2]; exact st.env.brw i d h1
    · obtain ⟨h1, h2⟩ := wipeE_some h (by simp)
      rw [g h2]; exact st.env.own i xs h1
    · obtain ⟨h1, e1⟩ := wipeE_some h1 (by simp)
      obtain ⟨h2, e2⟩ := wipeE_some h2 (by simp)
      rw [g e1] at h3
      rw [g e2] at h4
      exact st.env.uni i j xs ys p h1 h2 h3 h4
    · obtain ⟨h1, h2⟩ := wipeE_some h (by simp)
      obtain ⟨p, ps, g1, g2, g3, g4⟩ := st.env.two i xss h1
      refine ⟨p, ps, by rw [g h2]; exact g1, g2, fun j xs q hj hq => ?_, fun j yss hj => ?_⟩
      · obtain ⟨k1, k2⟩ := wipeE_some hj (by simp)
        rw [g k2] at hq
        exact g3 j xs q k1 hq
      · exact g4 j yss (wipeE_some hj (by simp)).1
    · obtain ⟨h1, h2⟩ := wipeE_some h (by simp)
      exact ⟨h1, g h2⟩
end
/-! ### comprehensions -/
def lcL (tg : Tg) (cond : Env → O Bool) (elt : Env → O R) (es : Env) : List R → O (List D)
  | [] => .ok []
  | x :: xs => match stTg tg x es with
    | none => .no
    | some e1 => (noX (cond e1)).bind fun b => if b = true then (noX (elt e1)).bind fun r => match r.fz.sto with
        | none => .no
        | some d => (lcL tg cond elt es xs).bind fun ds => .ok (d :: ds)
      else lcL tg cond elt es xs
def fLc (src : Env → O (List R)) (vs : List Nat) (tg : Tg) (cond : Env → O Bool) (elt : Env → O R) : Env → O R := fun es => (src es).bind fun xs => if xs.length ≤ 90000 then (noX (lcL tg cond elt (wipeE es vs) xs)).bind fun ds => .ok (.new ds) else .no
def fYes : Env → O Bool := fun _ => .ok true
section
variable {X : Cx} {T : List Addr} {W : WX}
theorem lc_weak {K : PySem.W.Frag} {src : Env → O (List R)} {vs : List Nat} {tg : Tg} {cond : Env → O Bool} {elt : Env → O R} {σ : L2.St} {H : Hp} {Q : VK} (hvs : ∀ i ∈ tg.at, i ∈ vs) (h : tD K T W (fLc src vs tg cond elt) σ H Q) :
    tLc (tI false K T W src) (tgOf K tg) (tT K T W0 cond) (tD K T W0 elt) vs σ H Q := by
  obtain ⟨F0, H0, F, es, st, h⟩ := h
  unfold fLc at h
  refine ⟨F0, H0, F, es, st, ?_⟩
  cases hs : src es with
  | no => rw [hs] at h; exact h
  | exc c fs => rw [hs] at h; exact h
  | ok xs =>
    rw [hs] at h
    intro J F1 H1 l1 ⟨G, Y, w, hG, hY⟩ Dl hD
    rw [O.bind_ok] at h
    split at h
    · rename_i hlen
      cases hds : lcL tg cond elt (wipeE es vs) xs with
      | no => rw [hds] at h; exact h.elim
      | exc c fs => rw [hds] at h; exact h.elim
      | ok ds =>
        rw [hds] at h
        have st1 := st.step l1
        have nT : Dl ∉ T := st1.ok.nt hD
        refine lc_it w (fun i H2 => ∃ F2 ds1 ds2 vs2, Le T F1 H1 F2 H2 ∧ F2 Dl = none ∧ H2 Dl = some (.lst vs2) ∧ RpL K F2 ds1 vs2 ∧ lcL tg cond elt (wipeE es vs) (xs.drop i) = .ok ds2 ∧ ds = ds1 ++ ds2 ∧ ds1.length ≤ i)
          ⟨F1, [], ds, [], Le.newH st1.ok hD, st1.ok.nf hD, upd_same, RpL.nil, hds, rfl, Nat.le_refl _⟩ ?_ ?_ ?_
        · intro i H2 hi ⟨F2, ds1, ds2, vs2, l2, _⟩
          exact hG F2 H2 ⟨l2, st1.le.trans l2⟩
        · intro i x H2 H3 hi ⟨F2, ds1, ds2, vs2, l2, hF, hH, hr, hl, he, hle⟩ hy
          obtain ⟨F3, r, hx, l3, q3⟩ := hY i H2 x H3 F2 hi ⟨l2, st1.le.trans l2⟩ hy
          have hdr : xs.drop i = r :: xs.drop (i + 1) := by
            have : i < xs.length := hi
            rw [List.drop_eq_getElem_cons this]
            rw [List.getElem?_eq_getElem this] at hx
            rw [Option.some.inj hx]
          rw [hdr] at hl
          simp only [lcL] at hl
          have st3 : StOk K T F0 H0 F3 H3 (L2.wipe σ vs) (wipeE es vs) := ((st1.step l2).step l3).wipe vs
          cases h1 : stTg tg r (wipeE es vs) with
          | none => rw [h1] at hl; cases hl
          | some e1 =>
            rw [h1] at hl
            simp only at hl
            refine tg_ok st3 q3 h1 fun σ' st' hw => ⟨?_, ?_⟩
            · rw [hw vs hvs]
              apply List.ext_getElem?
              intro j
              rw [wipe_get, wipe_get, wipe_length]
              split <;> rfl
            · refine ⟨F0, H0, F3, e1, st', ?_⟩
              cases hc : cond e1 with
              | no => rw [hc] at hl; cases hl
              | exc c fs => rw [hc] at hl; cases hl
              | ok b =>
                rw [hc] at hl
                simp only [noX, O.bind_ok] at hl
                intro b' F4 H4 l4 eb
                subst eb
                have hF3 : F3 Dl = none := l3.n Dl hF (by rw [hH]; simp)
                have hH3 : H3 Dl = some (.lst vs2) := l3.h Dl _ nT hH
                have hF4 : F4 Dl = none := l4.n Dl hF3 (by rw [hH3]; simp)
                have hH4 : H4 Dl = some (.lst vs2) := l4.h Dl _ nT hH3
                cases b' with
                | false =>
                  rw [if_neg Bool.false_ne_true]
                  rw [if_neg Bool.false_ne_true] at hl
                  exact ⟨F4, ds1, ds2, vs2, (l2.trans l3).trans l4, hF4, hH4, hr.mono (l3.f.trans l4.f), hl, he, by omega⟩
                | true =>
                  rw [if_pos rfl]
                  rw [if_pos rfl] at hl
                  refine ⟨F0, H0, F4, e1, st'.step l4, ?_⟩
                  cases hel : elt e1 with
                  | no => rw [hel] at hl; cases hl
                  | exc c fs => rw [hel] at hl; cases hl
                  | ok r2 =>
                    rw [hel] at hl
                    simp only [noX, O.bind_ok] at hl
                    intro y F5 H5 l5 q5
                    obtain ⟨F6, l6, _, q6⟩ := q5.fz l5
                    split at hl
                    · cases hl
                    · rename_i d hd
                      cases hrest : lcL tg cond elt (wipeE es vs) (xs.drop (i + 1)) with
                      | no => rw [hrest] at hl; cases hl
                      | exc c fs => rw [hrest] at hl; cases hl
                      | ok ds3 =>
                        rw [hrest] at hl
                        cases hl
                        have hF6 : F6 Dl = none := l6.n Dl hF4 (by rw [hH4]; simp)
                        have hH6 : H5 Dl = some (.lst vs2) := l6.h Dl _ nT hH4
                        have hsub : Sub F2 F6 := (l3.f.trans l4.f).trans l6.f
                        refine ⟨vs2, hH6, by rw [← hr.len]; exact szl (by omega), F6, ds1 ++ [d], ds3, vs2 ++ [y], (((l2.trans l3).trans l4).trans l6).mut hD hF6 nT, hF6, upd_same, (hr.mono hsub).app (RpL.cons (q6.sto hd) RpL.nil), rfl, by rw [he]; simp, by simp; omega⟩
        · intro H2 ⟨F2, ds1, ds2, vs2, l2, hF, hH, hr, hl, he, hle⟩
          have e0 : xs.drop xs.length = [] := List.drop_length
          rw [e0] at hl
          cases hl
          have e1 : ds = ds1 := by rw [he]; simp
          subst e1
          exact h (.ref Dl) F2 H2 (l1.trans l2) (Rr.back l1 ⟨Dl, vs2, rfl, hD, hF, nT, hH, hr⟩)
    · exact h.elim
/-- a clause's tests -/
def DTs (X : Cx) (T : List Addr) (ifs : List Expr) (f : Env → O Bool) : Prop := PTs X ifs (tT X.K T W0 f)
theorem pts_weak {ifs : List Expr} {t t' : TT} (h : PTs X ifs t) (w : ∀ σ H Q, t' σ H Q → t σ H Q) : PTs X ifs t' := ⟨fun pins s σ H Q I q => h.run pins s σ H Q I (w σ H Q q)⟩
theorem dts_nil : DTs X T [] fYes := pts_weak pts_nil fun σ H Q ⟨F0, H0, F, es, st, h⟩ => h true F H (Le.refl st.ok) rfl
theorem dts_one {c : Expr} {f : Env → O Bool} (h : DT X T W0 c f) : DTs X T [c] f := pts_one h
theorem de_lc {elt tg iter : Expr} {ifs : List Expr} {scope : Scope} {own : List (Str × Nat)} {pos : Pos} {src : Env → O (List R)} {t : Tg} {cond : Env → O Bool} {fe : Env → O R} (hN : X.N.Nodup) (hi : DI false X T W tg iter src) (ok : BlkOk X.N X.env.scope scope own)
    (hg : ∀ (s : Shared) (H : Hp) (C : Addr) (cl : List (Str × Addr)) (fp : List Addr), PG (X.blk s H scope (compEnvC scope cl C X.env) fp) tg (tgOf X.K t))
    (ht : ∀ (s : Shared) (H : Hp) (C : Addr) (cl : List (Str × Addr)) (fp : List Addr), DTs (X.blk s H scope (compEnvC scope cl C X.env) fp) T ifs cond)
    (he : ∀ (s : Shared) (H : Hp) (C : Addr) (cl : List (Str × Addr)) (fp : List Addr), DE (X.blk s H scope (compEnvC scope cl C X.env) fp) T W0 elt fe) (hc : X.calm = true := by rfl) (hs : ∀ x, foldedSetIterable iter X.env x = pure x := by intro _; rfl)
    (hvs : ∀ i ∈ t.at, i ∈ own.map (·.2) := by decide) :
    DE X T W (.ListComp elt [⟨tg, iter, ifs, 0⟩] scope pos) (fLc src (own.map (·.2)) t cond fe) :=
  pe_weak (pe_lc (tt := tT X.K T W0 cond) (te := tD X.K T W0 fe) hc hN hi ok hg (fun s H C cl fp => ht s H C cl fp) (fun s H C cl fp => he s H C cl fp) hs) fun σ H Q h => lc_weak hvs h
end
/-! ### targets by their places -/
section
variable {X : Cx} {pos : Pos}
theorem pgN (i : Nat) {K : PySem.W.Frag} {x : Str} (hN : X.N.Nodup) (hi : X.N[i]? = some x := by rfl) (hx : Loc X.env.scope x := by first | exact Or.inl rfl | exact Or.inr rfl) (hf : X.fn x = true ∨ X.env.scope.names.lookup x = some .local := by first | exact .inl rfl | exact .inr rfl) : PG X (.Name x pos) (tgOf K (.nm i)) := pg_name hN hi hx hf
theorem pgs0 : PGs X [] (gsOf []) := pgs_nil
theorem pgs1 {e : Expr} {es : List Expr} {i : Nat} {is : List Nat} (h : PG X e (tgOf X.K (.nm i))) (r : PGs X es (gsOf is)) (hs : (assignEach (e :: es) X.env).map (·.2) = assign e X.env :: (assignEach es X.env).map (·.2) := by rfl) : PGs X (e :: es) (gsOf (i :: is)) := pgs_cons h r hs
theorem pgT {es : List Expr} {k : Nat} {is : List Nat} (h : PGs X es (gsOf is)) (hn : (assignEach es X.env).length = is.length := by rfl) (hst : (assignEach es X.env).findIdx? (·.1) = none := by rfl) (hc : X.calm = true := by rfl) : PG X (.Tuple es k pos) (tgOf X.K (.tp is)) := pg_tup hc h hn hst
end
/-! ### statements -/
inductive Out where
  | nx (es : Env) | rt (r : R) | br (es : Env) | ct (es : Env) | exc (es : Env) (c : Addr) (fs : Option (List Str × List D)) | no
section
variable (K : PySem.W.Frag) (T : List Addr) (W : WX) (F0 H0 : Hp)
/-- what follows an outcome; Fc: what stands before -/
def OutOk (Fc : Hp) (D : Ends) : Out → Prop
  | .nx es => ∀ σ F H, Sub Fc F → StOk K T F0 H0 F H σ es → D.nx σ H
  | .br es => ∀ σ F H, Sub Fc F → StOk K T F0 H0 F H σ es → D.bk σ H
  | .ct es => ∀ σ F H, Sub Fc F → StOk K T F0 H0 F H σ es → D.ct σ H
  | .rt r => ∀ v F H, Le T F0 H0 F H → Rr K T H0 H0 F H v r → D.rt v H
  | .exc es c fs => ∀ cls d σ F H, Sub Fc F → StOk K T F0 H0 F H σ es → XOk K H c fs cls d → W cls d σ H
  | .no => False
def tS (g : Env → Out) : TS := fun D σ H => ∃ F es, StOk K T F0 H0 F H σ es ∧ OutOk K T W F0 H0 F D (g es)
end
def DS (X : Cx) (T : List Addr) (W : WX) (st : Stmt) (g : Env → Out) : Prop := ∀ F0 H0, PS X st (tS X.K T W F0 H0 g)
def DSs (X : Cx) (T : List Addr) (W : WX) (st : List Stmt) (g : Env → Out) : Prop := ∀ F0 H0, PSs X st (tS X.K T W F0 H0 g)
def Out.seq (o : Out) (g : Env → Out) : Out := match o with
  | .nx es => g es
  | o => o
@[simp] theorem Out.seq_nx (es : Env) (g : Env → Out) : (Out.nx es).seq g = g es := rfl
@[simp] theorem Out.seq_rt (r : R) (g : Env → Out) : (Out.rt r).seq g = .rt r := rfl
@[simp] theorem Out.seq_no (g : Env → Out) : Out.no.seq g = .no := rfl
@[simp] theorem Out.seq_br (es : Env) (g : Env → Out) : (Out.br es).seq g = .br es := rfl
@[simp] theorem Out.seq_ct (es : Env) (g : Env → Out) : (Out.ct es).seq g = .ct es := rfl
@[simp] theorem Out.seq_exc (es : Env) (c fs) (g : Env → Out) : (Out.exc es c fs).seq g = .exc es c fs := rfl
def gSeq (g h : Env → Out) : Env → Out := fun es => (g es).seq h
def gNext : Env → Out := fun es => .nx es
/-- an expression's outcome in a statement -/
def O.out {α : Type} (o : O α) (es : Env) (k : α → Out) : Out := match o with
  | .ok a => k a
  | .exc c fs => .exc es c fs
  | .no => .no
@[simp] theorem O.out_ok {α : Type} (a : α) (es : Env) (k : α → Out) : (O.ok a).out es k = k a := rfl
@[simp] theorem O.out_exc {α : Type} (c fs) (es : Env) (k : α → Out) : (O.exc c fs : O α).out es k = .exc es c fs := rfl
@[simp] theorem O.out_no {α : Type} (es : Env) (k : α → Out) : (O.no : O α).out es k = .no := rfl
section
variable {X : Cx} {T : List Addr} {W : WX} {st : Stmt} {rest : List Stmt} {g h : Env → Out} {e : Expr} {f : Env → O R} {pos : Pos}
theorem OutOk.sub {K : PySem.W.Frag} {F0 H0 Fc Fd : Hp} {D : Ends} {o : Out} (h : OutOk K T W F0 H0 Fc D o) (l : Sub Fc Fd) : OutOk K T W F0 H0 Fd D o := by
  cases o with
  | nx es => exact fun σ F H z s => h σ F H (l.trans z) s
  | br es => exact fun σ F H z s => h σ F H (l.trans z) s
  | ct es => exact fun σ F H z s => h σ F H (l.trans z) s
  | rt r => exact h
  | exc es c fs => exact fun cls d σ F H z s x => h cls d σ F H (l.trans z) s x
  | no => exact h
theorem dss_nil : DSs X T W [] gNext := fun F0 H0 => pss_weak pss_nil fun D σ H ⟨F, es, st, h⟩ => h σ F H (Sub.refl _) st
theorem dss_cons (h1 : DS X T W st g) (h2 : DSs X T W rest h) : DSs X T W (st :: rest) (gSeq g h) := fun F0 H0 => pss_weak (pss_cons (h1 F0 H0) (h2 F0 H0)) fun D σ H ⟨F, es, st, q⟩ => by
  refine ⟨F, es, st, ?_⟩
  unfold gSeq at q
  cases hg : g es with
  | nx es' => rw [hg] at q; exact fun σ' F' H' z s => ⟨F', es', s, q.sub z⟩
  | rt r => rw [hg] at q; exact q
  | br es' => rw [hg] at q; exact q
  | ct es' => rw [hg] at q; exact q
  | exc es' c fs => rw [hg] at q; exact q
  | no => rw [hg] at q; exact q
theorem dss_one (h1 : DS X T W st g) : DSs X T W [st] g := fun F0 H0 => pss_one (h1 F0 H0)
/-- an expression, then k of what it gives -/
theorem out_seq {K : PySem.W.Frag} {F0 H0 F H : Hp} {σ : L2.St} {es : Env} {α β : Type} {rel : Hp → Hp → β → α → Prop} {Q : β → Hp → Prop} {o : O α} {k : α → Out} {D : Ends} (st : StOk K T F0 H0 F H σ es) (h : OutOk K T W F0 H0 F D (o.out es k))
    (hk : ∀ a v F1 H1, o = .ok a → StOk K T F0 H0 F1 H1 σ es → Le T F H F1 H1 → rel F1 H1 v a → OutOk K T W F0 H0 F1 D (k a) → Q v H1) : PO K T W F H σ rel Q o := by
  cases o with
  | ok a => exact fun v F1 H1 l q => hk a v F1 H1 rfl (st.step l) l q (h.sub l.f)
  | exc c fs => exact fun cls d F1 H1 l q => h cls d σ F1 H1 l.f (st.step l) q
  | no => exact h
/-! name = e -/
def gSet (i : Nat) (fz : Bool) (f : Env → O R) : Env → Out := fun es => (f es).out es fun r => match (if fz = true then r.fz else r) with
  | .val d => .nx (es.set i (.val d))
  | .brw d => .nx (es.set i (.brw d))
  | .new xs => .nx (es.set i (.own xs))
  | .bor _ => .no
theorem set_weak {K : PySem.W.Frag} {F0 H0 : Hp} {i : Nat} {fz : Bool} {D : Ends} {σ : L2.St} {H : Hp} (q : tS K T W F0 H0 (gSet i fz f) D σ H) : tAsg (tD K T W f) (gName i) D σ H := by
  obtain ⟨F, es, st, q⟩ := q
  refine ⟨F0, H0, F, es, st, out_seq st q fun r v F1 H1 _ st1 l1 q1 h1 => ?_⟩
  show D.nx (σ.set i (some v)) H1
  cases fz with
  | true =>
    rw [if_pos rfl] at h1
    obtain ⟨F2, l2, s12, q2⟩ := q1.fz l1
    have st2 := st.step l2
    replace h1 := h1.sub s12
    generalize r.fz = r' at h1 q2
    cases r' with
    | val d => exact h1 _ F2 H1 (Sub.refl _) (st2.set q2)
    | brw d => exact h1 _ F2 H1 (Sub.refl _) (st2.set q2)
    | new xs => exact q2.elim
    | bor xs => exact h1.elim
  | false =>
    rw [if_neg Bool.false_ne_true] at h1
    cases r with
    | val d => exact h1 _ F1 H1 (Sub.refl _) (st1.set q1)
    | brw d => exact h1 _ F1 H1 (Sub.refl _) (st1.set q1)
    | new xs =>
      obtain ⟨p, vs, e1, e2, e3, e4, e5, e6⟩ := q1
      have h0p : H0 p = none := by
        cases z : H0 p with
        | none => rfl
        | some o => rw [st.le.h p o e4 z] at e2; cases e2
      refine h1 _ F1 H1 (Sub.refl _) (st1.set ⟨p, vs, e1, h0p, e3, e4, e5, e6, fun j ys hj hy hs => ?_, fun j yss p' ps' hy hs ho => ?_⟩)
      obtain ⟨p', vs', g1, _, _, _, g5, _⟩ := st.env.own j ys hy
      rw [g1] at hs
      cases hs
      rw [g5] at e2
      cases e2
      obtain ⟨p2, ps2, g1, g2, _⟩ := st.env.two j yss hy
      rw [g1] at hs
      cases hs
      have g2' := g2.step l1
      have ep : ps2 = ps' := refs_inj (HO.lst.inj (Option.some.inj (g2'.2.2.2.1.symm.trans ho.2.2.2.1)))
      subst ep
      refine ⟨fun z => ?_, fun z => ?_⟩
      · rw [z, g2.2.2.2.1] at e2; cases e2
      · obtain ⟨k, hk⟩ := List.mem_iff_getElem?.mp z
        obtain ⟨_, _, _, us, xs', _, g5, _⟩ := g2.2.2.2.2.2.2.2 k p hk
        rw [g5] at e2; cases e2
    | bor xs => exact h1.elim
theorem ds_set {i : Nat} {fz : Bool} {x : Str} {pos' : Pos} (hN : X.N.Nodup) (he : DE X T W e f) (hi : X.N[i]? = some x := by rfl) (hx : Loc X.env.scope x := by first | exact Or.inl rfl | exact Or.inr rfl) (hs : swapsWith e (some (.Name x pos')) pos.line X.env = pure false := by rfl)
    (hf : X.fn x = true ∨ X.env.scope.names.lookup x = some .local := by first | exact .inl rfl | exact .inr rfl) : DS X T W (.Assign [.Name x pos'] e pos) (gSet i fz f) := fun F0 H0 => ps_weak (ps_set hN hi hx he hs hf) fun D σ H q => set_weak q
/-- name = [..], one clause, the name a local -/
theorem ds_setLc {i : Nat} {fz : Bool} {y : Str} {py : Pos} {elt tg iter : Expr} {ifs : List Expr} {scope : Scope} {own : List (Str × Nat)} {pos spos : Pos} {src : Env → O (List R)} {t : Tg} {cond : Env → O Bool} {fe : Env → O R} (hN : X.N.Nodup) (hi : DI false X T W tg iter src) (ok : BlkOk X.N X.env.scope scope own)
    (hg : ∀ (s : Shared) (H : Hp) (C : Addr) (cl : List (Str × Addr)) (fp : List Addr), PG (X.blk s H scope (compEnvC scope cl C X.env) fp) tg (tgOf X.K t))
    (ht : ∀ (s : Shared) (H : Hp) (C : Addr) (cl : List (Str × Addr)) (fp : List Addr), DTs (X.blk s H scope (compEnvC scope cl C X.env) fp) T ifs cond)
    (he : ∀ (s : Shared) (H : Hp) (C : Addr) (cl : List (Str × Addr)) (fp : List Addr), DE (X.blk s H scope (compEnvC scope cl C X.env) fp) T W0 elt fe)
    (hy : X.N[i]? = some y := by rfl) (hyl : X.env.scope.names.lookup y = some .local := by rfl) (hsw : swapsWith (.ListComp elt [⟨tg, iter, ifs, 0⟩] scope pos) (some (.Name y py)) spos.line X.env = pure true := by exact sw_true rfl rfl rfl (by decide +kernel))
    (hc : X.calm = true := by rfl) (hs : ∀ x, foldedSetIterable iter X.env x = pure x := by intro _; rfl) (hvs : ∀ i ∈ t.at, i ∈ own.map (·.2) := by decide) :
    DS X T W (.Assign [.Name y py] (.ListComp elt [⟨tg, iter, ifs, 0⟩] scope pos) spos) (gSet i fz (fLc src (own.map (·.2)) t cond fe)) := fun F0 H0 =>
  ps_weak (ps_setLc (tt := tT X.K T W0 cond) (te := tD X.K T W0 fe) hc hN hy hyl hsw hi ok hg (fun s H C cl fp => ht s H C cl fp) (fun s H C cl fp => he s H C cl fp) hs) fun D σ H q => by
    have z := set_weak q
    show tLc _ _ _ _ _ _ _ _
    exact lc_weak hvs z
/-! target = e -/
def gAsg (t : Tg) (f : Env → O R) : Env → Out := fun es => (f es).out es fun r => match stTg t r.fz es with
  | some es' => .nx es'
  | none => .no
theorem ds_asg {tg : Expr} {t : Tg} (he : DE X T W e f) (hg : PG X tg (tgOf X.K t)) (hs : swapsWithSole [tg] e pos.line X.env = pure false := by rfl) (hw : swappedStores [tg] e X.env = pure none := by rfl)
    (h1 : (assignEach [tg] X.env).map (·.2) = [assign tg X.env] := by rfl) : DS X T W (.Assign [tg] e pos) (gAsg t f) := fun F0 H0 => ps_weak (ps_asg he hg hs hw h1) fun D σ H ⟨F, es, st, q⟩ => by
  refine ⟨F0, H0, F, es, st, out_seq st q fun r v F1 H1 _ st1 l1 q1 h1 => ?_⟩
  obtain ⟨F2, l2, s12, q2⟩ := q1.fz l1
  have st2 := st.step l2
  cases ht : stTg t r.fz es with
  | none => rw [ht] at h1; exact h1.elim
  | some es' =>
    rw [ht] at h1
    exact tg_ok st2 q2 ht fun σ' st' _ => h1 σ' F2 H1 s12 st'
/-! e; return e; if -/
def gExpr (f : Env → O R) : Env → Out := fun es => (f es).out es fun _ => .nx es
theorem ds_expr (he : DE X T W e f) (hs : swapsWith e none pos.line X.env = pure false := by rfl) : DS X T W (.Expr e pos) (gExpr f) := fun F0 H0 => ps_weak (ps_expr he hs) fun D σ H ⟨F, es, st, q⟩ =>
  ⟨F0, H0, F, es, st, out_seq st q fun r v F1 H1 _ st1 l1 q1 h1 => h1 σ F1 H1 (Sub.refl _) st1⟩
theorem ds_doc {x j pos pos'} : DS X T W (.Expr (.Constant (.str x) j pos) pos') gNext := fun F0 H0 => ps_weak ps_doc fun D σ H ⟨F, es, st, h⟩ => h σ F H (Sub.refl _) st
def gRet (f : Env → O R) : Env → Out := fun es => (f es).out es fun r => match r with
  | .val d => .rt (.val d)
  | .new xs => .rt (.new xs)
  | .bor _ => .no
  | .brw _ => .no
def gRetV (i : Nat) : Env → Out := fun es => (fVar i es).out es fun r => match r with
  | .val d => .rt (.val d)
  | .new xs => .rt (.new xs)
  | .bor xs => .rt (.new xs)
  | .brw _ => .no
theorem StOk.h0 {K : PySem.W.Frag} {F0 H0 F H : Hp} {σ : L2.St} {es : Env} (st : StOk K T F0 H0 F H σ es) {p : Addr} (nt : p ∉ T) (h : H p = none) : H0 p = none := by
  cases z : H0 p with
  | none => rfl
  | some o => rw [st.le.h p o nt z] at h; cases h
theorem ds_ret (he : DE X T W e f) : DS X T W (.Return (some e) pos) (gRet f) := fun F0 H0 => ps_weak (ps_ret he) fun D σ H ⟨F, es, st, q⟩ =>
  ⟨F0, H0, F, es, st, out_seq st q fun r v F1 H1 hr st1 l1 q1 h1 => by
    cases r with
    | val d => exact h1 v F1 H1 st1.le q1
    | brw d => exact h1.elim
    | bor xs => exact h1.elim
    | new xs => exact h1 v F1 H1 st1.le (Rr.back st.le q1)⟩
/-- return x -/
theorem ds_retV (i : Nat) {x : Str} {p : Pos} (hN : X.N[i]? = some x := by rfl) (hv : Vis X.env.scope x := by first | exact Or.inl rfl | exact Or.inr (Or.inl rfl) | exact Or.inr (Or.inr rfl)) (hd : (x == ("__debug__" : Str)) = false := by decide)
    (hcd : (x == ("__classdict__" : Str)) = false := by decide) : DS X T W (.Return (some (.Name x p)) pos) (gRetV i) := fun F0 H0 => ps_weak (ps_ret (pv i hN hv hd hcd)) fun D σ H ⟨F, es, st, q⟩ => by
  unfold gRetV at q
  cases hf : fVar i es with
  | no => rw [hf] at q; exact q.elim
  | exc c fs =>
    unfold fVar at hf
    split at hf <;> cases hf
  | ok r =>
    rw [hf] at q
    obtain ⟨v, h1, h2⟩ := st.var hf
    refine ⟨v, h1, ?_⟩
    cases r with
    | val d => exact q v F H st.le h2
    | brw d => exact q.elim
    | new xs =>
      unfold fVar at hf
      split at hf
      · cases hf
      · rename_i d _
        unfold nrm at hf
        split at hf <;> cases hf
      · cases hf
      · cases hf
    | bor xs =>
      have e : es[i]? = some (.own xs) := by
        unfold fVar at hf
        split at hf
        · cases hf
        · rename_i d _
          unfold nrm at hf
          split at hf <;> cases hf
        · rename_i e
          cases hf
          exact e
        · cases hf
      obtain ⟨p, vs, g1, g2, g3, g4, g5, g6⟩ := st.env.own i xs e
      rw [g1] at h1
      cases h1
      exact q (.ref p) F H st.le ⟨p, vs, rfl, g2, g3, g4, g5, g6⟩
def gRetN : Env → Out := fun _ => .rt (.val .non)
theorem ds_retN : DS X T W (.Return none pos) gRetN := fun F0 H0 => ps_weak ps_retN fun D σ H ⟨F, es, st, q⟩ => q .non F H st.le (by rw [Rr, Rp])
def gIf (c : Env → O Bool) (g h : Env → Out) : Env → Out := fun es => (c es).out es fun b => if b = true then g es else h es
theorem ds_if {c : Expr} {fc : Env → O Bool} {sa sb : List Stmt} (hc : DT X T W c fc) (ha : DSs X T W sa g) (hb : DSs X T W sb h) : DS X T W (.If c sa sb pos) (gIf fc g h) := fun F0 H0 => ps_weak (ps_if hc (ha F0 H0) (hb F0 H0)) fun D σ H ⟨F, es, st, q⟩ =>
  ⟨F0, H0, F, es, st, out_seq (rel := fun _ _ b a => b = a) st q fun a b F1 H1 _ st1 l1 q1 h1 => by
    subst q1
    cases b with
    | true => exact ⟨F1, es, st1, h1⟩
    | false => exact ⟨F1, es, st1, h1⟩⟩
def gPass : Env → Out := gNext
theorem ds_pass : DS X T W (.Pass pos) gNext := fun F0 H0 => ps_weak ps_pass fun D σ H ⟨F, es, st, h⟩ => h σ F H (Sub.refl _) st
def gBreak : Env → Out := fun es => .br es
def gCont : Env → Out := fun es => .ct es
theorem ds_break : DS X T W (.Break pos) gBreak := fun F0 H0 => ps_weak ps_break fun D σ H ⟨F, es, st, h⟩ => h σ F H (Sub.refl _) st
theorem ds_cont : DS X T W (.Continue pos) gCont := fun F0 H0 => ps_weak ps_continue fun D σ H ⟨F, es, st, h⟩ => h σ F H (Sub.refl _) st
/-! for -/
def forL (t : Tg) (body : Env → Out) : List R → Env → Out
  | [], es => .nx es
  | x :: xs, es => match stTg t x es with
    | none => .no
    | some e1 => match body e1 with
      | .nx e2 => forL t body xs e2
      | .ct e2 => forL t body xs e2
      | .br e2 => .nx e2
      | .rt r => .rt r
      | .exc es c fs => .exc es c fs
      | .no => .no
def gFor (src : Env → O (List R)) (t : Tg) (body : Env → Out) : Env → Out := fun es => (src es).out es fun xs => forL t body xs es
theorem ds_for {tg iter : Expr} {body : List Stmt} {src : Env → O (List R)} {t : Tg} (hi : DI true X T W tg iter src) (hg : PG X tg (tgOf X.K t)) (hb : DSs X T W body g) (hp : PassesOwn (model X.prog X.w) X.A X.env X.xe) (hc : X.calm = true := by rfl) (hs : ∀ x, foldedSetIterable iter X.env x = pure x := by intro _; rfl) :
    DS X T W (.For tg iter body [] pos) (gFor src t g) := fun F0 H0 => ps_weak (ps_for hp hc hi hg (hb F0 H0) hs) fun D σ H ⟨F, es, st, q⟩ => by
  refine ⟨F0, H0, F, es, st, out_seq st q fun xs J F1 H1 _ st1 l1 ⟨G, Y, w, hG, hY⟩ h1 => ?_⟩
  refine for_it w (fun i σ2 H2 => ∃ F2 e2, Sub F1 F2 ∧ StOk X.K T F0 H0 F2 H2 σ2 e2 ∧ OutOk X.K T W F0 H0 F2 D (forL t g (xs.drop i) e2)) ⟨F1, es, Sub.refl _, st1, h1⟩ ?_ ?_ ?_
  · intro i σ2 H2 hi ⟨F2, e2, s2, st2, _⟩
    exact hG F2 H2 ⟨s2, st2.le⟩
  · intro i x σ2 H2 H3 hi ⟨F2, e2, s2, st2, o2⟩ hy
    obtain ⟨F3, r, hx, l3, q3⟩ := hY i H2 x H3 F2 hi ⟨s2, st2.le⟩ hy
    have hdr : xs.drop i = r :: xs.drop (i + 1) := by
      have : i < xs.length := hi
      rw [List.drop_eq_getElem_cons this]
      rw [List.getElem?_eq_getElem this] at hx
      rw [Option.some.inj hx]
    rw [hdr] at o2
    simp only [forL] at o2
    cases he : stTg t r e2 with
    | none => rw [he] at o2; exact o2.elim
    | some e3 =>
      rw [he] at o2
      simp only at o2
      refine tg_ok (st2.step l3) q3 he fun σ3 st3 _ => ⟨F3, e3, st3, ?_⟩
      have s3 : Sub F1 F3 := s2.trans l3.f
      replace o2 := o2.sub l3.f
      cases hb : g e3 with
      | nx e4 => rw [hb] at o2; exact fun σ4 F4 H4 z st4 => ⟨F4, e4, s3.trans z, st4, o2.sub z⟩
      | ct e4 => rw [hb] at o2; exact fun σ4 F4 H4 z st4 => ⟨F4, e4, s3.trans z, st4, o2.sub z⟩
      | br e4 => rw [hb] at o2; exact o2
      | rt r => rw [hb] at o2; exact o2
      | exc es c fs => rw [hb] at o2; exact o2
      | no => rw [hb] at o2; exact o2
  · intro σ2 H2 ⟨F2, e2, s2, st2, o2⟩
    have e0 : xs.drop xs.length = [] := List.drop_length
    rw [e0] at o2
    exact o2 σ2 F2 H2 (Sub.refl _) st2
end
end Fw
namespace Fw
open PySem PySem.Spec PyProof.Rows L2
/-! ### lists of one's own that change -/
section
variable {K : PySem.W.Frag} {T : List Addr} {F0 H0 F H : Hp} {σ : L2.St} {es : Env}
theorem StOk.mutOwn {i : Nat} {xs xs' : List D} {p : Addr} {vs' : List V} (st : StOk K T F0 H0 F H σ es) (he : es[i]? = some (.own xs)) (hp : σ[i]? = some (some (.ref p))) (r : RpL K F xs' vs') :
    StOk K T F0 H0 F (upd H p (.lst vs')) σ (es.set i (.own xs')) := by
  obtain ⟨p', vs, h1, h2, h3, h4, h5, h6⟩ := st.env.own i xs he
  have e : p = p' := by rw [hp] at h1; cases h1; rfl
  subst e
  have hi : i < es.length := (List.getElem?_eq_some_iff.mp he).1
  refine ⟨st.ok0, st.le.mut h2 h3 h4, ⟨by simpa using st.env.len, fun j d h => ?_, fun j d h => ?_, fun j ys h => ?_, fun j k xs ys q g1 g2 g3 g4 => ?_, fun j yss h => ?_, st.env.dic.of (fun j ks ds h => ?_) (Sub.refl _) (fun _ _ _ f _ => f) (fun q us e _ _ => by
    rw [upd_ne (fun z => by subst z; rw [h5] at e; cases e)]; exact e)⟩⟩
  · rcases get_set h with ⟨e, e2⟩ | ⟨e, e2⟩
    · cases e2
    · exact st.env.val j d e2
  · rcases get_set h with ⟨e, e2⟩ | ⟨e, e2⟩
    · cases e2
    · exact st.env.brw j d e2
  · rcases get_set h with ⟨e, e2⟩ | ⟨e, e2⟩
    · subst e
      cases e2
      exact ⟨p, vs', h1, h2, h3, h4, upd_same, r⟩
    · obtain ⟨q, us, g1, g2, g3, g4, g5, g6⟩ := st.env.own j ys e2
      refine ⟨q, us, g1, g2, g3, g4, ?_, g6⟩
      have : q ≠ p := fun z => by
        subst z
        exact e (st.env.uni i j xs ys q he e2 h1 g1)
      rw [upd_ne this]; exact g5
  · have w : ∀ {j : Nat} {ys : List D}, (es.set i (.own xs'))[j]? = some (.own ys) → ∃ zs, es[j]? = some (.own zs) := fun {j ys} h => by
      rcases get_set h with ⟨e, _⟩ | ⟨_, e2⟩
      · exact ⟨_, e ▸ he⟩
      · exact ⟨_, e2⟩
    obtain ⟨_, w1⟩ := w g1
    obtain ⟨_, w2⟩ := w g2
    exact st.env.uni j k _ _ q w1 w2 g3 g4
  · rcases get_set h with ⟨e, e2⟩ | ⟨e, e2⟩
    · cases e2
    · obtain ⟨p2, ps, g1, g2, g3, g4⟩ := st.env.two j yss e2
      obtain ⟨n1, n2⟩ := g3 i xs p he h1
      obtain ⟨k1, k2, k3, k4, k5, k6, k7, k8⟩ := g2
      refine ⟨p2, ps, g1, ⟨k1, k2, k3, by rw [upd_ne (Ne.symm n1)]; exact k4, k5, k6, k7, fun m q hm => ?_⟩, fun m zs q hm hq => ?_, fun m zss hm => ?_⟩
      · obtain ⟨f1, f2, f3, us, zs, f4, f5, f6⟩ := k8 m q hm
        have : q ≠ p := fun z => n2 (z ▸ List.mem_iff_getElem?.mpr ⟨m, hm⟩)
        exact ⟨f1, f2, f3, us, zs, f4, by rw [upd_ne this]; exact f5, f6⟩
      · rcases get_set hm with ⟨f, _⟩ | ⟨_, f2⟩
        · subst f; exact g3 i xs q he hq
        · exact g3 m zs q f2 hq
      · rcases get_set hm with ⟨f, f2⟩ | ⟨_, f2⟩
        · cases f2
        · exact g4 m zss f2
  · rcases get_set h with ⟨e, e2⟩ | ⟨e, e2⟩
    · cases e2
    · exact ⟨e2, rfl⟩
end
section
variable {X : Cx} {T : List Addr} {W : WX} {e : Expr} {f : Env → O R} {x : Str} {p1 p2 p3 pos : Pos} {g : Env → Out}
/-! x.append(e) -/
def gApp (i : Nat) (f : Env → O R) : Env → Out := fun es => match es[i]? with
  | some (.own xs) => (f es).out es fun r => match r.fz.sto with
    | some d => if xs.length < 90000 then .nx (es.set i (.own (xs ++ [d]))) else .no
    | none => .no
  | _ => .no
theorem own_ty {K : PySem.W.Frag} {H : Hp} {p : Addr} {vs : List V} (h : H p = some (.lst vs)) : tyV K "list" (.ref p) H := Or.inl ⟨rfl, _, SqL.of h⟩
theorem ds_app (i : Nat) (he : DE X T W e f) (hN : X.N[i]? = some x := by rfl) (hv : Vis X.env.scope x := by first | exact Or.inl rfl | exact Or.inr (Or.inl rfl) | exact Or.inr (Or.inr rfl)) (hd : (x == ("__debug__" : Str)) = false := by decide)
    (hcd : (x == ("__classdict__" : Str)) = false := by decide)
    (hst : starEach [e] X.env = (false, eval e X.env) :: starEach [] X.env := by rfl)
    (hbase : attributeBase (.Name x p1) "append" X.env (eval (.Name x p1) X.env) = eval (.Name x p1) X.env := by rfl)
    (hfew : ((backTo p3 (starEach [e] X.env)).all (fun x => !x.1) && (backToKw p3 (keywordEach [] X.env)).all (fun x => x.1.isSome) && decide ([e].length + ([] : List Keyword).length + (if ([] : List Keyword).isEmpty then 0 else 1) < 30)) = true := by rfl)
    (hline : (p2.endLine == p3.line) = true := by rfl)
    (hs : swapsWith (.Call (.Attribute (.Name x p1) "append" p2) [e] [] p3) none pos.line X.env = pure false := by rfl) :
    DS X T W (.Expr (.Call (.Attribute (.Name x p1) "append" p2) [e] [] p3) pos) (gApp i f) := fun F0 H0 =>
  ps_weak (ps_expr (pe_bm PySem.F.plainAttrs_list PySem.F.slot_list_append PySem.F.type_list_append mt_append (pv i hN hv hd hcd) (pa_cons he pa_nil hst) hbase hfew hline hst rfl) hs) fun D σ H ⟨F, es, st, q⟩ => by
    unfold gApp at q
    split at q
    · rename_i xs e1
      obtain ⟨p, vs, h1, h2, h3, h4, h5, h6⟩ := st.env.own i xs e1
      refine ⟨.ref p, h1, own_ty h5, F0, H0, F, es, st, out_seq st q fun r v F1 H1 _ _ l1 q1 q => ?_⟩
      split at q
      · rename_i d e2
        split at q
        · rename_i hl
          obtain ⟨F2, l2, s2, q2⟩ := q1.fz l1
          have st2 := st.step l2
          have h5' : H1 p = some (.lst vs) := l2.h p _ h4 h5
          have rr : RpL X.K F2 (xs ++ [d]) (vs ++ [v]) := (h6.mono l2.f).app (RpL.cons (q2.sto e2) RpL.nil)
          exact ⟨p, vs, v, rfl, rfl, h5', by rw [← h6.len]; exact szl (by omega), q _ F2 _ s2 (st2.mutOwn e1 h1 rr)⟩
        · exact q.elim
      · exact q.elim
    · exact q.elim
/-! x.clear() -/
def gClr (i : Nat) : Env → Out := fun es => match es[i]? with
  | some (.own _) => .nx (es.set i (.own []))
  | _ => .no
theorem ds_clr (i : Nat) (hN : X.N[i]? = some x := by rfl) (hv : Vis X.env.scope x := by first | exact Or.inl rfl | exact Or.inr (Or.inl rfl) | exact Or.inr (Or.inr rfl)) (hd : (x == ("__debug__" : Str)) = false := by decide)
    (hcd : (x == ("__classdict__" : Str)) = false := by decide)
    (hbase : attributeBase (.Name x p1) "clear" X.env (eval (.Name x p1) X.env) = eval (.Name x p1) X.env := by rfl)
    (hline : (p2.endLine == p3.line) = true := by rfl)
    (hs : swapsWith (.Call (.Attribute (.Name x p1) "clear" p2) [] [] p3) none pos.line X.env = pure false := by rfl) :
    DS X T W (.Expr (.Call (.Attribute (.Name x p1) "clear" p2) [] [] p3) pos) (gClr i) := fun F0 H0 =>
  ps_weak (ps_expr (pe_bm0 PySem.F.plainAttrs_list PySem.F.slot_list_clear PySem.F.type_list_clear mt_clear (pv i hN hv hd hcd) hbase hline) hs) fun D σ H ⟨F, es, st, q⟩ => by
    unfold gClr at q
    split at q
    · rename_i xs e1
      obtain ⟨p, vs, h1, h2, h3, h4, h5, h6⟩ := st.env.own i xs e1
      exact ⟨.ref p, h1, own_ty h5, p, vs, rfl, rfl, h5, q _ F _ (Sub.refl _) (st.mutOwn e1 h1 RpL.nil)⟩
    · exact q.elim
/-! x[k] = e -/
def gSetI (i : Nat) (fk f : Env → O R) : Env → Out := fun es => (f es).out es fun r => match es[i]? with
  | some (.own xs) => (fk es).out es fun k => match k.fz, r.fz.sto with
    | .val (.int j), some d => match ixN xs.length j with
      | some n => .nx (es.set i (.own (xs.set n d)))
      | none => .no
    | _, _ => .no
  | _ => .no
theorem ds_setI (i : Nat) {ek : Expr} {fk : Env → O R} {pt : Pos} (hk : DE X T W ek fk) (he : DE X T W e f) (hN : X.N[i]? = some x := by rfl) (hv : Vis X.env.scope x := by first | exact Or.inl rfl | exact Or.inr (Or.inl rfl) | exact Or.inr (Or.inr rfl)) (hd : (x == ("__debug__" : Str)) = false := by decide)
    (hcd : (x == ("__classdict__" : Str)) = false := by decide) {tp : Pos}
    (hg : PG X (.Subscript (.Name x p1) ek tp) (gSub (tVar i) (tD X.K T W fk) rSetL)) (hs : swapsWithSole [.Subscript (.Name x p1) ek tp] e pos.line X.env = pure false := by rfl) (hw : swappedStores [.Subscript (.Name x p1) ek tp] e X.env = pure none := by rfl)
    (h1 : (assignEach [.Subscript (.Name x p1) ek tp] X.env).map (·.2) = [assign (.Subscript (.Name x p1) ek tp) X.env] := by rfl) :
    DS X T W (.Assign [.Subscript (.Name x p1) ek tp] e pos) (gSetI i fk f) := fun F0 H0 =>
  ps_weak (ps_asg he hg hs hw h1) fun D σ H ⟨F, es, st, q⟩ => by
    refine ⟨F0, H0, F, es, st, out_seq st q fun r v F1 H1 _ _ l1 q1 q => ?_⟩
    obtain ⟨F2, l2, s2, q2⟩ := q1.fz l1
    have st2 := st.step l2
    replace q := q.sub s2
    split at q
    · rename_i xs e1
      obtain ⟨p, vs, h1, h2, h3, h4, h5, h6⟩ := st2.env.own i xs e1
      refine ⟨.ref p, h1, F0, H0, F2, es, st2, out_seq st2 q fun k u F3 H3 _ _ l3 q3 q => ?_⟩
      obtain ⟨F4, l4, s4, q4⟩ := q3.fz l3
      have st4 := st2.step l4
      split at q
      · rename_i j d e2 e3
        split at q
        · rename_i n e4
          rw [e2] at q4
          refine ⟨p, vs, j, n, rfl, rq_int q4, l4.h p _ h4 h5, by rw [← h6.len]; exact e4, ?_⟩
          exact q _ F4 _ s4 (st4.mutOwn e1 h1 ((h6.mono l4.f).set n (((q2.step l4)).sto e3)))
        · exact q.elim
      · exact q.elim
    · exact q.elim
/-! while -/
def whL (c : Env → O Bool) (body : Env → Out) : Nat → Env → Out
  | 0, _ => .no
  | n + 1, es => (c es).out es fun b => if b = true then match body es with
      | .nx e2 => whL c body n e2
      | .ct e2 => whL c body n e2
      | .br e2 => .nx e2
      | .rt r => .rt r
      | .exc es c fs => .exc es c fs
      | .no => .no
    else .nx es
def gWhile (n : Nat) (c : Env → O Bool) (body : Env → Out) : Env → Out := whL c body n
theorem ds_while (n : Nat) {c : Expr} {fc : Env → O Bool} {body : List Stmt} (hc : DT X T W c fc) (hb : DSs X T W body g) (hp : PassesOwn (model X.prog X.w) X.A X.env X.xe) : DS X T W (.While c body [] pos) (gWhile n fc g) := fun F0 H0 =>
  ps_weak (ps_while hp hc (hb F0 H0)) fun D σ H ⟨F, es, st, q⟩ => by
    refine ⟨fun m σ H => ∃ F es, StOk X.K T F0 H0 F H σ es ∧ OutOk X.K T W F0 H0 F D (whL fc g m es), ⟨n, F, es, st, q⟩, ?_⟩
    intro m σ H ⟨F, es, st, q⟩
    refine ⟨F0, H0, F, es, st, ?_⟩
    cases m with
    | zero => exact q.elim
    | succ m =>
      simp only [whL] at q
      refine out_seq (rel := fun _ _ b a => b = a) st q fun a b F1 H1 _ st1 l1 q1 h1 => ?_
      subst q1
      cases b with
      | false => exact h1 σ F1 H1 (Sub.refl _) st1
      | true =>
        rw [if_pos rfl] at h1
        refine ⟨fun σ' H' => ∃ F' es', StOk X.K T F0 H0 F' H' σ' es' ∧ OutOk X.K T W F0 H0 F' D (whL fc g m es'), fun σ' H' w => ⟨m, Nat.lt_succ_self _, w⟩, ?_⟩
        refine ⟨F1, es, st1, ?_⟩
        cases hb : g es with
        | nx e2 => rw [hb] at h1; exact fun σ' F' H' z s => ⟨F', e2, s, h1.sub z⟩
        | ct e2 => rw [hb] at h1; exact fun σ' F' H' z s => ⟨F', e2, s, h1.sub z⟩
        | br e2 => rw [hb] at h1; exact h1
        | rt r => rw [hb] at h1; exact h1
        | exc es c fs => rw [hb] at h1; exact h1
        | no => rw [hb] at h1; exact h1
end
/-! ### a def's body -/
def slotD (d : D) : Sl := if flat d then .val d else .brw d
def startE (n : Nat) (ds : List D) : Env := ds.map slotD ++ List.replicate (n - ds.length) .no
/-- a def that raises nothing, by its body -/
def run0 (n : Nat) (body : Env → Out) (ds : List D) : O R := match body (startE n ds) with
  | .nx _ => .ok (.val .non)
  | .rt r => .ok r
  | _ => .no
def runX (n : Nat) (body : Env → Out) (ds : List D) : O R := match body (startE n ds) with
  | .nx _ => .ok (.val .non)
  | .rt r => .ok r
  | .exc _ c fs => .exc c fs
  | _ => .no
section
variable {K : PySem.W.Frag} {T : List Addr} {F H : Hp}
theorem start_ok {N : List Str} {ds : List D} {vs : List V} (ok : Ok T F H) (r : RpL K H ds vs) : StOk K T F H F H (L2.start N vs) (startE N.length ds) where
  ok0 := ok
  le := Le.refl ok
  env := by
    have ln := r.len
    have at_ : ∀ {i : Nat} {s : Sl}, (startE N.length ds)[i]? = some s → s ≠ .no → ∃ d v, ds[i]? = some d ∧ s = slotD d ∧ (L2.start N vs)[i]? = some (some v) ∧ Rp K H d v := fun {i s} h hn => by
      unfold startE at h
      by_cases hi : i < ds.length
      · rw [List.getElem?_append_left (by simpa using hi), List.getElem?_map] at h
        cases hd : ds[i]? with
        | none => rw [hd] at h; cases h
        | some d =>
          rw [hd] at h
          cases h
          obtain ⟨v, h1, h2⟩ := r.get hd
          refine ⟨d, v, rfl, rfl, ?_, h2⟩
          unfold L2.start
          rw [List.getElem?_append_left (by simp; omega), List.getElem?_map, h1]; rfl
      · rw [List.getElem?_append_right (by simp; omega), List.getElem?_replicate] at h
        split at h
        · cases h; exact absurd rfl hn
        · cases h
    refine ⟨by simp [L2.start, startE, ln], fun i d h => ?_, fun i d h => ?_, fun i xs h => ?_, fun i j xs ys p h1 h2 h3 h4 => ?_, fun i xss h => ?_, ⟨fun i ks es h => ?_, fun i j ks es ls fs p h1 h2 h3 h4 => ?_⟩⟩
    · obtain ⟨d', v, h1, h2, h3, h4⟩ := at_ h (by simp)
      unfold slotD at h2
      split at h2
      · rename_i f
        cases h2
        exact ⟨v, h3, Rp.flat f h4⟩
      · cases h2
    · obtain ⟨d', v, h1, h2, h3, h4⟩ := at_ h (by simp)
      unfold slotD at h2
      split at h2
      · cases h2
      · cases h2
        exact ⟨v, h3, h4⟩
    · obtain ⟨d', v, h1, h2, h3, h4⟩ := at_ h (by simp)
      unfold slotD at h2
      split at h2 <;> cases h2
    · obtain ⟨d', v, g1, g2, g3, g4⟩ := at_ h1 (by simp)
      unfold slotD at g2
      split at g2 <;> cases g2
    · obtain ⟨d', v, g1, g2, g3, g4⟩ := at_ h (by simp)
      unfold slotD at g2
      split at g2 <;> cases g2
    · obtain ⟨d', v, g1, g2, g3, g4⟩ := at_ h (by simp)
      unfold slotD at g2
      split at g2 <;> cases g2
    · obtain ⟨d', v, g1, g2, g3, g4⟩ := at_ h1 (by simp)
      unfold slotD at g2
      split at g2 <;> cases g2
/-- what is handed back, as the promise has it -/
theorem run_out {W : WX} {E : XK} {Q : VK} {body : Env → Out} {n : Nat} {ds : List D} {g : List D → O R} (hW : ∀ cls d σ H, E cls d H → W cls d σ H) (hg : ∀ ds, g ds = runX n body ds)
    (h : match g ds with
      | .ok (.val d) => ∀ v F' H', Le T F H F' H' → Rr K T H H F' H' v (.val d) → Q v H'
      | .ok (.new xs) => ∀ v F' H', Le T F H F' H' → Rr K T H H F' H' v (.new xs) → Q v H'
      | .exc c fs => ∀ cls d F' H', Le T F H F' H' → XOk K H' c fs cls d → E cls d H'
      | _ => False) : OutOk K T W F H F { nx := fun _ H' => Q .non H', rt := Q } (body (startE n ds)) := by
  rw [hg] at h
  unfold runX at h
  cases hb : body (startE n ds) with
  | nx es => rw [hb] at h; exact fun σ F' H' z s => h .non F' H' s.le (by rw [Rr, Rp])
  | br es => rw [hb] at h; exact h.elim
  | ct es => rw [hb] at h; exact h.elim
  | no => rw [hb] at h; exact h.elim
  | exc es c fs => rw [hb] at h; exact fun cls d σ F' H' z s x => hW _ _ _ _ (h cls d F' H' s.le x)
  | rt r =>
    rw [hb] at h
    cases r with
    | val d => exact fun v F' H' l q => h v F' H' l q
    | new xs => exact fun v F' H' l q => h v F' H' l q
    | brw d => exact h.elim
    | bor xs => exact h.elim
end
section
variable {P : Program} {w : World} {K : PySem.W.Frag} {mg : Str → Option Value} {base : Heap} {T : List Addr}
theorem fn_ok0 {x qual : Str} {st : Stmt} {f : Addr} {fd : FuncData} {N ps : List Str} {k : Nat} (F : Fun K x qual st f fd) (S : FnScope N ps (defScope st)) (body : Env → Out)
    (h : ∀ (cdv : Value) (A : Around) (outer : List PySem.Env) (s : Shared) (H : Hp) (E : XK), Room k (A.deeper (envOfC qual (defScope st) s.heap.objs.size f cdv)) → DSs (cxOf CX0 P w K mg base N qual (defScope st) f cdv A outer s H E).nox T W0 (defBody st) body) :
    FnOk P w K mg base CX0 (k + 1) f fd ps (spD K T ps.length (run0 N.length body)) := by
  refine F.ok S (fun vs H Q E h => by obtain ⟨F, ds, hl, _⟩ := h; exact hl) (fun cdv A outer s H vs Q E hr hsp => ?_)
  · obtain ⟨F, ds, hl, ok, r, q⟩ := hsp
    refine ⟨_, h cdv A outer s H E hr F H, F, _, start_ok (N := N) ok r, ?_⟩
    have q' : match runX N.length body ds with
      | .ok (.val d) => ∀ v F' H', Le T F H F' H' → Rr K T H H F' H' v (.val d) → Q v H'
      | .ok (.new xs) => ∀ v F' H', Le T F H F' H' → Rr K T H H F' H' v (.new xs) → Q v H'
      | .exc c fs => ∀ cls d F' H', Le T F H F' H' → XOk K H' c fs cls d → False
      | _ => False := by
      unfold run0 at q
      unfold runX
      cases hb : body (startE N.length ds) with
      | nx es => rw [hb] at q; exact q
      | rt r => cases r <;> (rw [hb] at q; exact q)
      | br es => rw [hb] at q; exact q
      | ct es => rw [hb] at q; exact q
      | no => rw [hb] at q; exact q
      | exc es c fs => rw [hb] at q; exact q.elim
    exact run_out (E := fun _ _ _ => False) (fun _ _ _ _ z => z) (fun _ => rfl) q'
end
end Fw
namespace Fw
open PySem PySem.Spec PyProof.Rows L2
/-! ### enumerate of a text -/
def IteS (z : Str) : It :=
  ⟨fun i _ => i < z.cps.size, fun i H v H' => ∃ p c, v = .ref p ∧ H p = none ∧ H' = upd H p (.tup [.int (i : Nat), .str ⟨#[c]⟩]) ∧ z.cps[i]? = some c, fun i _ => i = z.cps.size⟩
theorem walk_enumS {z : Str} : Walk (IteS z) z.cps.size (fun _ => True) (fun i H v H' => ∃ p c, v = .ref p ∧ H p = none ∧ H' = upd H p (.tup [.int (i : Nat), .str ⟨#[c]⟩]) ∧ z.cps[i]? = some c) where
  goes := fun i H h _ => h
  stops := fun H _ => rfl
  yields := fun i H x H' h _ y => y
theorem turn_enumS {P : Program} {w : World} {K : PySem.W.Frag} {elts : List Expr} {kk : Nat} {tpos : Pos} (z : Str) (t : Tok) (e it : Addr) :
    Turn P w K (.Tuple elts kk tpos) (IteS z) [e, it] e (fun i h => (∃ old, IsEnum h e it ((i : Nat) : Int) old) ∧ h.IsStrIter it (strIterType z) z t i ∧ e ≠ it) where
  mem := by simp
  obj := fun i h st b hb => by
    obtain ⟨⟨old, he⟩, ⟨o, ho, hc, hd⟩, _⟩ := st
    rcases List.mem_cons.mp hb with q | q
    · subst q; exact ⟨_, he, fun v q => nomatch q⟩
    · have q2 : b = it := by simpa using q
      subst q2; exact ⟨o, ho, fun v q => by rw [hd] at q; cases q⟩
  keep := fun i h h' st k => by
    obtain ⟨⟨old, he⟩, ⟨o, ho, hr⟩, hne⟩ := st
    exact ⟨⟨old, k e (by simp) _ he⟩, ⟨o, k it (by simp) _ ho, hr⟩, hne⟩
  item := by
    intro X hP hw hK hc i pins s σ H E I hf st hg
    subst hP hw hK
    obtain ⟨⟨old, he⟩, hit, hne⟩ := st
    have hh : X.A.in1.handled = none := I.ok.hd hc
    have hel : e < s.heap.objs.size := Heap.lt_size he
    have hil : it < s.heap.objs.size := by obtain ⟨_, q, _⟩ := hit; exact Heap.lt_size q
    refine wpAny_pyNext_enum_itemD (Draws.text hh it z t) he hit hg hne (by simpa using hne) fun x h' tk ⟨c, u, hx, ex⟩ ho hit' hT hsz hk => ?_
    subst ex
    refine ⟨_, rfl, wpAny_letOwnedTupleGo_enum (s := { s with heap := h', toks := tk + 1 }) ho fun h2 he2 sb => ?_⟩
    have hT2 : h2.get? s.heap.objs.size = some { cls := .type "tuple", data := .seq #[.int i tk, .str ⟨#[c]⟩ u] } := (sb.2 _ (Nat.ne_of_gt hel)).trans hT
    have new : ObjOk X.prog X.w (upd H s.heap.objs.size (.tup [.int (i : Nat), .str ⟨#[c]⟩])) h2 s.heap.objs.size (.tup [.int (i : Nat), .str ⟨#[c]⟩]) :=
      ⟨by show 2 ≤ sizeLine; decide, [.int i tk, .str ⟨#[c]⟩ u], .cons ⟨_, rfl⟩ (.cons ⟨_, rfl⟩ .nil), ⟨_, hT2, rfl, _, rfl⟩⟩
    have I1 : Inv X pins σ (upd H s.heap.objs.size (.tup [.int (i : Nat), .str ⟨#[c]⟩])) { s with heap := h2, toks := tk + 1 } :=
      I.turnedNew (ch := [e, it]) (fun b ob hb q => (sb.2 b (fun z => hb (by simp [z]))).trans (hk b ob (fun z => hb (by simp [z])) (fun z => hb (by simp [z])) q)) hf (Nat.le_refl _) new
    refine ⟨.ref s.heap.objs.size, _, I1, rfl, ⟨_, c, rfl, I.hok.fresh (Nat.le_refl _), rfl, hx⟩, ⟨⟨.str ⟨#[c]⟩ u, ?_⟩, ?_, hne⟩, fun b hb => ?_⟩
    · have e1 : ((i + 1 : Nat) : Int) = (i : Int) + 1 := by omega
      rw [e1]; exact he2
    · obtain ⟨o, g1, g2⟩ := hit'
      exact ⟨o, (sb.2 it (Ne.symm hne)).trans g1, g2⟩
    · have hlt : b < s.heap.objs.size := by
        rcases List.mem_cons.mp hb with q | q
        · rw [q]; exact hel
        · have q2 : b = it := by simpa using q
          rw [q2]; exact hil
      rw [upd_ne (Nat.ne_of_lt hlt)]
      exact (hf b hb).1
  done := by
    intro X hP hw hK hc i pins s σ H E I hf st hg
    subst hP hw hK
    obtain ⟨⟨old, he⟩, hit, hne⟩ := st
    have hh : X.A.in1.handled = none := I.ok.hd hc
    obtain ⟨f0, f1, f2, f3, f4, f5⟩ := hf it (by simp)
    have hi : i = z.cps.size := hg
    subst hi
    exact wpAny_pyNext_enum_endD (Draws.text hh it z t) he hit fun h' eb => ⟨rfl, I.turned (t' := s.toks) (fun b o hb q => eb b o hb q) f0 f1 f3 f4 f5⟩
  self := fun A i s Q E st h => let ⟨⟨_, he⟩, _⟩ := st; wpAny_pyIter_enum he h
/-- enumerate of a list or a text, by its value -/
def iEnumA (K : PySem.W.Frag) (ta : TA) : TI := fun σ H Rk => ta σ H fun vs H1 => (∃ a xs, vs = [V.ref a] ∧ SqL K H1 a xs ∧ Rk (Ite K a) H1) ∨ ∃ z, vs = [V.str z] ∧ Rk (IteS z) H1
theorem pi_enumA {X : Cx} {e : Expr} {ta : TA} {p pos tpos : Pos} {elts : List Expr} {kk : Nat} (hg : Gl X "enumerate") (hm : X.mg "enumerate" = none) (ha : PA X [e] ta) (hs : starEach [e] X.env = [(false, eval e X.env)] := by rfl) :
    PI X (.Tuple elts kk tpos) (.Call (.Name "enumerate" p) [e] [] pos) (iEnumA X.K ta) := by
  refine ⟨fun pins s σ H Rk I h => ?_⟩
  refine Call_ (ld_blt I hg hm boot_enumerate (PyProof.Rows.callWith_type1 (thn (ha.run pos pins s σ H _ I h) fun us s1 ⟨vs, H1, I1, r1, q1⟩ => ?_) hs rfl))
  have hin : ∀ b : Addr, b ∈ [s1.heap.objs.size + 1, s1.heap.objs.size] → s1.heap.objs.size ≤ b := fun b hb => by
    rcases List.mem_cons.mp hb with q | q
    · rw [q]; exact Nat.le_succ _
    · have q2 : b = s1.heap.objs.size := by simpa using q
      rw [q2]; exact Nat.le_refl _
  rcases q1 with ⟨a, xs, ex, hq, q⟩ | ⟨z, ex, q⟩
  · subst ex
    obtain ⟨u, rfl, ru⟩ := vals1 r1
    cases ru
    obtain ⟨its, rv, p', hz⟩ := I1.list hq
    refine call_enumerate_list p'.isList fun h' he hit hsz hk => wpAny_pyIter_enum he ?_
    have I2 : Inv X pins σ H1 { s1 with heap := h' } := I1.kept (t' := s1.toks) hk
    exact ⟨s1.heap.objs.size + 1, [s1.heap.objs.size + 1, s1.heap.objs.size], _, _, H1, rfl, I2, turn_enum a (s1.heap.objs.size + 1) s1.heap.objs.size, ⟨⟨.none, he⟩, hit, Nat.succ_ne_self _⟩, fun b hb => I1.fpOk (hin b hb) (I1.hok.fresh (hin b hb)), q⟩
  · subst ex
    obtain ⟨u, rfl, ru⟩ := vals1 r1
    obtain ⟨t, rfl⟩ := ru
    refine call_enumerate_str fun h' he hit hsz hk => wpAny_pyIter_enum he ?_
    have I2 : Inv X pins σ H1 { s1 with heap := h' } := I1.kept (t' := s1.toks) hk
    exact ⟨s1.heap.objs.size + 1, [s1.heap.objs.size + 1, s1.heap.objs.size], _, _, H1, rfl, I2, turn_enumS z t (s1.heap.objs.size + 1) s1.heap.objs.size, ⟨⟨.none, he⟩, hit, Nat.succ_ne_self _⟩, fun b hb => I1.fpOk (hin b hb) (I1.hok.fresh (hin b hb)), q⟩
/-- pairs of the places and the items -/
def enD (k : Nat) : List D → List R
  | [] => []
  | d :: ds => .val (.tup [.int (k : Int), d]) :: enD (k + 1) ds
theorem enD_len : ∀ (k : Nat) (ds : List D), (enD k ds).length = ds.length
  | _, [] => rfl
  | k, d :: ds => by simp [enD, enD_len (k + 1) ds]
theorem enD_at : ∀ (k : Nat) (ds : List D) (i : Nat) (d : D), ds[i]? = some d → (enD k ds)[i]? = some (.val (.tup [.int ((k + i : Nat) : Int), d]))
  | _, [], i, d, h => by simp at h
  | k, d :: ds, 0, d', h => by simp at h; subst h; simp [enD]
  | k, d :: ds, i + 1, d', h => by
    have := enD_at (k + 1) ds i d' (by simpa using h)
    simp only [enD, List.getElem?_cons_succ]
    rw [this]
    have e : k + 1 + i = k + (i + 1) := by omega
    rw [e]
def enR (fz : Bool) : R → Option (List R)
  | .val (.lst xs) => some (enD 0 xs)
  | .val (.str s) => some (enD 0 (signsD s))
  | .brw (.lst xs) => if xs.all flat then some (enD 0 xs) else none
  | .bor xs => if fz then none else some (enD 0 xs)
  | _ => none
def fEnum (fz : Bool) (fr : Env → O (List R)) : Env → O (List R) := fun es => (fr es).bind fun rs => match rs with
  | [r] => O.of (enR fz r)
  | _ => .no
section
variable {X : Cx} {T : List Addr} {W : WX} {fz : Bool}
/-- a pair is laid -/
theorem pair_step {K : PySem.W.Frag} {H0 F2 H2 : Hp} {p : Addr} {i : Nat} {v : V} {d : D} (ok : Ok T F2 H2) (hp : H2 p = none) (h : Rp K F2 d v) : Le T F2 H2 (upd F2 p (.tup [.int (i : Int), v])) (upd H2 p (.tup [.int (i : Int), v])) ∧
    Rq K T H0 (upd F2 p (.tup [.int (i : Int), v])) (upd H2 p (.tup [.int (i : Int), v])) (.ref p) (.val (.tup [.int (i : Int), d])) :=
  ⟨Le.new ok hp, rp_tup (ok.nf hp) (RpL.cons (by rw [Rp]) (RpL.cons h RpL.nil))⟩
theorem src_enum {K : PySem.W.Frag} {F0 H0 F' H' : Hp} {a : Addr} {xs : List D} {vs : List V} (hs : ∀ F2 H2, Sta T fz F0 H0 F' H' F2 H2 → SqL K H2 a vs) (r : ∀ F2 H2, Sta T fz F0 H0 F' H' F2 H2 → RpL K F2 xs vs) (hl : xs.length = vs.length) :
    Src K T H0 (Sta T fz F0 H0 F' H') (enD 0 xs) (Ite K a) := by
  refine ⟨fun H => SqL K H a vs, YPair (fun i => some (.int (i : Nat))) (fun i => vs[i]?), by rw [enD_len, hl]; exact walk_enum, fun F2 H2 s => hs F2 H2 s, fun i H2 x H3 F2 hi s ⟨p, u, w, e1, e2, e3, e4, e5⟩ => ?_⟩
  subst e1 e3
  cases e4
  obtain ⟨d, h1, h2⟩ := (r F2 H2 s).getV e5
  obtain ⟨l, q⟩ := pair_step (H0 := H0) (i := i) s.2.ok e2 h2
  exact ⟨_, _, by rw [enD_at 0 xs i d h1, Nat.zero_add], l, q⟩
theorem src_enumS {K : PySem.W.Frag} {F0 H0 F' H' : Hp} {s : List Nat} : Src K T H0 (Sta T fz F0 H0 F' H') (enD 0 (signsD s)) (IteS (tx s)) := by
  refine ⟨fun _ => True, fun i H v H' => ∃ p c, v = V.ref p ∧ H p = none ∧ H' = upd H p (.tup [.int (i : Nat), .str ⟨#[c]⟩]) ∧ (tx s).cps[i]? = some c, by
    have e : (enD 0 (signsD s)).length = (tx s).cps.size := by rw [enD_len]; simp [signsD, tx]
    rw [e]; exact walk_enumS, fun _ _ _ => trivial, fun i H2 x H3 F2 hi st ⟨p, c, e1, e2, e3, e4⟩ => ?_⟩
  subst e1 e3
  have hc : s[i]? = some c := by simpa [tx] using e4
  have h1 : (signsD s)[i]? = some (.str [c]) := by simp [signsD, hc]
  obtain ⟨l, q⟩ := pair_step (K := K) (H0 := H0) (i := i) (v := .str ⟨#[c]⟩) (d := .str [c]) st.2.ok e2 (by rw [Rp]; rfl)
  exact ⟨_, _, by rw [enD_at 0 _ i _ h1, Nat.zero_add], l, q⟩
theorem di_enum {e : Expr} {fr : Env → O (List R)} {p pos tpos : Pos} {elts : List Expr} {kk : Nat} (hm : X.mg "enumerate" = none) (ha : DA X T W [e] fr) (hg : Gl X "enumerate" := by rfl) (hs : starEach [e] X.env = [(false, eval e X.env)] := by rfl) :
    DI fz X T W (.Tuple elts kk tpos) (.Call (.Name "enumerate" p) [e] [] pos) (fEnum fz fr) :=
  pi_weak (pi_enumA hg hm ha hs) fun σ H Rk ⟨F0, H0, F, es, st, h⟩ => ⟨F0, H0, F, es, st, pa_seqI st h (fun _ _ _ _ z => z) fun rs vs F1 H1 _ st1 l1 q1 h1 => by
    split at h1
    · rename_i r _
      obtain ⟨v, rfl, q2⟩ := rql1 q1
      cases hr : enR fz r with
      | none => rw [hr] at h1; exact h1.elim
      | some xs =>
        rw [hr] at h1
        have fin : ∀ J, Src X.K T H0 (Sta T fz F0 H0 F1 H1) xs J → Rk J H1 := fun J s => h1 J F1 H1 (Le.refl st1.ok) s
        unfold enR at hr
        split at hr
        · cases hr
          rw [Rq, Rp] at q2
          obtain ⟨a, vs, rfl, h2, h3⟩ := q2
          exact .inl ⟨a, vs, rfl, st1.ok.sub.l h2, fin _ (src_enum (fun F2 H2 s => s.2.ok.sub.l (s.f.l h2)) (fun F2 H2 s => h3.mono s.f) h3.len)⟩
        · cases hr
          exact .inr ⟨_, by rw [rq_str q2], fin _ src_enumS⟩
        · split at hr
          · rename_i hf
            cases hr
            rw [Rq, Rp] at q2
            obtain ⟨a, vs, rfl, h2, h3⟩ := q2
            exact .inl ⟨a, vs, rfl, st1.up.l h2, fin _ (src_enum (fun F2 H2 s => s.2.l st1.ok0.tab h2) (fun F2 H2 s => h3.flat hf) h3.len)⟩
          · cases hr
        · split at hr
          · cases hr
          · rename_i hf
            cases hr
            have e : fz = false := by simpa using hf
            subst e
            obtain ⟨p, vs, rfl, h2, h3, h4, h5⟩ := q2
            refine .inl ⟨p, vs, rfl, .inl (.inl h4), fin _ (src_enum (fun F2 H2 s => ?_) (fun F2 H2 s => h5.mono s.f) h5.len)⟩
            have l : Le T F1 H1 F2 H2 := s.1
            exact .inl (.inl (l.h p _ h3 h4))
        · cases hr
    · exact h1.elim⟩
end
end Fw
namespace Fw
open PySem PySem.Spec PyProof.Rows L2
/-! ### all(test for x in text), the test with names of the module -/
/-- a test of the one sign that x holds; the module's names may be read -/
def EltG (X : Cx) (scope : Scope) (x : Str) (elt : Expr) (pb : Nat → Bool) : Prop :=
  ∀ (ce : PySem.Env) (B : Around) (E' : Value → Shared → Prop) (c : Nat) (t : Tok) (s2 : Shared) (m : Str → Option Value), B.handled = none → ce.scope = scope → ce.globals = mainGlobals →
    (∀ b o, X.base.get? b = some o → s2.heap.get? b = some o) → s2.heap.Ns ce.locals m → m x = some (.str ⟨#[c]⟩ t) →
    wpAny (model X.prog X.w) B (eval elt ce) (fun y s3 => y = .bool (pb c) ∧ Keeps s2 s3) E' s2
section
variable {X : Cx} {pins : List (Addr × Obj)} {σ : L2.St} {H : Hp} {s : Shared}
theorem gen_textG {c P : Addr} {elt iter : Expr} {x : Str} {px gp : Pos} {scope : Scope} {pb : Nat → Bool} {te : TE} {k : Nat} {Qg : Value → Shared → Prop} {Rw : Str → Hp → Prop} (room : Room k X.A)
    (tb : GxR.TabB X.base X.mg c P) (code : X.env.code = .ref c) (sc : GxR.GenS X.env scope x) (pi : PE X iter te) (pel : EltG X scope x elt pb) (fold : ∀ v, genFold iter X.env v = pure v) (I : Inv X pins σ H s)
    (h : te σ H fun v H1 => ∃ a : Str, v = .str a ∧ GxR.TabG H1 P ∧ Rw a H1) (hQ : ∀ a H1 g s5, Rw a H1 → GxR.Ready X pins σ H1 P a pb g s5 → Qg (.ref g) s5) :
    wpAny (model X.prog X.w) X.A (eval (.GeneratorExp elt [⟨.Name x px, iter, [], 0⟩] scope gp) X.env) Qg X.xe s := by
  refine wpAny_GeneratorExp_walksQ room.hd sc.co (closure_ok sc.free) sc.cell sc.dot sc.loc sc.kind (by have z := room.dp; omega) ?_ fold
  refine thn (pi.run pins s σ H _ I h) fun u s1 ⟨v, H1, I1, r1, q1⟩ => ?_
  obtain ⟨a, rfl, ⟨ps, tabP, trip⟩, q1⟩ := q1
  obtain ⟨t, rfl⟩ := _root_.id r1
  refine wpAny_pyIter_str fun o St W start0 => ?_
  have atP : s1.heap.get? P = some { cls := .none, data := .fields ps } := I1.hok P _ tabP
  have ltP : P < s1.heap.objs.size := Heap.lt_size atP
  have atP2 : (s1.heap.push o).get? P = some { cls := .none, data := .fields ps } := Heap.get?_push_of_some _ atP
  have hd : PySem.W.CodeHd (s1.heap.push o) c P := tb.code.keeps fun b u e => Heap.get?_push_of_some _ (I1.bk b u e)
  have lim : (s1.heap.push o).NoLimit := I1.nolimit.push o
  have goOn : ∀ (cv : Value) (h3 : Heap) (tk : Nat) (qs : Array Value), Heap.ExtBut P (s1.heap.push o) h3 → (s1.heap.push o).objs.size ≤ h3.objs.size → h3.get? P = some { cls := .none, data := .fields qs } →
      (∃ more, qs = ps ++ more) → TriplesOk qs.toList → wpAny (model X.prog X.w) X.A (builtinsFor X.env.globals X.env.builtins) (fun bi s4 =>
        ∃ Ia fp wr n0 Pf St0 pz Fy, Value.ref s1.heap.objs.size = .ref Ia ∧ (∀ B : Around, B.handled = none → Walks X.prog X.w B Ia fp wr n0 Pf St0) ∧ St0 0 s4.heap ∧ (∀ b ∈ fp, b < s4.heap.objs.size) ∧
          s4.heap.NoLimit ∧ cStatics ∉ wr ∧ (∀ hr : Heap, (∀ b o, s4.heap.get? b = some o → hr.get? b = some o) →
            QuietGen X.prog X.w (genEnv scope (cloFrom X.env.cells scope.names []) s4.heap.objs.size cv bi X.env) x [] elt (List.range s4.heap.objs.size) wr Pf pz Fy hr) ∧
          (∀ a h5 tk gs, gs.bare = true → s4.heap.objs.size < a → h5.objs.size = a + 1 → (∀ b o, s4.heap.get? b = some o → h5.get? b = some o) →
            WalksS X.prog X.w X.A.in4 a (a :: s4.heap.objs.size :: List.range s4.heap.objs.size) (s4.heap.objs.size :: wr) (GenOnlyQ s4.gens.size) (passing pz n0 0).length
              (fun j y => ∃ i, (passing pz n0 0)[j]? = some i ∧ Fy i y) (GenAt X.prog X.w X.A.in4 a s4.gens.size s4.heap.objs.size (List.range s4.heap.objs.size) wr pz n0 Fy) →
            GenAt X.prog X.w X.A.in4 a s4.gens.size s4.heap.objs.size (List.range s4.heap.objs.size) wr pz n0 Fy 0 { s4 with gens := s4.gens.push gs, toks := tk, heap := h5 } →
            Qg (.ref a) { s4 with gens := s4.gens.push gs, toks := tk, heap := h5 })) X.xe { s1 with heap := h3, toks := tk } := by
    intro cv h3 tk qs ext szs atP3 grown trip3
    obtain ⟨bm, ob, e1, e2, e3, e4, e5, e6, e7, e8⟩ := tb.bm
    have apart : cStatics ≠ P := fun e => by
      obtain ⟨_, ns, _⟩ := I1.nolimit
      obtain ⟨o', es, ep, ho, hd', _⟩ := ns
      rw [e, atP] at ho
      cases ho
      cases hd'
    have statLt : cStatics < s1.heap.objs.size := let ⟨_, ns, _⟩ := I1.nolimit; ns.lt
    have szPush : (s1.heap.push o).objs.size = s1.heap.objs.size + 1 := Heap.size_push ..
    have kept3 : ∀ b u, b ≠ P → s1.heap.get? b = some u → h3.get? b = some u := fun b u n e => ext b u n (Heap.get?_push_of_some _ e)
    refine wpAny_builtinsFor (m := X.mg) (by rw [I1.ok.glob]; exact ((I1.mod.glob.keeps I1.bk).push o).extBut ext tb.gP) e1 e2 (kept3 _ _ e4 (I1.bk _ _ e5)) e6 e7 e8 ?_
    have notP : ∀ b u, X.base.get? b = some u → b ≠ P := fun b u e z => by
      have n := (I1.bs b u e).2
      rw [z, tabP] at n
      cases n
    refine ⟨s1.heap.objs.size, [s1.heap.objs.size], [s1.heap.objs.size], a.cps.size, SignAt a, St, (fun _ => true), (fun i y => ∃ cc, a.cps[i]? = some cc ∧ y = .bool (pb cc)), rfl, W, ?_, ?_, lim.extBut ext apart, ?_, ?_, ?_⟩
    · refine (W X.A room.hd).frame _ _ _ start0 fun b hb u e => ext b u (fun z => ?_) e
      rcases List.mem_cons.mp hb with q | q
      · exact Nat.ne_of_lt ltP (z.symm.trans q)
      · cases q
    · intro b hb
      rcases List.mem_cons.mp hb with q | q
      · subst q
        show s1.heap.objs.size < h3.objs.size
        omega
      · cases q
    · intro hm
      rcases List.mem_cons.mp hm with q | q
      · exact Nat.ne_of_lt statLt q
      · cases q
    · intro hr hrk
      refine ⟨fun B E' i v s2 m2 hB hv hn hm hk => ?_, fun B E' i v s2 m2 hB hv hp hn hm hk => ?_⟩
      · simp only [List.forIn_nil]
        exact wpAny_pure ⟨rfl, GxR.keeps_refl _⟩
      · obtain ⟨cc, u, hcc, rfl⟩ := hv
        refine wpAny_mono (pel _ B E' cc u s2 m2 hB rfl I1.ok.glob (fun b ob e => ?_) hn hm) (fun y s3 r => ⟨⟨cc, hcc, r.1⟩, r.2⟩) fun _ _ e => e
        have g1 := I1.bk b ob e
        have g3 : h3.get? b = some ob := kept3 b ob (notP b ob e) g1
        refine hk b (List.mem_range.mpr (Heap.lt_size g3)) (fun z => ?_) ob (hrk b ob g3)
        have z2 : b = s1.heap.objs.size := by simpa using z
        have lt := Heap.lt_size g1
        rw [z2] at lt
        exact Nat.lt_irrefl _ lt
    · intro g h5 tk5 gs bare5 ab5 sz5 kept5 W5 at0
      simp only [GxR.passing_true, List.length_range] at W5
      refine hQ a H1 g _ q1 ⟨_, _, _, _, _, W5.in4_1, at0, ?_, fun s6 mv => ?_⟩
      · intro j y sj Qj Ej hy hQj
        obtain ⟨i, hij, cc, hcc, rfl⟩ := hy
        obtain ⟨hj, ej⟩ := List.getElem?_eq_some_iff.mp hij
        rw [List.getElem_range] at ej
        subst ej
        have hl : a.cps.toList[j]? = some cc := by rw [Array.getElem?_toList]; exact hcc
        have hQ2 : Qj (GxR.trF pb a.cps.toList j) sj := hQj
        rw [GxR.trF_some hl] at hQ2
        exact wpAny_truthy_bool hQ2
      · obtain ⟨more, em⟩ := grown
        have off : ∀ b u, s1.heap.get? b = some u → b ∉ h3.objs.size :: [s1.heap.objs.size] := fun b u e hb => by
          have lt := Heap.lt_size e
          rcases List.mem_cons.mp hb with q | q
          · rw [q] at lt
            have lt2 : (h3.objs.size : Nat) < s1.heap.objs.size := lt
            omega
          · have q2 : b = s1.heap.objs.size := by simpa using q
            rw [q2] at lt
            exact Nat.lt_irrefl _ lt
        have J := GxR.inv_tab (more := more) (h' := s6.heap) (g' := s6.gens) (d' := s6.drawn) (t' := s6.toks) I1 tabP (fun b u n e => mv.heap b u (off b u e) (kept5 b u (kept3 b u n e)))
          (by rw [← em]; exact mv.heap P _ (off P _ atP) (kept5 P _ atP3)) (AllBare.movedS (I1.bare.push bare5) mv)
        rw [GxR.sh_eta s1 s6 mv.os] at J
        exact ⟨upd H1 P (.tbl (ps ++ more)), ⟨⟨ps ++ more, upd_same, by rw [← em]; exact trip3⟩, fun b n => upd_ne n⟩, J⟩
  refine ⟨lim, ?_⟩
  cases hf : codeAmong gp ps.toList with
  | some cv =>
    refine wpAny_genexprCode_hit code (hd.code atP2 trip) hf ?_
    exact goOn cv (s1.heap.push o) s1.toks ps (Heap.ExtBut.refl _ _) (Nat.le_refl _) atP2 ⟨#[], by simp⟩ trip
  | none =>
    refine wpAny_genexprCodeX code (hd.code atP2 trip) (hd.tab atP2) hf fun c' h' tk ext hge hlt co _ tab _ => ?_
    obtain ⟨o1, vs, f1, tf, fl, tg, inF, tx, tt, op, _, _, _, _, _, _, _, _, _, htr, _⟩ := co
    exact goOn _ h' tk _ ext (Nat.le_trans hge (Nat.le_of_lt hlt)) tab.2 ⟨_, rfl⟩ htr
theorem pe_allG {c P : Addr} {elt iter : Expr} {x : Str} {px p pos gp : Pos} {scope : Scope} {pb : Nat → Bool} {te : TE} {k : Nat} (room : Room k X.A) (hg : Gl X "all") (hm : X.mg "all" = none) (tb : GxR.TabB X.base X.mg c P)
    (code : X.env.code = .ref c) (sc : GxR.GenS X.env scope x) (pi : PE X iter te) (pel : EltG X scope x elt pb) (fold : ∀ v, genFold iter X.env v = pure v)
    (he : starEach [.GeneratorExp elt [⟨.Name x px, iter, [], 0⟩] scope gp] X.env = (false, eval (.GeneratorExp elt [⟨.Name x px, iter, [], 0⟩] scope gp) X.env) :: starEach [] X.env := by rfl) :
    PE X (.Call (.Name "all" p) [.GeneratorExp elt [⟨.Name x px, iter, [], 0⟩] scope gp] [] pos) (GxR.tAllS P pb te) := by
  refine ⟨fun pins s σ H Q I h => wpAny_Call_Name_kw (ld_blt I hg hm boot_all (PyProof.Rows.callWith_builtin1 ?_ he (by rfl)))⟩
  rw [he]
  refine Calls.spliced_cons (gen_textG (Rw := fun a H1 => ∀ H2, GxR.Tabbed P H1 H2 → Q (.bl (a.cps.toList.all pb)) H2) room tb code sc pi pel fold I h fun a H1 g s5 hR hG => ?_)
  obtain ⟨fp, wr, G, Fy, St, W, hst, htr, hI⟩ := hG
  refine Calls.spliced_nil (call_all_walkS (W.self 0 _ _ _ hst ⟨g, fp, wr, G, _, Fy, St, _, rfl, W, hst, htr, fun s6 mv => ?_⟩))
  obtain ⟨H2, hT, J⟩ := hI s6 mv
  exact ⟨.bl _, H2, J, rfl, by rw [GxR.all_signs a pb]; exact hR H2 hT⟩
/-- all(.. for x in text) on data -/
def fAllG (pb : Nat → Bool) (f : Env → O R) : Env → O R := fun es => (f es).bind fun r => match r with
  | .val (.str s) => .ok (.val (.bl (s.all pb)))
  | _ => .no
theorem de_allG {T : List Addr} {W : WX} {f : Env → O R} {c P : Addr} {elt iter : Expr} {x : Str} {px p pos gp : Pos} {scope : Scope} {pb : Nat → Bool} {k : Nat} (room : Room k X.A) (hm : X.mg "all" = none) (tb : GxR.TabB X.base X.mg c P) (hP : P ∈ T)
    (code : X.env.code = .ref c) (sc : GxR.GenS X.env scope x) (pi : DE X T W iter f) (pel : EltG X scope x elt pb) (fold : ∀ v, genFold iter X.env v = pure v := by intro _; rfl) (hg : Gl X "all" := by rfl)
    (he : starEach [.GeneratorExp elt [⟨.Name x px, iter, [], 0⟩] scope gp] X.env = (false, eval (.GeneratorExp elt [⟨.Name x px, iter, [], 0⟩] scope gp) X.env) :: starEach [] X.env := by rfl) :
    DE X T W (.Call (.Name "all" p) [.GeneratorExp elt [⟨.Name x px, iter, [], 0⟩] scope gp] [] pos) (fAllG pb f) :=
  pe_weak (pe_allG room hg hm tb code sc pi pel fold he) fun σ H Q ⟨F0, H0, F, es, st, h⟩ => ⟨F0, H0, F, es, st, pr_seq st h fun r v F1 H1 _ st1 l1 q1 h1 => by
    split at h1
    · rename_i z _
      have q2 : Rq X.K T H0 F1 H1 v (.val (.str z)) := q1
      refine ⟨tx z, rq_str q2, st1.ok.tab P hP, fun H2 ⟨tg, kp⟩ => ?_⟩
      rw [tx_list]
      have nF : F1 P = none := st1.ok.ntab P hP
      refine h1 _ F1 H2 ⟨Sub.refl _, fun b o n e => ?_, fun b e _ => e, ⟨fun b o e => ?_, fun b m => ?_, st1.ok.ntab⟩⟩ (by rw [Rr, Rp])
      · rw [kp b (fun z => n (z ▸ hP))]; exact e
      · have n : b ≠ P := fun z => by rw [z, nF] at e; cases e
        rw [kp b n]; exact st1.ok.sub b o e
      · by_cases e : b = P
        · rw [e]; exact tg
        · obtain ⟨qs, e1, e2⟩ := st1.ok.tab b m
          exact ⟨qs, by rw [kp b e]; exact e1, e2⟩
    · exact h1.elim⟩
end
end Fw
namespace Fw
open PySem PySem.Spec PyProof.Rows L2
section
variable {X : Cx}
/-- a name of the module holds a text of one sign -/
def One (X : Cx) (n : Str) (c : Nat) : Prop := ∃ t, X.mg n = some (.str ⟨#[c]⟩ t)
theorem ld_mod {ce : PySem.Env} {B : Around} {E : Value → Shared → Prop} {s2 : Shared} {n : Str} {u : Value} {p : Pos} {Q : Value → Shared → Prop} (md : X.base.Ns mainGlobals X.mg) (hk : ce.scope.kind = .function) (hg : ce.kindOf n = some .globalImplicit) (g : ce.globals = mainGlobals)
    (hb : ∀ b o, X.base.get? b = some o → s2.heap.get? b = some o) (hm : X.mg n = some u) (h : Q u s2) (hd : (n == ("__debug__" : Str)) = false := by decide) : wpAny (model X.prog X.w) B (eval (.Name n p) ce) Q E s2 :=
  Calls.Name_function_global hk hg (Calls.loadGlobal_global (by rw [g]; exact md.keeps hb) hm h) hd
/-- x in (A, B, C), names of the module -/
theorem elt_in3 {scope : Scope} {x a b d : Str} {ca cb cd : Nat} {k : Nat} {p1 p2 p3 p4 p5 p6 : Pos} (md : X.base.Ns mainGlobals X.mg) (hA : One X a ca) (hB : One X b cb) (hC : One X d cd) (hk : scope.kind = .function := by rfl) (hl : scope.names.lookup x = some .local := by rfl)
    (ga : scope.names.lookup a = some .globalImplicit := by rfl) (gb : scope.names.lookup b = some .globalImplicit := by rfl) (gd : scope.names.lookup d = some .globalImplicit := by rfl) (hd : (x == ("__debug__" : Str)) = false := by decide)
    (da : (a == ("__debug__" : Str)) = false := by decide) (db : (b == ("__debug__" : Str)) = false := by decide) (dd : (d == ("__debug__" : Str)) = false := by decide) :
    EltG X scope x (.Compare (.Name x p1) [.In] [.Tuple [.Name a p2, .Name b p3, .Name d p4] k p5] p6) (fun c => decide (c = ca) || (decide (c = cb) || decide (c = cd))) := by
  intro ce B E' c t s2 m hB0 hs hg hb hn hm
  obtain ⟨ta, hA⟩ := hA
  obtain ⟨tb, hB⟩ := hB
  obtain ⟨td, hC⟩ := hC
  have kd : ce.scope.kind = .function := by rw [hs]; exact hk
  refine wpAny_Compare1 ?_
  refine wpAny_Name (wpAny_loadName_local kd (show ce.scope.names.lookup x = some .local by rw [hs]; exact hl) hn hm ?_) hd
  refine wpAny_Tuple_spliced ?_
  refine Calls.spliced_cons (ld_mod md kd (show ce.scope.names.lookup a = some .globalImplicit by rw [hs]; exact ga) hg hb hA ?_ da)
  refine Calls.spliced_cons (ld_mod md kd (show ce.scope.names.lookup b = some .globalImplicit by rw [hs]; exact gb) hg hb hB ?_ db)
  refine Calls.spliced_cons (ld_mod md kd (show ce.scope.names.lookup d = some .globalImplicit by rw [hs]; exact gd) hg hb hC ?_ dd)
  refine Calls.spliced_nil ⟨by show 3 ≤ sizeLine; decide, ?_⟩
  have one : ∀ (q : Nat) (tq : Tok), RelV (.str ⟨#[q]⟩) (Value.str ⟨#[q]⟩ tq) := fun q tq => ⟨tq, rfl⟩
  have hv : Vals [V.str ⟨#[ca]⟩, V.str ⟨#[cb]⟩, V.str ⟨#[cd]⟩] [Value.str ⟨#[ca]⟩ ta, Value.str ⟨#[cb]⟩ tb, Value.str ⟨#[cd]⟩ td] := .cons (one _ _) (.cons (one _ _) (.cons (one _ _) .nil))
  refine SeqAt.in_tupleAt (eqU (V.str ⟨#[c]⟩)) (items := [Value.str ⟨#[ca]⟩ ta, Value.str ⟨#[cb]⟩ tb, Value.str ⟨#[cd]⟩ td].toArray) ⟨_, Heap.get?_push_size _ rfl, rfl, _, rfl⟩
    (fun w hw => mem_eqAt (one c t) rfl hv rfl w (by simpa using hw)) ⟨?_, _, _, rfl, fun b o e => Heap.get?_push_of_some _ e⟩
  have e1 : ∀ q : Nat, (({ cps := #[q] } : Str) == { cps := #[c] }) = decide (c = q) := fun q => by
    by_cases e : c = q
    · subst e; simp
    · have : ({ cps := #[q] } : Str) ≠ { cps := #[c] } := fun z => e (by
        have := congrArg (fun s : Str => s.cps.toList) z
        simpa using this.symm)
      rw [beq_eq_false_iff_ne.mpr this, decide_eq_false e]
  simp [eqU, eqV, e1]
end
/-! ### sorting -/
section
variable {α : Type} (le : α → α → Bool)
def insB (x : α) : List α → List α
  | [] => [x]
  | y :: ys => if le x y then x :: y :: ys else y :: insB x ys
def sortB : List α → List α
  | [] => []
  | x :: xs => insB le x (sortB xs)
theorem insB_perm (x : α) : ∀ ys : List α, (insB le x ys).Perm (x :: ys)
  | [] => List.Perm.refl _
  | y :: ys => by
    unfold insB
    split
    · exact List.Perm.refl _
    · exact ((insB_perm x ys).cons y).trans (List.Perm.swap x y ys)
theorem sortB_perm : ∀ xs : List α, (sortB le xs).Perm xs
  | [] => List.Perm.refl _
  | x :: xs => (insB_perm le x _).trans ((sortB_perm xs).cons x)
variable {le}
theorem insB_pw (tot : ∀ a b, le a b = true ∨ le b a = true) (tr : ∀ a b c, le a b = true → le b c = true → le a c = true) (x : α) : ∀ ys : List α, ys.Pairwise (fun a b => le a b = true) → (insB le x ys).Pairwise (fun a b => le a b = true)
  | [], _ => List.pairwise_singleton _ _
  | y :: ys, h => by
    unfold insB
    rw [List.pairwise_cons] at h
    split
    · rename_i e
      rw [List.pairwise_cons, List.pairwise_cons]
      refine ⟨fun z hz => ?_, h⟩
      rcases List.mem_cons.mp hz with q | q
      · subst q; exact e
      · exact tr _ _ _ e (h.1 z q)
    · rename_i e
      have e2 : le y x = true := (tot x y).resolve_left e
      rw [List.pairwise_cons]
      refine ⟨fun z hz => ?_, insB_pw tot tr x ys h.2⟩
      rcases List.mem_cons.mp ((insB_perm le x ys).mem_iff.mp hz) with q | q
      · subst q; exact e2
      · exact h.1 z q
theorem sortB_pw (tot : ∀ a b, le a b = true ∨ le b a = true) (tr : ∀ a b c, le a b = true → le b c = true → le a c = true) : ∀ xs : List α, (sortB le xs).Pairwise (fun a b => le a b = true)
  | [] => List.Pairwise.nil
  | x :: xs => insB_pw tot tr x _ (sortB_pw tot tr xs)
/-- one sorted list alone -/
theorem sortB_uniq (tot : ∀ a b, le a b = true ∨ le b a = true) (tr : ∀ a b c, le a b = true → le b c = true → le a c = true) (an : ∀ a b, le a b = true → le b a = true → a = b) {xs ys : List α} (hp : ys.Perm xs) (hs : ys.Pairwise (fun a b => le a b = true)) : ys = sortB le xs :=
  (hp.trans (sortB_perm le xs).symm).eq_of_pairwise (fun a b _ _ h1 h2 => an a b h1 h2) hs (sortB_pw tot tr xs)
end
def leI (a b : Int) : Bool := decide (a ≤ b)
def sortI : List Int → List Int := sortB leI
theorem sortI_uniq {xs ys : List Int} (hp : ys.Perm xs) (hs : ys.Pairwise (· ≤ ·)) : ys = sortI xs :=
  sortB_uniq (fun a b => by simp only [leI, decide_eq_true_eq]; omega) (fun a b c h1 h2 => by simp only [leI, decide_eq_true_eq] at *; omega) (fun a b h1 h2 => by simp only [leI, decide_eq_true_eq] at *; omega) hp (hs.imp fun h => decide_eq_true h)
/-- texts by their signs -/
def leS (a b : List Nat) : Bool := !ltCps b a
def sortS : List (List Nat) → List (List Nat) := sortB leS
theorem lt_irr : ∀ a : List Nat, ltCps a a = false
  | [] => rfl
  | x :: a => by simp [ltCps, lt_irr a]
theorem lt_asym : ∀ a b : List Nat, ltCps a b = true → ltCps b a = false
  | [], [], h => by simp [ltCps] at h
  | [], _ :: _, _ => rfl
  | _ :: _, [], h => by simp [ltCps] at h
  | x :: a, y :: b, h => by
    simp only [ltCps, Bool.or_eq_true, Bool.and_eq_true, decide_eq_true_eq, beq_iff_eq] at h
    simp only [ltCps, Bool.or_eq_false_iff, Bool.and_eq_false_iff, decide_eq_false_iff_not]
    rcases h with h | ⟨h1, h2⟩
    · exact ⟨by omega, .inl (by rw [beq_eq_false_iff_ne]; omega)⟩
    · subst h1
      exact ⟨by omega, .inr (lt_asym a b h2)⟩
theorem lt_tri : ∀ a b : List Nat, ltCps a b = false → ltCps b a = false → a = b
  | [], [], _, _ => rfl
  | [], _ :: _, h, _ => by simp [ltCps] at h
  | _ :: _, [], _, h => by simp [ltCps] at h
  | x :: a, y :: b, h1, h2 => by
    simp only [ltCps, Bool.or_eq_false_iff, Bool.and_eq_false_iff, decide_eq_false_iff_not] at h1 h2
    have e : x = y := by omega
    subst e
    have h3 : ltCps a b = false := by rcases h1.2 with q | q; · simp at q
                                      · exact q
    have h4 : ltCps b a = false := by rcases h2.2 with q | q; · simp at q
                                      · exact q
    rw [lt_tri a b h3 h4]
theorem lt_tr : ∀ a b c : List Nat, ltCps a b = true → ltCps b c = true → ltCps a c = true
  | [], [], _, h, _ => by simp [ltCps] at h
  | [], _ :: _, [], _, h => by simp [ltCps] at h
  | [], _ :: _, _ :: _, _, _ => rfl
  | _ :: _, [], _, h, _ => by simp [ltCps] at h
  | _ :: _, _ :: _, [], _, h => by simp [ltCps] at h
  | x :: a, y :: b, z :: c, h1, h2 => by
    simp only [ltCps, Bool.or_eq_true, Bool.and_eq_true, decide_eq_true_eq, beq_iff_eq] at h1 h2 ⊢
    rcases h1 with h1 | ⟨h1, h3⟩
    · rcases h2 with h2 | ⟨h2, h4⟩
      · exact .inl (by omega)
      · exact .inl (by omega)
    · rcases h2 with h2 | ⟨h2, h4⟩
      · exact .inl (by omega)
      · exact .inr ⟨h1.trans h2, lt_tr a b c h3 h4⟩
theorem leS_tot (a b : List Nat) : leS a b = true ∨ leS b a = true := by
  unfold leS
  cases h : ltCps b a with
  | false => exact .inl rfl
  | true => exact .inr (by rw [lt_asym b a h]; rfl)
theorem leS_an (a b : List Nat) (h1 : leS a b = true) (h2 : leS b a = true) : a = b := by
  unfold leS at h1 h2
  exact lt_tri a b (by simpa using h2) (by simpa using h1)
theorem leS_tr (a b c : List Nat) (h1 : leS a b = true) (h2 : leS b c = true) : leS a c = true := by
  unfold leS at *
  simp only [Bool.not_eq_true'] at *
  cases h : ltCps c a with
  | false => rfl
  | true =>
    by_cases e : ltCps a b = true
    · rw [lt_tr c a b h e] at h2
      cases h2
    · have := lt_tri a b (by simpa using e) h1
      subst this
      rw [h] at h2; cases h2
theorem rising_pw : ∀ (p : Str) (r : List Str), risingS p r = true → (p :: r).Pairwise (fun a b => leS a.cps.toList b.cps.toList = true)
  | p, [], _ => List.pairwise_singleton _ _
  | p, x :: r, h => by
    simp only [risingS, Bool.and_eq_true] at h
    have ih := rising_pw x r h.2
    rw [List.pairwise_cons]
    refine ⟨fun z hz => ?_, ih⟩
    have e : leS p.cps.toList x.cps.toList = true := h.1
    rcases List.mem_cons.mp hz with q | q
    · subst q; exact e
    · rw [List.pairwise_cons] at ih
      exact leS_tr _ _ _ e (ih.1 z q)
theorem sortedS_pw : ∀ xs : List Str, sortedS xs = true → xs.Pairwise (fun a b => leS a.cps.toList b.cps.toList = true)
  | [], _ => List.Pairwise.nil
  | p :: r, h => rising_pw p r h
theorem sortS_uniq {xs : List (List Nat)} {ys : List Str} (hp : ys.Perm (xs.map tx)) (hs : sortedS ys = true) : ys = (sortS xs).map tx := by
  have h1 : (ys.map fun z => z.cps.toList).Perm xs := by
    have := hp.map fun z : Str => z.cps.toList
    rw [List.map_map] at this
    have e : ((fun z : Str => z.cps.toList) ∘ tx) = id := funext fun s => tx_list s
    rw [e, List.map_id] at this
    exact this
  have h2 := sortedS_pw ys hs
  have h3 : (ys.map fun z => z.cps.toList).Pairwise (fun a b => leS a b = true) := List.pairwise_map.mpr h2
  have h4 : ys.map (fun z => z.cps.toList) = sortS xs := sortB_uniq leS_tot leS_tr leS_an h1 h3
  rw [← h4, List.map_map]
  have e : (tx ∘ fun z : Str => z.cps.toList) = id := funext fun z => by
    obtain ⟨c⟩ := z
    simp [tx]
  rw [e, List.map_id]
def intsOf : List D → Option (List Int)
  | [] => some []
  | .int i :: r => (intsOf r).map (i :: ·)
  | _ :: _ => none
def strsOf : List D → Option (List (List Nat))
  | [] => some []
  | .str s :: r => (strsOf r).map (s :: ·)
  | _ :: _ => none
def blsOf : List D → Option (List Bool)
  | [] => some []
  | .bl b :: r => (blsOf r).map (b :: ·)
  | _ :: _ => none
section
variable {K : PySem.W.Frag} {T : List Addr} {X : Cx}
theorem ints_rp {H : Hp} : ∀ {ds : List D} {vs : List V} {ns : List Int}, RpL K H ds vs → intsOf ds = some ns → vs = ns.map V.int
  | [], vs, ns, h, e => by rw [RpL] at h; cases e; exact h
  | d :: ds, vs, ns, h, e => by
    rw [RpL] at h
    obtain ⟨v, r, rfl, h2, h3⟩ := h
    cases d <;> simp only [intsOf] at e <;> try cases e
    rename_i i
    cases hr : intsOf ds with
    | none => rw [hr] at e; cases e
    | some ms =>
      rw [hr] at e; cases e
      rw [Rp] at h2
      rw [h2, ints_rp h3 hr]; rfl
theorem strs_rp {H : Hp} : ∀ {ds : List D} {vs : List V} {ns : List (List Nat)}, RpL K H ds vs → strsOf ds = some ns → vs = (ns.map tx).map V.str
  | [], vs, ns, h, e => by rw [RpL] at h; cases e; exact h
  | d :: ds, vs, ns, h, e => by
    rw [RpL] at h
    obtain ⟨v, r, rfl, h2, h3⟩ := h
    cases d <;> simp only [strsOf] at e <;> try cases e
    rename_i i
    cases hr : strsOf ds with
    | none => rw [hr] at e; cases e
    | some ms =>
      rw [hr] at e; cases e
      rw [Rp] at h2
      rw [h2, strs_rp h3 hr]; rfl
theorem bls_rp {H : Hp} : ∀ {ds : List D} {vs : List V} {ns : List Bool}, RpL K H ds vs → blsOf ds = some ns → vs = ns.map V.bl
  | [], vs, ns, h, e => by rw [RpL] at h; cases e; exact h
  | d :: ds, vs, ns, h, e => by
    rw [RpL] at h
    obtain ⟨v, r, rfl, h2, h3⟩ := h
    cases d <;> simp only [blsOf] at e <;> try cases e
    rename_i i
    cases hr : blsOf ds with
    | none => rw [hr] at e; cases e
    | some ms =>
      rw [hr] at e; cases e
      rw [Rp] at h2
      rw [h2, bls_rp h3 hr]; rfl
theorem rpl_ints {H : Hp} : ∀ ns : List Int, RpL K H (ns.map .int) (ns.map V.int)
  | [] => RpL.nil
  | n :: ns => RpL.cons (by rw [Rp]) (rpl_ints ns)
theorem rpl_strs {H : Hp} : ∀ ns : List (List Nat), RpL K H (ns.map .str) ((ns.map tx).map V.str)
  | [] => RpL.nil
  | n :: ns => RpL.cons (by rw [Rp]) (rpl_strs ns)
/-- sorted(xs): ints, texts -/
def dSorted : List R → Option R
  | [r] => match itmD r.dat with
    | some xs => match intsOf xs with
      | some ns => if ns.length < 64 then some (.new ((sortI ns).map .int)) else none
      | none => match strsOf xs with
        | some ss => if ss.length < 64 then some (.new ((sortS ss).map .str)) else none
        | none => none
    | none => none
  | _ => none
def isLst : D → Bool
  | .lst _ => true
  | _ => false
def dSortedL : List R → Option R
  | [r] => if isLst r.dat then dSorted [r] else none
  | _ => none
def rSortedA (K : PySem.W.Frag) : List V → Hp → VK → Prop := fun vs H Q => rSorted K vs H Q ∨ rSortedS K vs H Q
theorem cr_sortedA : CallR X (.builtin "sorted") (rSortedA X.K) := fun pins s σ H xs us Q I r h => by
  rcases h with h | h
  · exact cr_sorted pins s σ H xs us Q I r h
  · exact cr_sortedS pins s σ H xs us Q I r h
theorem lst_rp {H : Hp} {d : D} {v : V} {xs : List D} (hl : isLst d = true) (h : Rp K H d v) (e : itmD d = some xs) : ∃ p vs, v = .ref p ∧ SqL K H p vs ∧ RpL K H xs vs := by
  cases d <;> simp [isLst] at hl
  simp only [itmD] at e
  cases e
  rw [Rp] at h
  exact h
theorem cd_sorted : CallD K T (rSortedA K) dSortedL := fun H0 F H vs rs c Q ok up q h k => by
  unfold dSortedL at h
  split at h
  · rename_i r
    split at h
    · rename_i hl
      obtain ⟨v, rfl, q1⟩ := rql1 q
      have z := q1.toH ok up
      simp only [dSorted] at h
      split at h
      · rename_i xs e
        obtain ⟨p, vs, rfl, h1, h2⟩ := lst_rp hl z e
        split at h
        · rename_i ns en
          split at h
          · rename_i hn
            cases h
            rw [ints_rp h2 en] at h1
            refine .inl ⟨p, ns, rfl, h1, hn, fun ns' l hp hs hl => ?_⟩
            rw [sortI_uniq hp hs]
            exact k _ F _ (Le.newH ok hl) (rr_lst ok hl (rpl_ints _))
          · cases h
        · split at h
          · rename_i ss es
            split at h
            · rename_i hn
              cases h
              rw [strs_rp h2 es] at h1
              refine .inr ⟨p, ss.map tx, rfl, h1, by simpa using hn, fun ys l hp hs hl => ?_⟩
              rw [sortS_uniq hp hs]
              exact k _ F _ (Le.newH ok hl) (rr_lst ok hl (rpl_strs _))
            · cases h
          · cases h
      · cases h
    · cases h
  · cases h
/-! sum, any, all -/
def dSum : List R → Option R
  | [r] => if isLst r.dat then (match itmD r.dat with
    | some xs => (intsOf xs).map fun ns => .val (.int ns.sum)
    | none => none) else none
  | _ => none
theorem cd_sum : CallD K T (rSum K) dSum := fun H0 F H vs rs c Q ok up q h k => by
  unfold dSum at h
  split at h
  · rename_i r
    split at h
    · rename_i hl
      obtain ⟨v, rfl, q1⟩ := rql1 q
      split at h
      · rename_i xs e
        obtain ⟨p, vs, rfl, h1, h2⟩ := lst_rp hl (q1.toH ok up) e
        cases en : intsOf xs with
        | none => rw [en] at h; cases h
        | some ns =>
          rw [en] at h; cases h
          rw [ints_rp h2 en] at h1
          exact ⟨p, ns, rfl, h1, k _ F H (Le.refl ok) (by rw [Rr, Rp])⟩
      · cases h
    · cases h
  · cases h
def dAny : List R → Option R
  | [r] => if isLst r.dat then (match itmD r.dat with
    | some xs => (blsOf xs).map fun ns => .val (.bl (ns.any id))
    | none => none) else none
  | _ => none
theorem cd_any : CallD K T (rAny K) dAny := fun H0 F H vs rs c Q ok up q h k => by
  unfold dAny at h
  split at h
  · rename_i r
    split at h
    · rename_i hl
      obtain ⟨v, rfl, q1⟩ := rql1 q
      split at h
      · rename_i xs e
        obtain ⟨p, vs, rfl, h1, h2⟩ := lst_rp hl (q1.toH ok up) e
        cases en : blsOf xs with
        | none => rw [en] at h; cases h
        | some ns =>
          rw [en] at h; cases h
          rw [bls_rp h2 en] at h1
          exact ⟨p, ns, rfl, h1, k _ F H (Le.refl ok) (by rw [Rr, Rp])⟩
      · cases h
    · cases h
  · cases h
def dAll : List R → Option R
  | [r] => if isLst r.dat then (match itmD r.dat with
    | some xs => (blsOf xs).map fun ns => .val (.bl (ns.all id))
    | none => none) else none
  | _ => none
theorem cd_all : CallD K T (rAll K) dAll := fun H0 F H vs rs c Q ok up q h k => by
  unfold dAll at h
  split at h
  · rename_i r
    split at h
    · rename_i hl
      obtain ⟨v, rfl, q1⟩ := rql1 q
      split at h
      · rename_i xs e
        obtain ⟨p, vs, rfl, h1, h2⟩ := lst_rp hl (q1.toH ok up) e
        cases en : blsOf xs with
        | none => rw [en] at h; cases h
        | some ns =>
          rw [en] at h; cases h
          rw [bls_rp h2 en] at h1
          exact ⟨p, ns, rfl, h1, k _ F H (Le.refl ok) (by rw [Rr, Rp])⟩
      · cases h
    · cases h
  · cases h
end
end Fw
namespace Fw
open PySem PySem.Spec PyProof.Rows L2
/-! ### join -/
def joinS (sep : List Nat) : List (List Nat) → List Nat
  | [] => []
  | [x] => x
  | x :: y :: r => x ++ sep ++ joinS sep (y :: r)
theorem join_tx (sep : List Nat) : ∀ ss : List (List Nat), Str.join (tx sep) (ss.map tx) = tx (joinS sep ss)
  | [] => rfl
  | [x] => rfl
  | x :: y :: r => by
    show tx x ++ tx sep ++ Str.join (tx sep) ((y :: r).map tx) = _
    rw [join_tx sep (y :: r), tx_app, tx_app]
    rfl
section
variable {X : Cx} {T : List Addr} {W : WX} {K : PySem.W.Frag} {o e a b : Expr} {fo fe fa fb : Env → O R} {apos pos p p2 : Pos}
/-- a method of a text with one argument -/
def fM1 (d : List Nat → R → Option R) (fo fe : Env → O R) : Env → O R := fun es => (fo es).bind fun r => match r with
  | .val (.str z) => (fe es).bind fun b => O.of (d z b.fz)
  | _ => .no
def dJoin (sep : List Nat) (b : R) : Option R := match itmD b.dat with
  | some xs => match strsOf xs with
    | some ss => if (ss.map (·.length)).sum + ss.length * sep.length ≤ 1000000 then some (.val (.str (joinS sep ss))) else none
    | none => none
  | none => none
theorem sum_map_tx : ∀ ss : List (List Nat), ((ss.map tx).map (·.length)).sum = (ss.map (·.length)).sum
  | [] => rfl
  | s :: ss => by
    simp only [List.map_cons, List.sum_cons, tx_len]
    rw [sum_map_tx ss]
theorem m1_weak {r : V → List V → Hp → VK → Prop} {d : List Nat → R → Option R} (hd : ∀ (H0 F H : Hp) (z : List Nat) (y : V) (b c : R) (Q : VK), Ok T F H → Up K H0 H → Rq K T H0 F H y b → d z b = some c → (∀ v F' H', Le T F H F' H' → Rr K T H0 H F' H' v c → Q v H') → r (.str (tx z)) [y] H Q)
    {σ : L2.St} {H : Hp} {Q : VK} (h : tD K T W (fM1 d fo fe) σ H Q) : tM1 r (tD K T W fo) (tD K T W fe) σ H Q := by
  obtain ⟨F0, H0, F, es, st, h⟩ := h
  refine ⟨F0, H0, F, es, st, pr_seq st h fun a v F1 H1 _ st1 l1 q1 h1 => ?_⟩
  split at h1
  · rename_i z _
    have q2 : Rq K T H0 F1 H1 v (.val (.str z)) := q1
    have ev := rq_str q2
    subst ev
    refine ⟨⟨_, rfl⟩, F0, H0, F1, es, st1, pr_seq st1 h1 fun b y F2 H2 _ st2 l2 q3 h2 => ?_⟩
    cases hc : d z b.fz with
    | none => rw [hc] at h2; exact h2.elim
    | some c =>
      rw [hc] at h2
      exact hd H0 F2 H2 z y _ c Q st2.ok st2.up q3 hc h2
  · exact h1.elim
theorem de_join (ho : DE X T W o fo) (he : DE X T W e fe) (hs : starEach [e] X.env = [(false, eval e X.env)] := by rfl) (hbase : attributeBase o "join" X.env (eval o X.env) = eval o X.env := by rfl) (hline : (apos.endLine == pos.line) = true := by rfl) :
    DE X T W (.Call (.Attribute o "join" apos) [e] [] pos) (fM1 dJoin fo fe) :=
  pe_weak (pe_m1 PySem.F.slot_str_join PySem.F.type_str_join mt_join ho he hs hbase hline) fun σ H Q h => m1_weak (fun H0 F H z y b c Q ok up q hd k => by
    unfold dJoin at hd
    split at hd
    · rename_i xs e1
      split at hd
      · rename_i ss e2
        split at hd
        · rename_i hz
          cases hd
          obtain ⟨p, vs, rfl, h1, h2⟩ := itmD_ok (q.toH ok up) e1
          rw [strs_rp h2 e2] at h1
          refine ⟨tx z, p, ss.map tx, rfl, rfl, h1, ?_, ?_⟩
          · rw [sum_map_tx, List.length_map, tx_len]; omega
          · have e : Txt.join (tx z) (ss.map tx) = tx (joinS z ss) := by
              show Builtin.Str.glued (tx z) (ss.map tx) = _
              rw [StrLaws.glued_eq_join, join_tx]
            rw [e]
            exact k _ F H (Le.refl ok) (by rw [Rr, Rp])
        · cases hd
      · cases hd
    · cases hd) h
/-! ### list(range(n)) -/
def fLRg1 (fa : Env → O R) : Env → O R := fun es => (fa es).bind fun r => match r with
  | .val (.int n) => if n ≤ 90000 ∧ 0 ≤ n then .ok (.new ((List.range n.toNat).map fun i => .int (i : Nat))) else .no
  | _ => .no
theorem rgV_rp {H : Hp} {n : Int} (h : 0 ≤ n) : RpL K H ((List.range n.toNat).map fun i => D.int (i : Nat)) (rgV 0 n) := by
  unfold rgV
  rw [Int.sub_zero]
  generalize List.range n.toNat = l
  induction l with
  | nil => exact RpL.nil
  | cons a l ih => exact RpL.cons (by rw [Rp]; simp) ih
theorem de_lrg1 (hml : X.mg "list" = none) (hmr : X.mg "range" = none) (ha : DE X T W a fa) (hc : X.calm = true := by rfl) (hgl : Gl X "list" := by rfl) (hgr : Gl X "range" := by rfl) (na : starEach [a] X.env = (false, eval a X.env) :: starEach [] X.env := by rfl)
    (ne : starEach [.Call (.Name "range" p2) [a] [] apos] X.env = (false, eval (.Call (.Name "range" p2) [a] [] apos) X.env) :: starEach [] X.env := by rfl) :
    DE X T W (.Call (.Name "list" p) [.Call (.Name "range" p2) [a] [] apos] [] pos) (fLRg1 fa) :=
  pe_weak (pe_listRg hc hgl hml (prg_1 hgr hmr ha na) ne) fun σ H Q ⟨F0, H0, F, es, st, h⟩ => by
    show tD _ _ _ _ _ _ _
    refine ⟨F0, H0, F, es, st, pr_seq st h fun r v F1 H1 _ st1 l1 q1 h1 => ?_⟩
    split at h1
    · rename_i n _
      split at h1
      · rename_i hn
        refine ⟨n, rq_int (T := T) (H0 := H0) (F := F1) (H := H1) q1, ⟨by omega, by omega, by omega, by omega, by omega⟩, fun q hq => ?_⟩
        exact h1 _ F1 _ (Le.newH st1.ok hq) (rr_lst st1.ok hq (rgV_rp hn.2))
      · exact h1.elim
    · exact h1.elim
/-! ### text * n -/
def repS (s : List Nat) (n : Int) : List Nat := (List.replicate n.toNat s).flatten
def dMulA : R → R → Option R
  | .val (.str s), .val (.int n) => if s.length ≤ 1000 ∧ -1000 ≤ n ∧ n ≤ 1000 then some (.val (.str (repS s n))) else none
  | a, b => dMul a b
def rMulS : R2 := fun x y H Q => ∃ z n, x = .str z ∧ y = .int n ∧ z.length ≤ 1000 ∧ -1000 ≤ n ∧ n ≤ 1000 ∧ Q (.str ⟨((List.replicate n.toNat z.cps.toList).flatten).toArray⟩) H
theorem fold_rep (z : Array Nat) : ∀ (n : Nat) (acc : Array Nat), ((List.replicate n z).foldl (· ++ ·) acc).toList = acc.toList ++ (List.replicate n z.toList).flatten
  | 0, acc => by simp
  | n + 1, acc => by
    rw [List.replicate_succ, List.foldl_cons, fold_rep z n (acc ++ z), List.replicate_succ, List.flatten_cons]
    simp
theorem op_mulS : OpR X (binaryOp .Mult) rMulS := fun pins s σ H x y v u Q I rx ry h => by
  obtain ⟨z, n, rfl, rfl, hz, h1, h2, q⟩ := h
  obtain ⟨t, rfl⟩ := rx
  obtain ⟨w, rfl⟩ := ry
  have hle : z.length * n.toNat ≤ 1000 * 1000 := Nat.mul_le_mul hz (by omega)
  refine PySem.P.mul_str (by rw [decide_eq_false (by omega), decide_eq_false (by omega)]; rfl) (fun g1 g2 => ?_) (fun g1 g2 => ?_) ?_
  · have hn : 0 < n := by omega
    have e : ((z.length * n.toNat : Nat) : Int) = (z.length : Int) * n := by
      rw [Int.natCast_mul, Int.toNat_of_nonneg (by omega)]
    have : (z.length : Int) ≤ (2 ^ 63 - 1) / n := Int.le_ediv_of_mul_le hn (by rw [← e]; omega)
    omega
  · unfold Builtin.Str.tooLong
    have : sizeLine = 16777216 := rfl
    simp only [decide_eq_false_iff_not]
    omega
  · have go : ∀ r : Str, r = ⟨((List.replicate n.toNat z.cps.toList).flatten).toArray⟩ → EP X pins σ Q (.str r s.toks) { s with toks := s.toks + 1 } := fun r e => ⟨.str r, H, I.tok _, ⟨_, rfl⟩, by rw [e]; exact q⟩
    by_cases g1 : n < 1
    · rw [if_pos g1]
      have e : n.toNat = 0 := by omega
      exact ⟨by decide, go Str.empty (by rw [e]; rfl)⟩
    · rw [if_neg g1]
      by_cases g2 : (n == 1 || z.length == 0) = true
      · rw [if_pos g2]
        have e : (⟨((List.replicate n.toNat z.cps.toList).flatten).toArray⟩ : Str) = z := by
          rw [Bool.or_eq_true, beq_iff_eq, beq_iff_eq] at g2
          rcases g2 with g2 | g2
          · subst g2
            simp
          · have : z.cps = #[] := by
              have : z.cps.size = 0 := g2
              simpa using this
            obtain ⟨c⟩ := z
            simp only at this
            subst this
            simp
        exact ⟨.str z, H, I, ⟨t, rfl⟩, by rw [← e]; exact q⟩
      · rw [if_neg g2]
        have e : (⟨(List.replicate n.toNat z.cps).foldl (· ++ ·) #[]⟩ : Str) = ⟨((List.replicate n.toNat z.cps.toList).flatten).toArray⟩ := by
          have := fold_rep z.cps n.toNat #[]
          congr 1
          apply Array.toList_inj.mp
          rw [this]; simp
        refine ⟨?_, go _ e⟩
        show (List.foldl (· ++ ·) #[] (List.replicate n.toNat z.cps)).size ≤ sizeLine
        rw [← Array.length_toList, fold_rep]
        simp
        have h9 : z.cps.size * n.toNat ≤ 1000 * 1000 := hle
        have : sizeLine = 16777216 := rfl
        rw [Nat.mul_comm]
        omega
def rMulA : R2 := fun x y H Q => (rI CMul fun i j => .int (i * j)) x y H Q ∨ rMulS x y H Q
theorem op_mulA : OpR X (binaryOp .Mult) rMulA := OpR.or op_mul op_mulS
theorem od_mulA : OpD K T rMulA dMulA := fun H0 F H x y a b c Q ok up q1 q2 h k => by
  unfold dMulA at h
  split at h
  · rename_i s n
    split at h
    · rename_i hl
      cases h
      refine .inr ⟨tx s, n, rq_str q1, rq_int q2, by rw [tx_len]; exact hl.1, hl.2.1, hl.2.2, ?_⟩
      rw [tx_list]
      exact k _ F H (Le.refl ok) (by rw [Rr, Rp]; rfl)
    · cases h
  · exact .inl (od_mul H0 F H x y _ _ c Q ok up q1 q2 h k)
end
end Fw
namespace Fw
open PySem PySem.Spec PyProof.Rows L2
/-- a def of the module: where it stands, by which name, how it binds -/
structure Def (K : PySem.W.Frag) (mg : Str → Option Value) (x : Str) (st : Stmt) (ps : List Str) (f : Addr) (fd : FuncData) : Prop where
  fn : Fun K x x st f fd
  at_ : mg x = some (.ref f)
  bd : Binds K fd ps []
/-- .. and its code object is at c -/
structure DefC (K : PySem.W.Frag) (mg : Str → Option Value) (x : Str) (st : Stmt) (ps : List Str) (f : Addr) (fd : FuncData) (c : Addr) : Prop extends Def K mg x st ps f fd where
  ex : ∃ (oc : Value) (od : Option Addr) (kV doc pm : Value) (an : Option Addr) (ct : Value) (osl : Array (Option Value)),
    fd = PySem.W.fnOf x x (defArgs st) (defBody st) (defScope st) .none kV doc pm an (.ref c) ct ∧ K.lookup f = some ⟨oc, od, .func fd, osl⟩ ∧ PySem.W.codeIn K (.ref c) x = true
section
variable {P : Program} {w : World} {K : PySem.W.Frag} {mg : Str → Option Value} {base : Heap} {T : List Addr}
theorem def_ok0 {x : Str} {st : Stmt} {f : Addr} {fd : FuncData} {N ps : List Str} {k : Nat} (F : Def K mg x st ps f fd) (S : FnScope N ps (defScope st)) (body : Env → Out)
    (h : ∀ (cdv : Value) (A : Around) (outer : List PySem.Env) (s : Shared) (H : Hp) (E : XK), Room k (A.deeper (envOfC x (defScope st) s.heap.objs.size f cdv)) → DSs (cxOf CX0 P w K mg base N x (defScope st) f cdv A outer s H E).nox T W0 (defBody st) body) :
    FnOk P w K mg base CX0 (k + 1) f fd ps (spD K T ps.length (run0 N.length body)) := fn_ok0 F.fn S body h
theorem def_ok0C {x : Str} {st : Stmt} {f c : Addr} {fd : FuncData} {N ps : List Str} {k : Nat} (F : DefC K mg x st ps f fd c) (S : FnScope N ps (defScope st)) (body : Env → Out)
    (h : ∀ (A : Around) (outer : List PySem.Env) (s : Shared) (H : Hp) (E : XK), Room k (A.deeper (envOfC x (defScope st) s.heap.objs.size f (.ref c))) → DSs (cxOf CX0 P w K mg base N x (defScope st) f (.ref c) A outer s H E).nox T W0 (defBody st) body) :
    FnOk P w K mg base CX0 (k + 1) f fd ps (spD K T ps.length (run0 N.length body)) := by
  obtain ⟨oc, od, kV, doc, pm, an, ct, osl, rfl, lk, hcd⟩ := F.ex
  refine fn_of lk hcd S (fun vs H Q E h => by obtain ⟨F, ds, hl, _⟩ := h; exact hl) fun A outer s H vs Q E hr hsp => ?_
  obtain ⟨F1, ds, hl, ok, r, q⟩ := hsp
  refine ⟨_, (h A outer s H E hr F1 H).nox, F1, _, start_ok (N := N) ok r, ?_⟩
  have q' : match runX N.length body ds with
    | .ok (.val d) => ∀ v F' H', Le T F1 H F' H' → Rr K T H H F' H' v (.val d) → Q v H'
    | .ok (.new xs) => ∀ v F' H', Le T F1 H F' H' → Rr K T H H F' H' v (.new xs) → Q v H'
    | .exc c fs => ∀ cls d F' H', Le T F1 H F' H' → XOk K H' c fs cls d → False
    | _ => False := by
    unfold run0 at q
    unfold runX
    cases hb : body (startE N.length ds) with
    | nx es => rw [hb] at q; exact q
    | rt r => cases r <;> (rw [hb] at q; exact q)
    | br es => rw [hb] at q; exact q
    | ct es => rw [hb] at q; exact q
    | no => rw [hb] at q; exact q
    | exc es c fs => rw [hb] at q; exact q.elim
  exact run_out (E := fun _ _ _ => False) (fun _ _ _ _ z => z) (fun _ => rfl) q'
end
theorem hq {k : Nat} {A : Around} (hr : Room k A) : A.units + 64 < cLine := by
  have := hr.un
  omega
theorem gen_free {env : PySem.Env} {scope : Scope} (h : (scope.names.all fun y => decide (y.2 ≠ .free)) = true) : ∀ y ∈ scope.names, y.2 = .free → ∃ c, env.cells.lookup y.1 = some c := fun y hy hf =>
  absurd hf (of_decide_eq_true (List.all_eq_true.mp h y hy))
/-! ### the end -/
/-- the table of the def at f is empty, its code object is one -/
def OwnT (K : PySem.W.Frag) (f : Addr) (h : Heap) : Prop := ∀ (c P : Addr) (o : Obj) (fd : FuncData) (e : Value) (dd : Option Addr) (vs : Array Value) (sl : Array (Option Value)), K.lookup f = some o → o.data = .func fd → fd.code = .ref c →
  K.lookup c = some ⟨e, dd, .fields vs, sl⟩ → vs[11]? = some (.ref P) → h.get? P = some { cls := .none, data := .fields #[] } ∧ PySem.W.CodeHd h c P
theorem walk_all {l : PySem.W.OpenLaw} {n k : Nat} {q : Program} {loose : List Str} {XP : (Str → Option Value) → Heap → Prop} {YP : World → Heap → Prop} {d : DefRec} {K : Params → PySem.W.Frag} {CX : World → CXT} {x : Str} (hn : l.most = some n) (hn2 : n ≤ sizeLine) (hdf : d.params.defaults = []) (hr : Room k callerA)
    (hY : ∀ (w : World) (h : Heap), YP w h → (K w.params).In h)
    (F : ∀ (w : World) (mg : Str → Option Value) (fa : Addr) (h : Heap), YP w h → (K w.params).In h → h.Ns mainGlobals mg → mg d.name = some (.ref fa) →
      (∀ (y : Str) (f : Addr), ((recsOf q).any fun e => e.name == y) = true → mg y = some (.ref f) → OwnT (K w.params) f h) → LamX.LawAtS l w (K w.params) (CX w) k n x mg fa h)
    (hCX : ∀ (w : World) (H : Hp) (s : Shared) (e : Value) (s' : Shared), CX w [] H s (fun _ _ _ => False) e s' → False) : PySem.W.WalkO q loose XP YP l.row.toRowW d [] (fun f vs => PySem.call f vs) := by
  refine Att.attach_callB hn hdf fun w s0 s1 mg mb fa o pm cd doc a vs ns G Y ho hd hcd hmg hobj hints hlen hbits hg => ?_
  have kin := hY w _ Y
  have own : ∀ (y : Str) (f : Addr), ((recsOf q).any fun e => e.name == y) = true → mg y = some (.ref f) → OwnT (K w.params) f s1.heap := fun y f hy hf c P o1 fd1 e dd vs1 sl k1 k2 k3 k4 k5 => by
    obtain ⟨dr, hm, hname⟩ := List.any_eq_true.mp hy
    have hname2 : dr.name = y := beq_iff_eq.mp hname
    obtain ⟨a', o', fd', c', P', h1, h2, h3, h4, h5, h6⟩ := G.T.tab dr hm
    rw [hname2, hf] at h1
    cases h1
    have g1 := kin _ _ k1
    rw [g1] at h2
    cases h2
    rw [k2] at h3
    cases h3
    rw [k3] at h4
    cases h4
    have hd0 := PySem.W.CodeHd.of h5 h6
    obtain ⟨⟨oc, vc, e1, _, e3, e4⟩, hP⟩ := h6
    have g2 := kin _ _ k4
    rw [g2] at e1
    cases e1
    cases e3
    rw [k5] at e4
    cases e4
    exact ⟨hP, hd0⟩
  obtain ⟨fd, cs, sp, hT, nT, C, hb, hsp, hF⟩ := F w mg fa _ Y kin G.T.g hmg own
  exact LamX.law_callTs kin G.T.g G.T.b G.T.builtins G.T.nolimit hg hT nT C G.T.bmain hobj hints (Nat.le_trans hlen hn2) hr hF hb (fun H hH hS => hsp H a ns hlen hbits hH hS) fun H e s' => hCX w H s1 e s'
/-- the law's promise, at its entry -/
theorem law_sp {K : PySem.W.Frag} {cs : List (Addr × Addr)} {g : List D → O R} {H : Hp} {a : Addr} {ns : List Int} (hg : g [.lst (ns.map .int)] = .ok (.val (.bl true))) (hT : ∀ p ∈ cs, H p.2 = some (.tbl #[])) (hS : SqL K H a (ns.map V.int)) :
    spD K (cs.map (·.2)) 1 g [.ref a] H (fun v _ => v = .bl true) fun _ _ _ => False := by
  refine ⟨fun _ => none, [.lst (ns.map .int)], rfl, ⟨fun a o h => (by cases h), fun P hP => ?_, fun _ _ => rfl⟩, RpL.cons ?_ RpL.nil, ?_⟩
  · obtain ⟨p, hp, rfl⟩ := List.mem_map.mp hP
    exact ⟨#[], hT p hp, True.intro⟩
  · rw [Rp]; exact ⟨a, _, rfl, hS, rpl_ints ns⟩
  · rw [hg]
    intro v F' H' _ q
    rw [Rr, Rp] at q
    exact q
end Fw
namespace Fw
open PySem PySem.Spec PyProof.Rows L2
/-! ### what the program's classes are -/
/-- classes by their names; kinds of errors -/
structure Cl where
  at_ : String → Addr
  kx : Addr → D → Option Bool
  ex : Addr → Addr → Option Bool
structure ClOk (K : PySem.W.Frag) (cl : Cl) : Prop where
  kx : ∀ c d b, cl.kx c d = some b → ExcC K c ∧ match d with
    | .cls c' => PySem.W.kitOne K (.ref c) (.ref c') = some b
    | .ty n => PySem.W.kitOne K (.ref c) (.type n) = some b
    | _ => False
  ex : ∀ c c' b, cl.ex c c' = some b → PySem.W.exmOne K (.ref c) (.ref c') = some b
section
variable {X : Cx} {T : List Addr} {W : WX} {e : Expr} {es : List Expr} {x : Str} {st : Stmt} {g : Env → Out}
/-- a class of the module -/
theorem de_cls {pos : Pos} {c : Addr} (h : X.mg x = some (.ref c)) (hg : Gl X x := by rfl) (hd : (x == ("__debug__" : Str)) = false := by decide) : DE X T W (.Name x pos) (fC (.cls c)) :=
  de_glob (v := .ref c) hg h rfl (fun _ => by rw [Rp]) hd
/-! ### raise -/
structure Exq (K : PySem.W.Frag) (mg : Str → Option Value) (x : Str) (c : Addr) : Prop where
  q : PySem.W.excIn K c [.type "ValueError", .type "Exception", .type "BaseException", .type "object"] "ValueError.__new__" = true
  g : mg x = some (.ref c)
  kp : PySem.W.keepIn K (.ref c) = true
  sub : PySem.W.subIn K (.ref c) (.type "BaseException") = some true
  ty : PySem.W.typeIn K (.ref c) = some (.type "type")
def gRaise (c : Addr) : Env → Out := fun es => .exc es c none
theorem ds_raise {m : Str} {j : Nat} {p p2 pos pos' : Pos} {c : Addr} (tk : Takes X W) (E : Exq X.K X.mg x c) (hc : X.calm = true := by rfl) (hg : Gl X x := by rfl) (hdb : (x == ("__debug__" : Str)) = false := by decide) :
    DS X T W (.Raise (some (.Call (.Name x p) [.Constant (.str m) j p2] [] pos)) none pos') (gRaise c) := fun F0 H0 =>
  ps_weak (ps_raise hc tk (pmk_own PySem.F.excBase_ValueError E.q E.g E.kp (raises_own E.sub E.ty) hg hdb)) fun D σ H ⟨F, es, st, q⟩ => q (.ref c) none σ F H (Sub.refl _) st ⟨rfl, rfl⟩
/-! ### a call that may raise -/
theorem de_callX {k n : Nat} {f : Addr} {fd : FuncData} {ps : List Str} {gg : List D → O R} {fr : Env → O (List R)} {pos p : Pos} (F : FnOk X.prog X.w X.K X.mg X.base (L2.CX X.prog X.w) k f fd ps (spD X.K T n gg)) (tk : Takes X W) (hr : Room k X.A) (hm : X.mg x = some (.ref f))
    (hk : PySem.W.keepIn X.K (.ref f) = true) (hb : Binds X.K fd ps []) (ha : DA X T W (e :: es) fr) (hn : ∀ es rs, fr es = .ok rs → rs.length = n) (hg : Gl X x := by rfl) (hdb : (x == ("__debug__" : Str)) = false := by decide)
    (he : starEach (e :: es) X.env = (false, eval e X.env) :: starEach es X.env := by rfl) (hpl : (backTo pos (starEach es X.env)).any (·.1) = false := by rfl) : DE X T W (.Call (.Name x p) (e :: es) [] pos) (fCall gg fr) :=
  pe_weak (pe_callS F hr hg hm hk hb (fun σ => passAt tk σ) ha hdb he hpl) fun σ H Q h => call_weak (Ec := WE W) (fun _ _ _ z => z) hn h
/-! ### try .. except C as e -/
def Out.un (i : Nat) : Out → Out
  | .nx es => .nx (es.set i .no)
  | .br es => .br (es.set i .no)
  | .ct es => .ct (es.set i .no)
  | .rt r => .rt r
  | _ => .no
def gTry (ex : Addr → Option Bool) (i : Nat) (g ts : Env → Out) : Env → Out := fun es => match g es with
  | .exc e2 c none => match ex c with
    | some true => (ts (e2.set i (.val (.exn c [] [])))).un i
    | some false => .exc e2 c none
    | none => .no
  | .exc _ _ (some _) => .no
  | o => o
theorem wipe1 (σ : L2.St) (i : Nat) : L2.wipe σ [i] = σ.set i none := rfl
theorem wipeE1 (es : Env) (i : Nat) : wipeE es [i] = es.set i .no := rfl
theorem ds_try {n : Str} {c : Addr} {i : Nat} {body suite : List Stmt} {b₀ : Stmt} {np pos pos' : Pos} {ts : Env → Out} {ex : Addr → Option Bool} (hN : X.N.Nodup) (hi : X.N[i]? = some n) (tk : Takes X W) (hc : X.mg x = some (.ref c)) (hex : ∀ c' b, ex c' = some b → PySem.W.exmOne X.K (.ref c') (.ref c) = some b)
    (hb : ∀ (W : WX) (pn : List (Addr × Obj)) (xe : Value → Shared → Prop), Takes (X.tr pn xe) W → PassesOwn (model X.prog X.w) X.A X.env xe → DSs (X.tr pn xe) T W body g) (hsu : ∀ (a : Addr) (pn : List (Addr × Obj)), DSs (X.suite a pn) T W0 (b₀ :: suite) ts)
    (hs : X.stack = X.env :: X.outer := by rfl) (hf : X.env.frame = some X.env.locals := by rfl) (hln : X.env.kindOf n = some .local := by rfl) (hg : Gl X x := by rfl) (hd : (x == ("__debug__" : Str)) = false := by decide) :
    DS X T W (.Try body [.ExceptHandler (some (.Name x np)) (some n) (b₀ :: suite) pos'] [] [] pos) (gTry ex i g ts) := fun F0 H0 =>
  ps_weak (ps_try_asT (tb := fun W => tS X.K T W F0 H0 g) (ts := tS X.K T W0 F0 H0 ts) (Wout := W) hs hf hN hi hln ⟨hg, hd, Or.inl hc⟩ tk (fun W pn xe tk po => hb W pn xe tk po F0 H0) (fun a pn => hsu a pn F0 H0)) fun D σ H ⟨F, es, st, q⟩ => by
    refine ⟨F, es, st, ?_⟩
    unfold gTry at q
    cases hg : g es with
    | nx e2 => rw [hg] at q; exact q
    | rt r => rw [hg] at q; exact q
    | br e2 => rw [hg] at q; exact q
    | ct e2 => rw [hg] at q; exact q
    | no => rw [hg] at q; exact q
    | exc e2 c' fs =>
      rw [hg] at q
      cases fs with
      | some p => exact q.elim
      | none =>
        intro cls d σ' F' H' sb st' xo
        obtain ⟨rfl, rfl⟩ := xo
        cases hx : ex c' with
        | none => simp only [hx] at q; exact q.elim
        | some b =>
          simp only [hx] at q
          refine ⟨b, hex c' b hx, fun eb a ha => ?_, fun eb => ?_⟩
          · subst eb
            have st2 : StOk X.K T F0 H0 (upd F' a (ExH (.ref c') none a)) (upd H' a (ExH (.ref c') none a)) σ' e2 := st'.step (Le.new st'.ok ha)
            have rp : Rp X.K (upd F' a (ExH (.ref c') none a)) (.exn c' [] []) (.ref a) := by
              rw [Rp]; exact ⟨a, none, rfl, upd_same, Or.inl ⟨rfl, rfl⟩⟩
            have st3 := StOk.slot (i := i) (v := .ref a) (r := .val (.exn c' [] [])) st2 rp rfl
            have sub : Sub F (upd F' a (ExH (.ref c') none a)) := sb.trans (Sub.new (st'.ok.nf ha))
            refine ⟨_, _, st3, ?_⟩
            have un : ∀ {σ6 : L2.St} {es6 : Env} {F6 H6 : Hp}, StOk X.K T F0 H0 F6 H6 σ6 es6 → StOk X.K T F0 H0 F6 H6 (σ6.set i none) (es6.set i .no) := fun s => s.wipe [i]
            unfold Out.un at q
            cases ho : ts (e2.set i (.val (.exn c' [] []))) with
            | nx e6 => rw [ho] at q; exact fun σ6 F6 H6 s6 t6 => q _ F6 H6 (sub.trans s6) (un t6)
            | br e6 => rw [ho] at q; exact fun σ6 F6 H6 s6 t6 => q _ F6 H6 (sub.trans s6) (un t6)
            | ct e6 => rw [ho] at q; exact fun σ6 F6 H6 s6 t6 => q _ F6 H6 (sub.trans s6) (un t6)
            | rt r => rw [ho] at q; exact q
            | exc e6 c6 f6 => rw [ho] at q; exact q.elim
            | no => rw [ho] at q; exact q.elim
          · subst eb
            exact q _ _ σ' F' H' sb st' ⟨rfl, rfl⟩
end
/-! ### isinstance with errors -/
def isX (cl : Cl) : D → D → Option Bool
  | .exn c [] _, t => cl.kx c t
  | _, _ => none
def dIsX (cl : Cl) : List R → Option R
  | [r, t] => match isX cl r.dat t.dat with
    | some k => some (.val (.bl k))
    | none => dIsi [r, t]
  | _ => none
def rIsiX (K : PySem.W.Frag) : List V → Hp → VK → Prop := fun xs H Q => rIsi K xs H Q ∨ rIsX K xs H Q
theorem call_isiX {X : Cx} : CallR X (.builtin "isinstance") (rIsiX X.K) := fun pins s σ H xs us Q I r h => by
  rcases h with h | h
  · exact call_isi pins s σ H xs us Q I r h
  · exact call_isX pins s σ H xs us Q I r h
theorem cd_isX {K : PySem.W.Frag} {T : List Addr} {cl : Cl} (ok : ClOk K cl) : CallD K T (rIsiX K) (dIsX cl) := fun H0 F H vs rs c Q okH up q h k => by
  unfold dIsX at h
  split at h
  · rename_i r t
    split at h
    · rename_i b hx
      cases h
      obtain ⟨v, u, rfl, q1, q2⟩ := rql2 q
      have z := q1.toH okH up
      have z2 := q2.toH okH up
      cases hr : r.dat with
      | exn c' ns ds =>
        rw [hr] at hx z
        cases ns with
        | cons a b => cases hx
        | nil =>
        generalize ht : t.dat = td at hx z2
        have hx : cl.kx c' td = some b := hx
        rw [Rp] at z
        obtain ⟨a, dd, rfl, ha, hz⟩ := z
        have hn : dd = none := by
          rcases hz with ⟨h1, _⟩ | ⟨d2, vs, h0, _⟩
          · exact h1
          · exact absurd rfl h0
        subst hn
        obtain ⟨hE, hd⟩ := ok.kx c' td b hx
        cases td with
        | cls c2 =>
          rw [Rp] at z2
          exact Or.inr ⟨a, c', u, .ref c2, b, rfl, ha, hE, fun w hw => by rw [z2] at hw; exact hw, hd, k _ F H (Le.refl okH) (by rw [Rr, Rp])⟩
        | ty n =>
          rw [Rp] at z2
          exact Or.inr ⟨a, c', u, .type n, b, rfl, ha, hE, fun w hw => by rw [z2] at hw; exact hw, hd, k _ F H (Le.refl okH) (by rw [Rr, Rp])⟩
        | _ => exact hd.elim
      | _ => rw [hr] at hx; cases hx
    · exact Or.inl (cd_isi H0 F H _ _ c Q okH up q h k)
  · cases h
end Fw
namespace Fw
open PySem PySem.Spec PyProof.Rows L2
/-! ### a def that may raise -/
section
variable {P : Program} {w : World} {K : PySem.W.Frag} {mg : Str → Option Value} {base : Heap} {T : List Addr}
theorem tkX {N : List Str} {qual : Str} {scope : Scope} {f : Addr} {cdv : Value} {A : Around} {outer : List PySem.Env} {s : Shared} {H : Hp} {E : XK} : Takes (cxOf (L2.CX P w) P w K mg base N qual scope f cdv A outer s H E) (fun cls d _ H => E cls d H) := takes_of rfl rfl rfl rfl
theorem fn_okX {x qual : Str} {st : Stmt} {f : Addr} {fd : FuncData} {N ps : List Str} {k : Nat} (F : Fun K x qual st f fd) (S : FnScope N ps (defScope st)) (body : Env → Out)
    (h : ∀ (cdv : Value) (A : Around) (outer : List PySem.Env) (s : Shared) (H : Hp) (E : XK), Room k (A.deeper (envOfC qual (defScope st) s.heap.objs.size f cdv)) → DSs (cxOf (L2.CX P w) P w K mg base N qual (defScope st) f cdv A outer s H E) T (fun cls d _ H => E cls d H) (defBody st) body) :
    FnOk P w K mg base (L2.CX P w) (k + 1) f fd ps (spD K T ps.length (runX N.length body)) := by
  refine F.okX S (fun vs H Q E h => by obtain ⟨F, ds, hl, _⟩ := h; exact hl) (fun cdv A outer s H vs Q E hr hsp => ?_)
  obtain ⟨F, ds, hl, ok, r, q⟩ := hsp
  exact ⟨_, h cdv A outer s H E hr F H, F, _, start_ok (N := N) ok r, run_out (E := E) (fun _ _ _ _ z => z) (fun _ => rfl) q⟩
/-- what raises nothing, as a def that may raise -/
theorem fn_ok00 {x qual : Str} {st : Stmt} {f : Addr} {fd : FuncData} {N ps : List Str} {k : Nat} (F : Fun K x qual st f fd) (S : FnScope N ps (defScope st)) (body : Env → Out)
    (h : ∀ (cdv : Value) (A : Around) (outer : List PySem.Env) (s : Shared) (H : Hp) (E : XK), Room k (A.deeper (envOfC qual (defScope st) s.heap.objs.size f cdv)) → DSs (cxOf CX0 P w K mg base N qual (defScope st) f cdv A outer s H E).nox T W0 (defBody st) body) :
    FnOk P w K mg base CX0 (k + 1) f fd ps (spD K T ps.length (run0 N.length body)) := fn_ok0 F S body h
end
/-! ### fields -/
def fldN (f : Str) : List Str → List D → Option D
  | n :: ns, d :: ds => if n = f then some d else fldN f ns ds
  | _, _ => none
theorem fldN_zip {K : PySem.W.Frag} {H : Hp} {f : Str} : ∀ {ns : List Str} {ds : List D} {vs : List V} {d : D}, RpL K H ds vs → fldN f ns ds = some d → ∃ v, (ns.zip vs).lookup f = some v ∧ Rp K H d v
  | [], ds, vs, d, h, e => by cases ds <;> cases e
  | n :: ns, [], vs, d, h, e => by cases e
  | n :: ns, d0 :: ds, vs, d, h, e => by
    rw [RpL] at h
    obtain ⟨v, r, rfl, h2, h3⟩ := h
    unfold fldN at e
    split at e
    · rename_i hn
      cases e
      subst hn
      exact ⟨v, by simp [List.zip_cons_cons], h2⟩
    · rename_i hn
      obtain ⟨v2, g1, g2⟩ := fldN_zip h3 e
      refine ⟨v2, ?_, g2⟩
      have : (f == n) = false := by simpa using fun z => hn (Eq.symm z)
      rw [List.zip_cons_cons, List.lookup_cons, this]
      exact g1
/-- e.f -/
def fldR (f : Str) (c : Addr) : R → Option R
  | .val (.ins c' ns ds) => if c' = c then (fldN f ns ds).map .val else none
  | .val (.slf _ c' ns ds) => if c' = c then (fldN f ns ds).map .val else none
  | .brw (.ins c' ns ds) => if c' = c then (fldN f ns ds).map nrm else none
  | _ => none
def fFld (f : Str) (c : Addr) (fa : Env → O R) : Env → O R := fun es => (fa es).bind fun r => O.of (fldR f c r)
section
variable {X : Cx} {T : List Addr} {W : WX} {e : Expr} {es : List Expr} {x f : Str} {pos : Pos} {fa : Env → O R} {c : Addr}
theorem fldR_ok {K : PySem.W.Frag} {T : List Addr} {F0 H0 F1 H1 : Hp} {σ : L2.St} {es : Env} {r r' : R} {v : V} {f : Str} {c : Addr} (st1 : StOk K T F0 H0 F1 H1 σ es) (q1 : Rq K T H0 F1 H1 v r.fz) (hf : fldR f c r = some r') :
    ∃ a dx fs v', v = .ref a ∧ H1 a = some (.ins c dx fs) ∧ fs.lookup f = some v' ∧ Rr K T H0 H1 F1 H1 v' r' := by
  cases r with
  | new xs => cases hf
  | bor xs => cases hf
  | val d =>
    cases d with
    | ins c' ns ds =>
      replace hf : (if c' = c then (fldN f ns ds).map R.val else none) = some r' := hf
      split at hf
      · rename_i hcc
        subst hcc
        cases hd : fldN f ns ds with
        | none => rw [hd] at hf; cases hf
        | some d =>
          rw [hd] at hf
          cases hf
          replace q1 : Rp K F1 (.ins c' ns ds) v := q1
          rw [Rp] at q1
          obtain ⟨a, dx, vs, rfl, g1, g2, g3⟩ := q1
          obtain ⟨v, e1, e2⟩ := fldN_zip g3 hd
          exact ⟨a, dx, _, v, rfl, st1.ok.sub _ _ g1, e1, e2⟩
      · cases hf
    | slf a c' ns ds =>
      replace hf : (if c' = c then (fldN f ns ds).map R.val else none) = some r' := hf
      split at hf
      · rename_i hcc
        subst hcc
        cases hd : fldN f ns ds with
        | none => rw [hd] at hf; cases hf
        | some d =>
          rw [hd] at hf
          cases hf
          replace q1 : Rp K F1 (.slf a c' ns ds) v := q1
          rw [Rp] at q1
          obtain ⟨rfl, dx, vs, g1, g2, g3⟩ := q1
          obtain ⟨v, e1, e2⟩ := fldN_zip g3 hd
          exact ⟨a, dx, _, v, rfl, st1.ok.sub _ _ g1, e1, e2⟩
      · cases hf
    | _ => cases hf
  | brw d =>
    cases d with
    | ins c' ns ds =>
      replace hf : (if c' = c then (fldN f ns ds).map nrm else none) = some r' := hf
      split at hf
      · rename_i hcc
        subst hcc
        cases hd : fldN f ns ds with
        | none => rw [hd] at hf; cases hf
        | some d =>
          rw [hd] at hf
          cases hf
          replace q1 : Rp K H0 (.ins c' ns ds) v := q1
          rw [Rp] at q1
          obtain ⟨a, dx, vs, rfl, g1, g2, g3⟩ := q1
          obtain ⟨v, e1, e2⟩ := fldN_zip g3 hd
          have nT : a ∉ T := fun m => by
            obtain ⟨ps, z, _⟩ := st1.ok0.tab a m
            rw [z] at g1; cases g1
          exact ⟨a, dx, _, v, rfl, st1.le.h a _ nT g1, e1, rr_nrm e2⟩
      · cases hf
    | _ => cases hf
theorem de_fld (ha : DE X T W e fa) (hc : Cls X.K c) (hn : NoAttr X.K c f) (hb : attributeBase e f X.env (eval e X.env) = eval e X.env := by rfl) : DE X T W (.Attribute e f pos) (fFld f c fa) :=
  pe_weak (pe_fld ha hb) fun σ H Q ⟨F0, H0, F, es, st, h⟩ => ⟨F0, H0, F, es, st, pr_seq st h fun r v F1 H1 _ st1 l1 q1 h1 => by
    cases hf : fldR f c r with
    | none => rw [hf] at h1; exact h1.elim
    | some r' =>
      rw [hf] at h1
      obtain ⟨a, dx, fs, v', rfl, g1, g2, g3⟩ := fldR_ok st1 q1 hf
      exact ⟨a, c, dx, fs, v', rfl, g1, hc, hn, g2, h1 v' F1 H1 (Le.refl st1.ok) g3⟩⟩
end
end Fw
namespace Fw
open PySem PySem.Spec PyProof.Rows L2
/-! ### methods -/
def tMethE (C : Addr) (m : Str) (sp : Sp) (E : L2.St → XK) (ta : TE) (t : TA) : TE := fun σ H Q => ta σ H fun x H1 => ∃ a dx fs, x = .ref a ∧ H1 a = some (.ins C dx fs) ∧ fs.lookup m = none ∧ t σ H1 fun vs H2 => sp (x :: vs) H2 Q (E σ)
section
variable {X : Cx} {CX : CXT} {k : Nat} {f C : Addr} {fd : FuncData} {ps : List Str} {sp : Sp} {E : L2.St → XK} {x m : Str} {p pos apos : Pos} {e o : Expr} {es : List Expr} {ta : TE} {t : TA}
theorem pe_methE {pl : Sem Bool} (he : PE X o ta) (c : Cls X.K C) (hm : Meth X.K C m f) (F : FnOk X.prog X.w X.K X.mg X.base CX k f fd ps sp) (hr : Room k X.A) (hb : Binds X.K fd ps []) (hx : ∀ σ, PassesAt CX X σ (E σ)) (ha : PA X (e :: es) t)
    (hst : starEach (e :: es) X.env = (false, eval e X.env) :: starEach es X.env := by rfl) (hpl : (backTo pos (starEach es X.env)).any (·.1) = false := by rfl)
    (ht : eval (.Call (.Attribute o m apos) (e :: es) [] pos) X.env = (do let ov ← eval o X.env; standAt apos.atName; let (f, first) ← holding [ov] (getMethod ov m pl); callWith pos f first (backTo pos (starEach (e :: es) X.env)) (backToKw pos (keywordEach [] X.env))) := by rfl) :
    PE X (.Call (.Attribute o m apos) (e :: es) [] pos) (tMethE C m sp E ta t) := by
  refine ⟨fun pins s σ H Q I h => PySem.W.methodCall_KW (pl := pl) (thn (he.run pins s σ H _ I h) fun u s1 ⟨x, H1, I1, rx, a, dx, fs, ex, ea, l, q⟩ => ?_) ht⟩
  subst ex
  obtain rfl : u = Value.ref a := rx
  exact getmeth_ok I1 ea c hm l (PySem.W.callWith_K (first := [.ref a]) (h₀ := X.base) I.ok.mod.kin hm.kp (thn (ha.run pos pins s1 σ H1 _ I1 q) fun us s2 ⟨vs, H2, I2, r, q2⟩ => ⟨I2.kIn, run_fnS (us := .ref a :: us) (vs := .ref a :: vs) F hr hb (hx σ) I2 (.cons rfl r) q2⟩) hst hpl)
theorem pe_methE0 {pl : Sem Bool} (he : PE X o ta) (c : Cls X.K C) (hm : Meth X.K C m f) (F : FnOk X.prog X.w X.K X.mg X.base CX k f fd ps sp) (hr : Room k X.A) (hb : Binds X.K fd ps []) (hx : ∀ σ, PassesAt CX X σ (E σ))
    (ht : eval (.Call (.Attribute o m apos) [] [] pos) X.env = (do let ov ← eval o X.env; standAt apos.atName; let (f, first) ← holding [ov] (getMethod ov m pl); callWith pos f first (backTo pos (starEach [] X.env)) (backToKw pos (keywordEach [] X.env))) := by rfl) :
    PE X (.Call (.Attribute o m apos) [] [] pos) (tMethE C m sp E ta tNil) := by
  refine ⟨fun pins s σ H Q I h => PySem.W.methodCall_KW (pl := pl) (thn (he.run pins s σ H _ I h) fun u s1 ⟨x, H1, I1, rx, a, dx, fs, ex, ea, l, q⟩ => ?_) ht⟩
  subst ex
  obtain rfl : u = Value.ref a := rx
  exact getmeth_ok I1 ea c hm l (PySem.W.callWith_K0 (first := [.ref a]) I1.kIn hm.kp (run_fnS (us := [.ref a]) (vs := [.ref a]) F hr hb (hx σ) I1 (.cons rfl .nil) q))
end
/-- an instance of the class c without an own m -/
def insOf (c : Addr) (m : Str) : D → Bool
  | .ins c' ns _ => decide (c' = c) && !ns.contains m
  | _ => false
theorem insOf_ok {K : PySem.W.Frag} {H : Hp} {c : Addr} {m : Str} {d : D} {v : V} (h : insOf c m d = true) (r : Rp K H d v) : ∃ a dx fs, v = .ref a ∧ H a = some (.ins c dx fs) ∧ fs.lookup m = none := by
  cases d with
  | ins c' ns ds =>
    have h : (decide (c' = c) && !ns.contains m) = true := h
    rw [Bool.and_eq_true] at h
    have e := of_decide_eq_true h.1
    subst e
    rw [Rp] at r
    obtain ⟨a, dx, vs, rfl, h2, h3, h4⟩ := r
    refine ⟨a, dx, _, rfl, h2, ?_⟩
    have hm : m ∉ ns := by simpa using h.2
    rw [List.lookup_eq_none_iff]
    intro p hp
    have := (List.of_mem_zip hp).1
    simp
    exact fun z => hm (z ▸ this)
  | _ => cases h
def fMeth (c : Addr) (m : Str) (g : List D → O R) (fo : Env → O R) (fr : Env → O (List R)) : Env → O R := fun es => (fo es).bind fun r => if insOf c m r.dat = true then (fr es).bind (fun rs => match g (r.dat :: rs.map R.dat) with
  | .ok (.val d) => .ok (.val d)
  | .ok (.new xs) => .ok (.new xs)
  | .exc c fs => .exc c fs
  | _ => .no) else .no
section
variable {X : Cx} {T : List Addr} {W : WX} {m : Str} {pos apos : Pos} {e o : Expr} {es : List Expr} {fo : Env → O R} {fr : Env → O (List R)} {g : List D → O R} {c f : Addr} {fd : FuncData} {ps : List Str} {k n : Nat} {CX : CXT}
theorem meth_weak {σ : L2.St} {H : Hp} {Q : VK} (hn : ∀ es rs, fr es = .ok rs → rs.length + 1 = n) (h : tD X.K T W (fMeth c m g fo fr) σ H Q) : tMethE c m (spD X.K T n g) (WE W) (tD X.K T W fo) (tDA X.K T W fr) σ H Q := by
  obtain ⟨F0, H0, F, es, st, h⟩ := h
  refine ⟨F0, H0, F, es, st, pr_seq st h fun r v F1 H1 _ st1 l1 q1 h1 => ?_⟩
  split at h1
  · rename_i hi
    have rv : Rp X.K H1 r.dat v := by rw [← R.fz_dat]; exact q1.toH st1.ok st1.up
    obtain ⟨a, dx, fs, rfl, g1, g2⟩ := insOf_ok hi rv
    refine ⟨a, dx, fs, rfl, g1, g2, F0, H0, F1, es, st1, pa_seq st1 h1 fun rs vs F2 H2 hrs st2 l2 q2 h2 => ?_⟩
    refine ⟨F2, r.dat :: rs.map R.dat, ?_, st2.ok, RpL.cons (l2.rp st1.ok.tab _ rv) (q2.toH st2.ok st2.up), ?_⟩
    · rw [List.length_cons, ← q2.len]; exact hn es rs hrs
    · cases hg : g (r.dat :: rs.map R.dat) with
      | no => rw [hg] at h2; exact h2
      | exc c fs => rw [hg] at h2; exact fun cls d F' H' l q => h2 cls d F' H' l q
      | ok r =>
        rw [hg] at h2
        cases r with
        | val d => exact fun v F' H' l q => h2 v F' H' l q
        | new xs => exact fun v F' H' l q => h2 v F' H' l q
        | brw d => exact h2
        | bor xs => exact h2
  · exact h1.elim
theorem de_meth {pl : Sem Bool} (ho : DE X T W o fo) (hc : Cls X.K c) (hm : Meth X.K c m f) (F : FnOk X.prog X.w X.K X.mg X.base CX k f fd ps (spD X.K T n g)) (hr : Room k X.A) (hb : Binds X.K fd ps []) (hx : ∀ σ, PassesAt CX X σ (WE W σ)) (ha : DA X T W (e :: es) fr) (hn : ∀ es rs, fr es = .ok rs → rs.length + 1 = n)
    (hst : starEach (e :: es) X.env = (false, eval e X.env) :: starEach es X.env := by rfl) (hpl : (backTo pos (starEach es X.env)).any (·.1) = false := by rfl)
    (ht : eval (.Call (.Attribute o m apos) (e :: es) [] pos) X.env = (do let ov ← eval o X.env; standAt apos.atName; let (f, first) ← holding [ov] (getMethod ov m pl); callWith pos f first (backTo pos (starEach (e :: es) X.env)) (backToKw pos (keywordEach [] X.env))) := by rfl) :
    DE X T W (.Call (.Attribute o m apos) (e :: es) [] pos) (fMeth c m g fo fr) := pe_weak (pe_methE (pl := pl) ho hc hm F hr hb hx ha hst hpl ht) fun σ H Q h => meth_weak hn h
theorem de_meth0 {pl : Sem Bool} (ho : DE X T W o fo) (hc : Cls X.K c) (hm : Meth X.K c m f) (F : FnOk X.prog X.w X.K X.mg X.base CX k f fd ps (spD X.K T 1 g)) (hr : Room k X.A) (hb : Binds X.K fd ps []) (hx : ∀ σ, PassesAt CX X σ (WE W σ))
    (ht : eval (.Call (.Attribute o m apos) [] [] pos) X.env = (do let ov ← eval o X.env; standAt apos.atName; let (f, first) ← holding [ov] (getMethod ov m pl); callWith pos f first (backTo pos (starEach [] X.env)) (backToKw pos (keywordEach [] X.env))) := by rfl) :
    DE X T W (.Call (.Attribute o m apos) [] [] pos) (fMeth c m g fo fNil) := pe_weak (pe_methE0 (pl := pl) ho hc hm F hr hb hx ht) fun σ H Q h => by
  obtain ⟨F0, H0, F, es, st, h⟩ := meth_weak (fr := fNil) (n := 1) (fun es rs e => by cases e; rfl) h
  refine ⟨F0, H0, F, es, st, ?_⟩
  cases ho : fo es with
  | no => rw [ho] at h; exact h
  | exc c fs => rw [ho] at h; exact h
  | ok r =>
    rw [ho] at h
    intro v F' H' l q
    obtain ⟨a, dx, fs, e1, e2, e3, F1, H1, F2, es1, st1, h2⟩ := h v F' H' l q
    exact ⟨a, dx, fs, e1, e2, e3, h2 [] F2 H' (Le.refl st1.ok) rfl⟩
/-- nothing raised -/
theorem pas0 {E : L2.St → XK} (σ : L2.St) : PassesAt CX0 X σ (E σ) := fun _ _ _ _ _ _ h => h.elim
end
end Fw
namespace Fw
open PySem PySem.Spec PyProof.Rows L2
/-! ### an object in the making -/
mutual
def noIns : D → Bool
  | .lst xs => noInsL xs
  | .tup xs => noInsL xs
  | .ins _ _ _ => false
  | .slf _ _ _ _ => false
  | .exn _ ns _ => ns.isEmpty
  | .dct _ _ => false
  | _ => true
def noInsL : List D → Bool
  | [] => true
  | d :: ds => noIns d && noInsL ds
end
def noInsS : Sl → Bool
  | .val d => noIns d
  | .own xs => noInsL xs
  | .own2 xss => xss.all noInsL
  | .odc _ _ => false
  | _ => true
section
variable {K : PySem.W.Frag}
theorem Rd.swap {F F' : Hp} {x a : Addr} {o u : HO} (hx : F x = some o) (he : ∀ b, b ≠ x → F' b = F b) (n1 : o ≠ u) (n2 : ∀ ob, o ≠ .frz ob u) (h : Rd F a u) : Rd F' a u := by
  rcases h with h | ⟨ob, h⟩
  · have : a ≠ x := fun z => by rw [z, hx] at h; exact n1 (Option.some.inj h)
    exact .inl (by rw [he a this]; exact h)
  · have : a ≠ x := fun z => by rw [z, hx] at h; exact n2 ob (Option.some.inj h)
    exact .inr ⟨ob, by rw [he a this]; exact h⟩
mutual
theorem Rp.swap {F F' : Hp} {x c dx : Addr} {fs : List (Str × V)} (hx : F x = some (.ins c dx fs)) (he : ∀ b, b ≠ x → F' b = F b) : ∀ (d : D) {v : V}, noIns d = true → Rp K F d v → Rp K F' d v
  | .non, v, _, h => by simpa [Rp] using h
  | .bl b, v, _, h => by simpa [Rp] using h
  | .int i, v, _, h => by simpa [Rp] using h
  | .str s, v, _, h => by simpa [Rp] using h
  | .ty n, v, _, h => by simpa [Rp] using h
  | .cls c, v, _, h => by simpa [Rp] using h
  | .lst xs, v, n, h => by
    rw [Rp] at h ⊢
    obtain ⟨a, vs, h1, h2, h3⟩ := h
    simp only [noIns] at n
    refine ⟨a, vs, h1, ?_, RpL.swap hx he xs n h3⟩
    rcases h2 with h2 | h2
    · exact .inl (Rd.swap hx he (fun z => by cases z) (fun _ z => by cases z) h2)
    · exact .inr h2
  | .tup xs, v, n, h => by
    rw [Rp] at h ⊢
    obtain ⟨a, vs, h1, h2, h3⟩ := h
    simp only [noIns] at n
    refine ⟨a, vs, h1, ?_, RpL.swap hx he xs n h3⟩
    rcases h2 with h2 | h2
    · exact .inl (Rd.swap hx he (fun z => by cases z) (fun _ z => by cases z) h2)
    · exact .inr h2
  | .exn c ns ds, v, n, h => by
    rw [Rp] at h ⊢
    obtain ⟨a, d, h1, h2, h3⟩ := h
    have ne : a ≠ x := fun z => by rw [z, hx] at h2; cases h2
    refine ⟨a, d, h1, by rw [he a ne]; exact h2, ?_⟩
    rcases h3 with h3 | ⟨dd, vs, h0, _⟩
    · exact .inl h3
    · simp only [noIns, List.isEmpty_iff] at n
      exact absurd n h0
  | .emp, v, _, h => by
    rw [Rp] at h ⊢
    obtain ⟨a, h1, h2⟩ := h
    have ne : a ≠ x := fun z => by rw [z, hx] at h2; cases h2
    exact ⟨a, h1, by rw [he a ne]; exact h2⟩
  | .ins _ _ _, v, n, _ => by simp [noIns] at n
  | .dct _ _, v, n, _ => by simp [noIns] at n
  | .slf _ _ _ _, v, n, _ => by simp [noIns] at n
theorem RpL.swap {F F' : Hp} {x c dx : Addr} {fs : List (Str × V)} (hx : F x = some (.ins c dx fs)) (he : ∀ b, b ≠ x → F' b = F b) : ∀ (ds : List D) {vs : List V}, noInsL ds = true → RpL K F ds vs → RpL K F' ds vs
  | [], vs, _, h => by simpa [RpL] using h
  | d :: ds, vs, n, h => by
    rw [RpL] at h ⊢
    rw [noInsL, Bool.and_eq_true] at n
    obtain ⟨v, r, h1, h2, h3⟩ := h
    exact ⟨v, r, h1, Rp.swap hx he d n.1 h2, RpL.swap hx he ds n.2 h3⟩
end
theorem putF_end (f : Str) (y : V) : ∀ (ns : List Str) (vs : List V), ns.length = vs.length → f ∉ ns → putF f y (ns.zip vs) = (ns ++ [f]).zip (vs ++ [y])
  | [], [], _, _ => rfl
  | n :: ns, v :: vs, h, hn => by
    have hne : n ≠ f := fun z => hn (by simp [z])
    have ih := putF_end f y ns vs (by simpa using h) (fun z => hn (by simp [z]))
    simp only [List.zip_cons_cons, List.cons_append, putF, if_neg hne, ih]
end
/-! statements of an __init__: the object at x grows -/
section
variable (K : PySem.W.Frag) (T : List Addr) (W : WX) (F0 H0 : Hp)
def OutB (D : Ends) : Out → Prop
  | .nx es => ∀ σ F H, StOk K T F0 H0 F H σ es → D.nx σ H
  | .exc es c fs => ∀ cls d σ F H, StOk K T F0 H0 F H σ es → XOk K H c fs cls d → W cls d σ H
  | _ => False
def tB (x : Addr) (g : Env → Out) : TS := fun D σ H => H0 x = none ∧ x ∉ T ∧ ∃ F es, StOk K T F0 H0 F H σ es ∧ OutB K T W F0 H0 D (g es)
end
def DB (X : Cx) (T : List Addr) (W : WX) (x : Addr) (st : Stmt) (g : Env → Out) : Prop := ∀ F0 H0, PS X st (tB X.K T W F0 H0 x g)
def DBs (X : Cx) (T : List Addr) (W : WX) (x : Addr) (st : List Stmt) (g : Env → Out) : Prop := ∀ F0 H0, PSs X st (tB X.K T W F0 H0 x g)
def gFld (x c : Addr) (f : Str) (fv : Env → O R) : Env → Out := fun es => (fv es).out es fun r => match (es[0]? : Option Sl), r.fz.sto with
  | some (Sl.val (D.slf a c' ns ds)), some d => if a = x ∧ c' = c ∧ f ∉ ns ∧ ns.length < 900 ∧ noIns d = true ∧ noInsL ds = true ∧ es.tail.all noInsS = true then .nx (es.set 0 (.val (.slf a c' (ns ++ [f]) (ds ++ [d])))) else .no
  | _, _ => .no
section
variable {X : Cx} {T : List Addr} {W : WX} {x : Addr} {st : Stmt} {rest : List Stmt} {g h : Env → Out}
theorem db_of (hd : DS X T W st g) (hg : ∀ es r, g es ≠ .rt r) : DB X T W x st g := fun F0 H0 => ps_weak (hd F0 H0) fun D σ H ⟨_, _, F, es, st, q⟩ => by
  refine ⟨F, es, st, ?_⟩
  cases ho : g es with
  | nx e2 => rw [ho] at q; exact fun σ F H _ s => q σ F H s
  | exc e2 c fs => rw [ho] at q; exact fun cls d σ F H _ s => q cls d σ F H s
  | rt r => exact absurd ho (hg es r)
  | br e2 => rw [ho] at q; exact q.elim
  | ct e2 => rw [ho] at q; exact q.elim
  | no => rw [ho] at q; exact q.elim
theorem dbs_nil : DBs X T W x [] gNext := fun F0 H0 => pss_weak pss_nil fun D σ H ⟨_, _, F, es, st, q⟩ => q σ F H st
theorem dbs_cons (h1 : DB X T W x st g) (h2 : DBs X T W x rest h) : DBs X T W x (st :: rest) (gSeq g h) := fun F0 H0 => pss_weak (pss_cons (h1 F0 H0) (h2 F0 H0)) fun D σ H ⟨a, b, F, es, st, q⟩ => by
  refine ⟨a, b, F, es, st, ?_⟩
  unfold gSeq at q
  cases ho : g es with
  | nx e2 => rw [ho] at q; exact fun σ F H s => ⟨a, b, F, e2, s, q⟩
  | exc e2 c fs => rw [ho] at q; exact q
  | rt r => rw [ho] at q; exact q.elim
  | br e2 => rw [ho] at q; exact q.elim
  | ct e2 => rw [ho] at q; exact q.elim
  | no => rw [ho] at q; exact q.elim
theorem dbs_one (h1 : DB X T W x st g) : DBs X T W x [st] g := fun F0 H0 => pss_one (h1 F0 H0)
/-- the object grows -/
theorem StOk.fld {K : PySem.W.Frag} {F0 H0 F H : Hp} {σ : L2.St} {es : Env} {c dx : Addr} {ns : List Str} {ds : List D} {vs : List V} {d : D} {y : V} {f : Str} (st : StOk K T F0 H0 F H σ es) (h0 : H0 x = none) (hT : x ∉ T) (he : es[0]? = some (.val (.slf x c ns ds)))
    (hx : F x = some (.ins c dx (ns.zip vs))) (hl : ns.length = ds.length) (r : RpL K F ds vs) (rd : Rp K F d y) (hf : f ∉ ns) (n1 : noIns d = true) (n2 : noInsL ds = true) (n3 : es.tail.all noInsS = true) :
    StOk K T F0 H0 (upd F x (.ins c dx (putF f y (ns.zip vs)))) (upd H x (.ins c dx (putF f y (ns.zip vs)))) σ (es.set 0 (.val (.slf x c (ns ++ [f]) (ds ++ [d])))) := by
  have f0 : F0 x = none := st.ok0.nf h0
  have at_ : ∀ b, b ≠ x → upd F x (.ins c dx (putF f y (ns.zip vs))) b = F b := fun b hb => upd_ne hb
  have pz : putF f y (ns.zip vs) = (ns ++ [f]).zip (vs ++ [y]) := putF_end f y ns vs (hl.trans r.len) hf
  have hlen : σ.length = es.length := st.env.len
  have low : ∀ j s, es[j + 1]? = some s → noInsS s = true := fun j s hs => by
    refine List.all_eq_true.mp n3 s (List.mem_iff_getElem?.mpr ⟨j, ?_⟩)
    rw [List.getElem?_tail]; exact hs
  have nod : ∀ {j : Nat} {ks : List DK} {fs : List D}, (es.set 0 (.val (.slf x c (ns ++ [f]) (ds ++ [d]))))[j]? = some (.odc ks fs) → False := fun {j ks fs} h => by
    rcases get_set h with ⟨e, e2⟩ | ⟨e, e2⟩
    · cases e2
    · cases j with
      | zero => exact e rfl
      | succ j =>
        have := low j _ e2
        cases this
  refine ⟨st.ok0, ⟨fun b o e => ?_, fun b o hb e => ?_, fun b e n => ?_, ⟨fun b o e => ?_, fun P hP => ?_, fun P hP => ?_⟩⟩, ⟨by simp [hlen], fun j e hj => ?_, fun j e hj => ?_, fun j xs hj => ?_, fun i j xs ys p h1 h2 h3 h4 => ?_, fun j xss hj => ?_, ⟨fun j ks es' hj => (nod hj).elim, fun i j ks es' ls fs p h1 h2 h3 h4 => (nod h1).elim⟩⟩⟩
  · rw [at_ b (fun z => by rw [z, f0] at e; cases e)]; exact st.le.f b o e
  · rw [upd_ne (fun z => by rw [z, h0] at e; cases e)]; exact st.le.h b o hb e
  · rw [at_ b (fun z => n (by rw [z]; exact h0))]; exact st.le.n b e n
  · by_cases hb : b = x
    · subst hb
      rw [upd_same] at e ⊢
      exact e
    · rw [upd_ne hb] at e ⊢
      exact st.ok.sub b o e
  · have ne : P ≠ x := fun z => hT (z ▸ hP)
    obtain ⟨ps, q1, q2⟩ := st.ok.tab P hP
    exact ⟨ps, by rw [upd_ne ne]; exact q1, q2⟩
  · have ne : P ≠ x := fun z => hT (z ▸ hP)
    rw [at_ P ne]; exact st.ok.ntab P hP
  · cases j with
    | zero =>
      have hlt : 0 < es.length := (List.getElem?_eq_some_iff.mp he).1
      have ej : e = .slf x c (ns ++ [f]) (ds ++ [d]) := by
        rw [List.getElem?_set_self hlt] at hj
        cases hj; rfl
      subst ej
      obtain ⟨v, s1, s2⟩ := st.env.val 0 _ he
      rw [Rp] at s2
      refine ⟨v, s1, ?_⟩
      rw [Rp]
      exact ⟨s2.1, dx, vs ++ [y], by rw [upd_same, pz], by simp [hl], (r.swap hx at_ ds n2).app (RpL.cons (Rp.swap hx at_ d n1 rd) RpL.nil)⟩
    | succ j =>
      rw [List.getElem?_set_ne (by omega)] at hj
      obtain ⟨v, s1, s2⟩ := st.env.val (j + 1) e hj
      exact ⟨v, s1, Rp.swap hx at_ e (low j _ hj) s2⟩
  · cases j with
    | zero =>
      have hlt : 0 < es.length := (List.getElem?_eq_some_iff.mp he).1
      rw [List.getElem?_set_self hlt] at hj
      cases hj
    | succ j =>
      rw [List.getElem?_set_ne (by omega)] at hj
      exact st.env.brw (j + 1) e hj
  · cases j with
    | zero =>
      have hlt : 0 < es.length := (List.getElem?_eq_some_iff.mp he).1
      rw [List.getElem?_set_self hlt] at hj
      cases hj
    | succ j =>
      rw [List.getElem?_set_ne (by omega)] at hj
      obtain ⟨p, vs', q1, q2, q3, q4, q5, q6⟩ := st.env.own (j + 1) xs hj
      have ne : p ≠ x := fun z => by rw [z, hx] at q3; cases q3
      exact ⟨p, vs', q1, q2, by rw [at_ p ne]; exact q3, q4, by rw [upd_ne ne]; exact q5, RpL.swap hx at_ xs (low j _ hj) q6⟩
  · have z : ∀ {i : Nat} {xs : List D}, (es.set 0 (.val (.slf x c (ns ++ [f]) (ds ++ [d]))))[i]? = some (.own xs) → es[i]? = some (.own xs) := fun {i xs} h => by
      rcases get_set h with ⟨e, e2⟩ | ⟨e, e2⟩
      · cases e2
      · exact e2
    exact st.env.uni i j xs ys p (z h1) (z h2) h3 h4
  · rcases get_set hj with ⟨e, e2⟩ | ⟨e, e2⟩
    · cases e2
    · obtain ⟨p, ps, g1, ⟨k1, k2, k3, k4, k5, k6, k7, k8⟩, g3, g4⟩ := st.env.two j xss e2
      have ne : ∀ {q : Addr}, F q = none → q ≠ x := fun {q} h z => by rw [z, hx] at h; cases h
      have lo : xss.all noInsL = true := by
        cases j with
        | zero => exact absurd rfl e
        | succ j => exact low j _ e2
      refine ⟨p, ps, g1, ⟨k1, by rw [at_ p (ne k2)]; exact k2, k3, by rw [upd_ne (ne k2)]; exact k4, k5, k6, k7, fun m q hm => ?_⟩, fun m zs q hm hq => ?_, fun m zss hm => ?_⟩
      · obtain ⟨f1, f2, f3, us, zs, f4, f5, f6⟩ := k8 m q hm
        exact ⟨f1, by rw [at_ q (ne f2)]; exact f2, f3, us, zs, f4, by rw [upd_ne (ne f2)]; exact f5, RpL.swap hx at_ zs (List.all_eq_true.mp lo zs (List.mem_iff_getElem?.mpr ⟨m, f4⟩)) f6⟩
      · rcases get_set hm with ⟨f, f2⟩ | ⟨_, f2⟩
        · cases f2
        · exact g3 m zs q f2 hq
      · rcases get_set hm with ⟨f, f2⟩ | ⟨_, f2⟩
        · cases f2
        · exact g4 m zss f2
end
end Fw
namespace Fw
open PySem PySem.Spec PyProof.Rows L2
section
variable {X : Cx} {T : List Addr} {W : WX} {x c : Addr} {st : Stmt} {rest : List Stmt} {g h : Env → Out} {f n0 : Str} {value : Expr} {fv : Env → O R} {pos pos' p : Pos}
theorem db_fld (hv : DE X T W value fv) (hc : Cls X.K c) (hn : NoAttr X.K c f) (h0 : DE X T W (.Name n0 p) (fVar 0)) (hs : swapsWith value (some (.Attribute (.Name n0 p) f pos')) pos.line X.env = pure false := by rfl) :
    DB X T W x (.Assign [.Attribute (.Name n0 p) f pos'] value pos) (gFld x c f fv) := fun F0 H0 => ps_weak (ps_fld h0 hv hs) fun D σ H ⟨z0, zT, F, es, st, q⟩ => by
  refine ⟨F0, H0, F, es, st, ?_⟩
  unfold gFld at q
  cases ho : fv es with
  | no => rw [ho] at q; exact q.elim
  | exc c' fs => rw [ho] at q; exact fun cls d F1 H1 l xo => q cls d σ F1 H1 (st.step l) xo
  | ok r =>
    rw [ho] at q
    intro v F1 H1 l q1
    obtain ⟨F2, l2, s12, q2⟩ := q1.fz l
    have st2 := st.step l2
    simp only [O.out_ok] at q
    split at q
    · rename_i a c' ns ds d he hd
      split at q
      · rename_i hh
        obtain ⟨rfl, rfl, hf, hlen, n1, n2, n3⟩ := hh
        have rd : Rp X.K F2 d v := q2.sto hd
        have hvar : fVar 0 es = .ok (.val (.slf a c' ns ds)) := by unfold fVar; rw [he]
        refine ⟨F0, H0, F2, es, st2, ?_⟩
        rw [hvar]
        intro v3 F3 H3 l3 q3
        rw [Rr, Rp] at q3
        obtain ⟨rfl, dx, vs, g1, g2, g3⟩ := q3
        have st3 := st2.step l3
        have rd3 : Rp X.K F3 d v := rd.mono l3.f
        refine ⟨a, c', dx, _, rfl, st3.ok.sub _ _ g1, hc, hn, ?_, ?_⟩
        · have : (ns.zip vs).length ≤ ns.length := by rw [List.length_zip]; exact Nat.min_le_left _ _
          omega
        · exact q σ _ _ (StOk.fld st3 z0 zT he g1 g2 g3 rd3 hf n1 n2 n3)
      · exact q.elim
    · exact q.elim
/-! ### the maker -/
def startI (x c : Addr) (n : Nat) (ds : List D) : Env := (startE n (.cls x :: ds)).set 0 (.val (.slf x c [] []))
def endI (x : Addr) (es : Env) : O R := match (es[0]? : Option Sl) with
  | some (Sl.val (D.slf a c' ns ds')) => if a = x then .ok (.val (.ins c' ns ds')) else .no
  | _ => .no
theorem endI_ok {es : Env} {r : R} (h : endI x es = .ok r) : ∃ c' ns ds', es[0]? = some (.val (.slf x c' ns ds')) ∧ r = .val (.ins c' ns ds') := by
  unfold endI at h
  split at h
  · rename_i a c' ns ds' he
    split at h
    · rename_i ha
      subst ha
      cases h
      exact ⟨c', ns, ds', he, rfl⟩
    · cases h
  · cases h
theorem endI_exc {es : Env} {c : Addr} {fs : Option (List Str × List D)} (h : endI x es = .exc c fs) : False := by
  unfold endI at h
  split at h
  · split at h <;> cases h
  · cases h
def runI (c : Addr) (n : Nat) (body : Addr → Env → Out) (x : Addr) (ds : List D) : O R := match body x (startI x c n ds) with
  | .nx es => endI x es
  | .exc _ c' fs => .exc c' fs
  | _ => .no
end
def spI (K : PySem.W.Frag) (T : List Addr) (n : Nat) (c : Addr) (g : Addr → List D → O R) : Sp := fun vs H Q E => ∃ F ds H1 dx x args, vs = .ref x :: args ∧ vs.length = n ∧ H = upd (upd H1 dx (.own x)) x (.ins c dx []) ∧ H1 x = none ∧ H1 dx = none ∧ dx ≠ x ∧ Ok T F H1 ∧ RpL K H1 ds args ∧ match g x ds with
  | .ok (.val d) => ∀ F' H', Le T F H1 F' H' → Rp K F' d (.ref x) → Q .non H'
  | .exc c fs => ∀ cls d F' H', Le T F H1 F' H' → XOk K H' c fs cls d → E cls d H'
  | _ => False
section
variable {P : Program} {w : World} {K : PySem.W.Frag} {mg : Str → Option Value} {base : Heap} {T : List Addr}
theorem fn_okI {x qual : Str} {st : Stmt} {f c : Addr} {fd : FuncData} {N ps : List Str} {k : Nat} {dvs : List V} (F : FunD K x qual (defArgs st) (defBody st) (defScope st) dvs [] f fd) (S : FnScope N ps (defScope st)) (body : Addr → Env → Out) (hps : 0 < ps.length)
    (h : ∀ (y : Addr) (cdv : Value) (A : Around) (outer : List PySem.Env) (s : Shared) (H : Hp) (E : XK), Room k (A.deeper (envOfC qual (defScope st) s.heap.objs.size f cdv)) → DBs (cxOf (L2.CX P w) P w K mg base N qual (defScope st) f cdv A outer s H E) T (fun cls d _ H => E cls d H) y (defBody st) (body y)) :
    FnOk P w K mg base (L2.CX P w) (k + 1) f fd ps (spI K T ps.length c (runI c N.length body)) := by
  refine F.ok (CX := L2.CX P w) S (fun vs H Q E h => by obtain ⟨_, _, _, _, _, _, _, hl, _⟩ := h; exact hl) (fun cdv A outer s H vs Q E hr hsp => ?_)
  obtain ⟨F, ds, H1, dx, x, args, rfl, hl, rfl, hx, hdx, hne, ok, r, q⟩ := hsp
  have st0 : StOk K T F H1 F H1 (L2.start N (.ref x :: args)) (startE N.length (.cls x :: ds)) := start_ok (N := N) ok (RpL.cons (by rw [Rp]) r)
  have l1 : Le T F H1 F (upd H1 dx (.own x)) := Le.newH ok hdx
  have hx1 : (upd H1 dx (.own x)) x = none := by rw [upd_ne (Ne.symm hne)]; exact hx
  have l2 := Le.new l1.ok (o := .ins c dx []) hx1
  have st1 := st0.step (l1.trans l2)
  have rp : Rp K (upd F x (.ins c dx [])) (.slf x c [] []) (.ref x) := by
    rw [Rp]; exact ⟨rfl, dx, [], upd_same, rfl, RpL.nil⟩
  have st2 := StOk.set (i := 0) (v := .ref x) (s := .val (.slf x c [] [])) st1 rp
  have e0 : (L2.start N (.ref x :: args)).set 0 (some (.ref x)) = L2.start N (.ref x :: args) := rfl
  rw [e0] at st2
  refine ⟨_, h x cdv A outer s _ E hr F H1, hx, ok.nt hx, _, _, st2, ?_⟩
  unfold runI at q
  cases hb : body x (startI x c N.length ds) with
  | no => rw [hb] at q; exact q.elim
  | rt r => rw [hb] at q; exact q.elim
  | br es => rw [hb] at q; exact q.elim
  | ct es => rw [hb] at q; exact q.elim
  | exc es c' fs =>
    rw [hb] at q
    have hb' : body x ((startE N.length (.cls x :: ds)).set 0 (.val (.slf x c [] []))) = .exc es c' fs := hb
    rw [hb']
    exact fun cls d σ F' H' s xo => q cls d F' H' s.le xo
  | nx es =>
    rw [hb] at q
    have hb' : body x ((startE N.length (.cls x :: ds)).set 0 (.val (.slf x c [] []))) = .nx es := hb
    rw [hb']
    intro σ F' H' s
    simp only at q
    cases hE : endI x es with
    | no => rw [hE] at q; exact q.elim
    | exc c fs => exact (endI_exc hE).elim
    | ok r =>
      rw [hE] at q
      obtain ⟨c', ns, ds', he, rfl⟩ := endI_ok hE
      obtain ⟨v, s1, s2⟩ := s.env.val 0 _ he
      rw [Rp] at s2
      obtain ⟨rfl, dx', vs, g1, g2, g3⟩ := s2
      exact q F' H' s.le (by rw [Rp]; exact ⟨x, dx', vs, rfl, g1, g2, g3⟩)
end
/-! a call of the class -/
def fMake (mk : List D → O R) (dv : List D) (fr : Env → O (List R)) : Env → O R := fun es => (fr es).bind fun rs => match mk (rs.map R.dat ++ dv) with
  | .ok (.val d) => .ok (.val d)
  | .exc c fs => .exc c fs
  | _ => .no
def tMakeE (C : Addr) (sp : Sp) (dvs : List V) (E : L2.St → XK) (t : TA) : TE := fun σ H Q => t σ H fun vs H1 => ∀ x dx, H1 x = none → H1 dx = none → dx ≠ x → sp (.ref x :: (vs ++ dvs)) (upd (upd H1 dx (.own x)) x (.ins C dx [])) (fun v H2 => v = .non ∧ Q (.ref x) H2) (E σ)
section
variable {X : Cx} {CX : CXT} {k : Nat} {f C : Addr} {fd : FuncData} {ps : List Str} {sp : Sp} {E : L2.St → XK} {x : Str} {p pos : Pos} {e : Expr} {es : List Expr} {t : TA} {dvs : List V} {ds : List Value}
theorem pe_makeE (M : Mk X.K C f) (F : FnOk X.prog X.w X.K X.mg X.base CX k f fd ps sp) (hr : Room (k + 1) X.A) (hm : X.mg x = some (.ref C)) (hb : Binds X.K fd ps ds) (hd : Vals dvs ds) (hx : ∀ σ, PassesAt CX X σ (E σ)) (ha : PA X (e :: es) t) (hg : Gl X x := by rfl)
    (hdb : (x == ("__debug__" : Str)) = false := by decide) (he : starEach (e :: es) X.env = (false, eval e X.env) :: starEach es X.env := by rfl) (hpl : (backTo pos (starEach es X.env)).any (·.1) = false := by rfl) : PE X (.Call (.Name x p) (e :: es) [] pos) (tMakeE C sp dvs E t) := by
  refine ⟨fun pins s σ H Q I h => wpAny_Call_Name_kw (ld_glob I hg hm (PySem.W.callWith_K (h₀ := X.base) I.ok.mod.kin M.kp (thn (ha.run pos pins s σ H _ I h) fun us s1 ⟨vs, H1, I1, r, q⟩ => ⟨I1.kIn, ?_⟩) he hpl) hdb)⟩
  have q0 := q (s1.heap.objs.size + 1) s1.heap.objs.size (I1.hok.fresh (Nat.le_succ _)) (I1.hok.fresh (Nat.le_refl _)) (Nat.ne_of_lt (Nat.lt_succ_self _))
  have I2 := Inv.made (C := C) I1
  have r2 : Vals (V.ref (s1.heap.objs.size + 1) :: (vs ++ dvs)) (Value.ref (s1.heap.objs.size + 1) :: (us ++ ds)) := .cons rfl (r.append hd)
  have hl : (Value.ref (s1.heap.objs.size + 1) :: us ++ ds).length = ps.length := by
    have z := r2.length
    rw [F.len _ _ _ _ q0] at z
    exact z.symm
  refine wpAny_call (make_map (f := f) I1.kIn M.makes M.init (beq_iff_eq.mp M.fn) (codeAny_mono (F.run _ X.stack _ _ ⟨Value.ref (s1.heap.objs.size + 1) :: us, []⟩ (Value.ref (s1.heap.objs.size + 1) :: (us ++ ds)) _ _ (E σ) (hr.make C us [])
    (I2.env0.make C us []) (hb _ (Value.ref (s1.heap.objs.size + 1) :: us) I2.kIn hl) r2 q0) fun r s' h2 => ?_))
  cases r with
  | error er => exact hx σ pins _ _ er s' I2 h2
  | ok fl =>
    cases fl with
    | ret u =>
      obtain ⟨v, H', I3, rv, ev, q3⟩ := I2.after h2
      subst ev
      exact ⟨rv, ⟨V.ref (s1.heap.objs.size + 1), H', I3, rfl, q3⟩⟩
    | next => exact False.elim h2
    | brk => exact False.elim h2
    | cont => exact False.elim h2
end
section
variable {X : Cx} {T : List Addr} {W : WX} {k n : Nat} {f C : Addr} {fd : FuncData} {ps : List Str} {x : Str} {p pos : Pos} {e : Expr} {es : List Expr} {fr : Env → O (List R)} {dv : List D} {dvs : List V} {vds : List Value} {g : Addr → List D → O R} {mk : List D → O R}
theorem de_make (M : Mk X.K C f) (F : FnOk X.prog X.w X.K X.mg X.base (L2.CX X.prog X.w) k f fd ps (spI X.K T n C g)) (hmk : ∀ ds, mk ds ≠ .no → ∀ y, g y ds = mk ds) (tk : Takes X W) (hr : Room (k + 1) X.A) (hm : X.mg x = some (.ref C)) (hb : Binds X.K fd ps vds) (hd : Vals dvs vds) (hdv : ∀ H, RpL X.K H dv dvs)
    (ha : DA X T W (e :: es) fr) (hn : ∀ es rs, fr es = .ok rs → rs.length + dv.length + 1 = n) (hg : Gl X x := by rfl)
    (hdb : (x == ("__debug__" : Str)) = false := by decide) (he : starEach (e :: es) X.env = (false, eval e X.env) :: starEach es X.env := by rfl) (hpl : (backTo pos (starEach es X.env)).any (·.1) = false := by rfl) : DE X T W (.Call (.Name x p) (e :: es) [] pos) (fMake mk dv fr) :=
  pe_weak (pe_makeE M F hr hm hb hd (E := WE W) (fun σ => passAt tk σ) ha hg hdb he hpl) fun σ H Q ⟨F0, H0, F, es, st, h⟩ => by
    refine ⟨F0, H0, F, es, st, pa_seq st h fun rs vs F1 H1 hrs st1 l1 q1 h1 => fun y dy hy hdy hne => ?_⟩
    have ra := (q1.toH st1.ok st1.up).app (hdv H1)
    have len : vs.length = rs.length := q1.len.symm
    have nn : mk (rs.map R.dat ++ dv) ≠ .no := fun z => by rw [z] at h1; exact h1.elim
    have lv : dvs.length = dv.length := (hdv H1).len.symm
    refine ⟨F1, rs.map R.dat ++ dv, H1, dy, y, vs ++ dvs, rfl, ?_, rfl, hy, hdy, hne, st1.ok, ra, ?_⟩
    · rw [List.length_cons, List.length_append, len, lv]
      exact hn es rs hrs
    · rw [hmk _ nn y]
      cases hg : mk (rs.map R.dat ++ dv) with
      | no => exact absurd hg nn
      | exc c fs => rw [hg] at h1; exact fun cls d F' H' l xo => h1 cls d F' H' l xo
      | ok r =>
        rw [hg] at h1
        cases r with
        | val d => exact fun F' H' l rp => ⟨rfl, h1 (.ref y) F' H' l rp⟩
        | _ => exact h1.elim
end
end Fw
namespace Fw
open PySem PySem.Spec PyProof.Rows L2
section
variable {X : Cx} {T : List Addr} {W : WX} {a b c e : Expr} {es : List Expr} {fa fb fc : Env → O R} {pos p p2 q : Pos}
/-! ### a < b < c -/
def fChain (d1 d2 : R → R → Option R) (fa fb fc : Env → O R) : Env → O R := fun es => (fa es).bind fun x => (fb es).bind fun y => match d1 x.fz y.fz with
  | some (.val (.bl true)) => (fc es).bind fun z => O.of (d2 y.fz z.fz)
  | some (.val (.bl false)) => .ok (.val (.bl false))
  | _ => .no
theorem chain_weak {K : PySem.W.Frag} {r1 r2 : R2} {d1 d2 : R → R → Option R} (h1 : OpD K T r1 d1) (h2 : OpD K T r2 d2) {σ : L2.St} {H : Hp} {Q : VK} (h : tD K T W (fChain d1 d2 fa fb fc) σ H Q) : tChain r1 r2 (tD K T W fa) (tD K T W fb) (tD K T W fc) σ H Q := by
  obtain ⟨F0, H0, F, es, st, h⟩ := h
  refine ⟨F0, H0, F, es, st, pr_seq st h fun x vx F1 H1 _ st1 l1 q1 g1 => ?_⟩
  refine ⟨F0, H0, F1, es, st1, pr_seq st1 g1 fun y vy F2 H2 _ st2 l2 q2 g2 => ?_⟩
  cases hd : d1 x.fz y.fz with
  | none => rw [hd] at g2; exact g2.elim
  | some r =>
    rw [hd] at g2
    refine h1 H0 F2 H2 vx vy _ _ r _ st2.ok st2.up (q1.step l2) q2 hd fun v F3 H3 l3 q3 => ?_
    split at g2
    · rename_i e1
      cases e1
      rw [Rr, Rp] at q3
      refine ⟨true, q3, ?_⟩
      rw [if_pos rfl]
      have st3 := st2.step l3
      refine ⟨F0, H0, F3, es, st3, pr_seq st3 (PO.step g2 l3 fun _ _ _ _ => Rr.back l3) fun z vz F4 H4 _ st4 l4 q4 g4 => ?_⟩
      cases hd2 : d2 y.fz z.fz with
      | none => rw [hd2] at g4; exact g4.elim
      | some r' =>
        rw [hd2] at g4
        exact h2 H0 F4 H4 vy vz _ _ r' Q st4.ok st4.up ((q2.step l3).step l4) q4 hd2 g4
    · rename_i e1
      cases e1
      rw [Rr, Rp] at q3
      refine ⟨false, q3, ?_⟩
      rw [if_neg Bool.false_ne_true]
      exact g2 (.bl false) F3 H3 l3 (by rw [Rr, Rp])
    · exact g2.elim
theorem de_chain {op op' : CmpOp} {r r' : R2} {d1 d2 : R → R → Option R} (ho : OpR X (compareOp op) r) (h1 : OpD X.K T r d1) (ho' : OpR X (compareOp op') r') (h2 : OpD X.K T r' d2) (ha : DE X T W a fa) (hb : DE X T W b fb) (hc : DE X T W c fc)
    (hm : lastMarks [op, op'] [b, c] = false := by with_unfolding_all rfl) : DE X T W (.Compare a [op, op'] [b, c] pos) (fChain d1 d2 fa fb fc) := pe_weak (pe_chain ho ho' ha hb hc hm) fun σ H Q h => chain_weak h1 h2 h
/-! ### len(set(..)) of numbers -/
def difN (ns : List Int) : Nat := (PyProof.Rows.firstMet (fun i => ns.getD i 0) ns.length).length
theorem pe_lenSetG {ta : TE} (hg : Gl X "len") (hm : X.mg "len" = none) (hg2 : Gl X "set") (hm2 : X.mg "set" = none) (ha : PE X a ta) (hc : X.calm = true) (na : starEach [a] X.env = (false, eval a X.env) :: starEach [] X.env) :
    PE X (.Call (.Name "len" p) [.Call (.Name "set" p2) [a] [] q] [] pos) (fun σ H Q => ta σ H fun x H1 => ∃ (l : Addr) (ns : List Int), x = .ref l ∧ SqL X.K H1 l (ns.map V.int) ∧ ns.length ≤ 4000 ∧ Q (.int (difN ns : Nat)) H1) := by
  refine ⟨fun pins s σ H Q I h => ?_⟩
  refine Call_ (ld_blt I hg hm boot_len (PyProof.Rows.callWith_builtin1 (PyProof.Rows.args_cons ?_ rfl) rfl rfl))
  refine Call_ (ld_blt I hg2 hm2 boot_set (PyProof.Rows.callWith_type1 (PyProof.Rows.args_cons (thn (ha.run pins s σ H _ I h) fun v s1 ⟨x, H1, I1, r1, q1⟩ => PyProof.Rows.args_nil ?_) na) na rfl))
  obtain ⟨l, ns, rfl, hq, hl, q1⟩ := q1
  cases r1
  obtain ⟨its, r, pl, hz⟩ := I1.list hq
  have zl : its.toArray.size = ns.length := by rw [List.size_toArray, ← r.length, List.length_map]
  refine call_set_list (I1.ok.hd hc) pl.isList (by simpa using RZ.intsAre_vals r) (by rw [zl]; unfold scanBound; omega) fun h' tk hS hk => PyProof.Rows.args_nil ?_
  rw [zl] at hS
  obtain ⟨o, es, ep, t, ho, hex, hd, _, _, _, hf, hn⟩ := hS
  have le := PyProof.Rows.firstMet_length_le (fun i => ns.getD i 0) ns.length
  have I2 : Inv X pins σ H1 { s1 with heap := h', toks := tk } := I1.kept fun b o e => hk b o (Heap.lt_size e) e
  exact call_len_set ho hex hd hf (by rw [hn] <;> omega) ⟨.int (difN ns : Nat), H1, I2.tok _, ⟨_, by rw [hn] <;> rfl⟩, q1⟩
def lenSetR (r : R) : Option R := match r.itmL with
  | some xs => match intsOf xs with
    | some ns => if ns.length ≤ 4000 then some (.val (.int (difN ns : Nat))) else none
    | none => none
  | none => none
def fLenSet (fa : Env → O R) : Env → O R := fun es => (fa es).bind fun r => O.of (lenSetR r.fz)
theorem de_lenSet (hm : X.mg "len" = none) (hm2 : X.mg "set" = none) (ha : DE X T W a fa) (hg : Gl X "len" := by rfl) (hg2 : Gl X "set" := by rfl) (hc : X.calm = true := by rfl) (na : starEach [a] X.env = (false, eval a X.env) :: starEach [] X.env := by rfl) :
    DE X T W (.Call (.Name "len" p) [.Call (.Name "set" p2) [a] [] q] [] pos) (fLenSet fa) := pe_weak (pe_lenSetG hg hm hg2 hm2 ha hc na) fun σ H Q ⟨F0, H0, F, es, st, h⟩ => by
  refine ⟨F0, H0, F, es, st, pr_seq st h fun r v F1 H1 _ st1 l1 q1 h1 => ?_⟩
  unfold lenSetR at h1
  cases hi : r.fz.itmL with
  | none => rw [hi] at h1; exact h1.elim
  | some xs =>
    rw [hi] at h1
    simp only at h1
    cases hn : intsOf xs with
    | none => rw [hn] at h1; exact h1.elim
    | some ns =>
      rw [hn] at h1
      simp only at h1
      split at h1
      · rename_i hl
        obtain ⟨l, vs, rfl, s1, r1⟩ := q1.itmL st1.ok st1.up hi
        have ev := ints_rp r1 hn
        subst ev
        exact ⟨l, ns, rfl, s1, hl, h1 _ F1 H1 (Le.refl st1.ok) (by rw [Rr, Rp])⟩
      · exact h1.elim
/-! ### tuple(..), {}, ** -/
def dTupOf : List R → Option R
  | [r] => r.itmL.map fun xs => .val (.tup xs)
  | _ => none
theorem cd_tupOf {K : PySem.W.Frag} : CallD K T (fun xs H Q => ∃ p ys, xs = [.ref p] ∧ ((SqL K H p ys ∧ ∀ l, H l = none → Q (.ref l) (upd H l (.tup ys))) ∨ (SqT K H p ys ∧ Q (.ref p) H))) dTupOf := fun H0 F H vs rs c Q ok up q h k => by
  unfold dTupOf at h
  split at h
  · rename_i r
    cases hi : r.itmL with
    | none => rw [hi] at h; cases h
    | some xs =>
      rw [hi] at h
      cases h
      obtain ⟨v, rfl, q1⟩ := rql1 q
      obtain ⟨p, us, rfl, s1, r1⟩ := q1.itmL ok up hi
      exact ⟨p, us, rfl, Or.inl ⟨s1, fun l hl => k _ _ _ (Le.new ok hl) (rp_tup (ok.nf hl) r1)⟩⟩
  · cases h
theorem de_dict0 : DE X T W (.Dict [] [] pos) (fC .emp) := pe_weak pe_dnewK fun σ H Q ⟨F0, H0, F, es, st, q⟩ => fun p hp => q (.ref p) _ _ (Le.new st.ok hp) (by
  rw [Rr, Rp]; exact ⟨p, rfl, upd_same⟩)
def dPow := i2 shlC fun i j => .int (i ^ j.toNat)
theorem od_pow {K : PySem.W.Frag} : OpD K T (rI CPow fun i j => .int (i ^ j.toNat)) dPow := opd_I (fun i j h => by first | exact of_decide_eq_true h | (simpa [shlC, CPow] using h)) fun _ _ _ => by rw [Rp]
end
end Fw
namespace Fw
open PySem PySem.Spec PyProof.Rows L2
/-- nothing is handed back -/
def NoRt (g : Env → Out) : Prop := ∀ es r, g es ≠ .rt r
section
variable {g h : Env → Out} {c : Env → O Bool} {f : Env → O R} {i : Nat} {fz : Bool} {t : Tg}
theorem nrt_next : NoRt gNext := fun _ _ z => by cases z
theorem nrt_raise {a : Addr} : NoRt (gRaise a) := fun _ _ z => by cases z
theorem nrt_seq (h1 : NoRt g) (h2 : NoRt h) : NoRt (gSeq g h) := fun es r z => by
  unfold gSeq at z
  cases hg : g es with
  | nx e2 => rw [hg] at z; exact h2 e2 r z
  | rt r => exact h1 es r hg
  | _ => rw [hg] at z; cases z
theorem nrt_if (h1 : NoRt g) (h2 : NoRt h) : NoRt (gIf c g h) := fun es r z => by
  unfold gIf at z
  cases hc : c es with
  | ok b =>
    rw [hc] at z
    cases b with
    | true => exact h1 es r z
    | false => exact h2 es r z
  | exc a fs => rw [hc] at z; cases z
  | no => rw [hc] at z; cases z
theorem nrt_set : NoRt (gSet i fz f) := fun es r z => by
  unfold gSet at z
  cases hc : f es with
  | ok b =>
    rw [hc] at z
    simp only [O.out_ok] at z
    split at z <;> cases z
  | exc a fs => rw [hc] at z; cases z
  | no => rw [hc] at z; cases z
theorem nrt_expr : NoRt (gExpr f) := fun es r z => by
  unfold gExpr at z
  cases hc : f es with
  | ok b => rw [hc] at z; cases z
  | exc a fs => rw [hc] at z; cases z
  | no => rw [hc] at z; cases z
end
def clsB : Stmt → List Stmt
  | .ClassDef (body := b) .. => b
  | _ => []
end Fw
namespace Fw
open PySem PySem.Spec PyProof.Rows L2
/-! ### a new list of new lists -/
def Rel2 (K : PySem.W.Frag) (T : List Addr) (H F' H' : Hp) (vs : List V) (xss : List (List D)) : Prop := ∃ ps : List Addr, vs = ps.map V.ref ∧ ps.Nodup ∧ ps.length = xss.length ∧ ∀ (k : Nat) (q : Addr), ps[k]? = some q → H q = none ∧ F' q = none ∧ q ∉ T ∧ ∃ (us : List V) (xs : List D), xss[k]? = some xs ∧ H' q = some (.lst us) ∧ RpL K F' xs us
def tDA2 (K : PySem.W.Frag) (T : List Addr) (W : WX) (f : Env → O (List (List D))) : TA := fun σ H Q => ∃ F0 H0 F es, StOk K T F0 H0 F H σ es ∧ PO K T W F H σ (Rel2 K T H) Q (f es)
def DA2 (X : Cx) (T : List Addr) (W : WX) (es : List Expr) (f : Env → O (List (List D))) : Prop := PA X es (tDA2 X.K T W f)
def fNil2 : Env → O (List (List D)) := fun _ => .ok []
def fCons2 (fa : Env → O R) (fr : Env → O (List (List D))) : Env → O (List (List D)) := fun es => (fa es).bind fun r => match r with
  | .new xs => (fr es).bind fun xss => .ok (xs :: xss)
  | _ => .no
def has2 (es : Env) : Bool := es.any fun s => match s with
  | .own2 _ => true
  | _ => false
theorem has2_no {es : Env} (h : has2 es = false) {j : Nat} {xss : List (List D)} (e : es[j]? = some (.own2 xss)) : False := by
  have : has2 es = true := List.any_eq_true.mpr ⟨_, List.mem_iff_getElem?.mpr ⟨j, e⟩, rfl⟩
  rw [h] at this; cases this
section
variable {X : Cx} {T : List Addr} {W : WX} {e b : Expr} {es : List Expr} {fa fb : Env → O R} {fr : Env → O (List (List D))} {x : Str} {p1 p2 p3 pos : Pos}
theorem da2_nil : DA2 X T W [] fNil2 := pa_weak pa_nil fun σ H Q ⟨F0, H0, F, es, st, h⟩ => h [] F H (Le.refl st.ok) ⟨[], rfl, List.nodup_nil, rfl, fun k q z => by cases z⟩
theorem da2_cons (ha : DE X T W e fa) (hr : DA2 X T W es fr) (hst : starEach (e :: es) X.env = (false, eval e X.env) :: starEach es X.env := by rfl) : DA2 X T W (e :: es) (fCons2 fa fr) :=
  pa_weak (pa_cons ha hr hst) fun σ H Q ⟨F0, H0, F, es, st, h⟩ => by
    refine ⟨F0, H0, F, es, st, ?_⟩
    unfold fCons2 at h
    cases ho : fa es with
    | no => rw [ho] at h; exact h
    | exc c fs => rw [ho] at h; exact h
    | ok r =>
      rw [ho] at h
      cases r with
      | new xs =>
        intro v F1 H1 l q
        obtain ⟨p, vs, rfl, g1, g2, g3, g4, g5⟩ := q
        have st1 := st.step l
        refine ⟨F0, H0, F1, es, st1, ?_⟩
        simp only [O.bind_ok] at h
        cases hf : fr es with
        | no => rw [hf] at h; exact h
        | exc c fs => rw [hf] at h; exact fun cls d F' H' l' xo => h cls d F' H' (l.trans l') xo
        | ok xss =>
          rw [hf] at h
          intro vs2 F2 H2 l2 ⟨ps, k1, k2, k3, k4⟩
          subst k1
          refine h _ F2 H2 (l.trans l2) ⟨p :: ps, rfl, ?_, by simp [k3], fun k q hk => ?_⟩
          · refine List.nodup_cons.mpr ⟨fun hm => ?_, k2⟩
            obtain ⟨k, hk⟩ := List.mem_iff_getElem?.mp hm
            rw [(k4 k p hk).1] at g4
            cases g4
          · cases k with
            | zero =>
              cases hk
              exact ⟨g1, l2.n p g2 (by rw [g4]; simp), g3, vs, xs, rfl, l2.h p _ g3 g4, g5.mono l2.f⟩
            | succ k =>
              obtain ⟨f1, f2, f3, us, zs, f4, f5, f6⟩ := k4 k q hk
              refine ⟨?_, f2, f3, us, zs, f4, f5, f6⟩
              cases hq : H q with
              | none => rfl
              | some o => rw [l.h q o f3 hq] at f1; cases f1
      | val d => exact h.elim
      | brw d => exact h.elim
      | bor d => exact h.elim
def gOwn2 (i : Nat) (f : Env → O (List (List D))) : Env → Out := fun es => (f es).out es fun xss => if has2 (es.set i .no) = true ∨ 1000 < xss.length then .no else .nx (es.set i (.own2 xss))
theorem StOk.set2 {K : PySem.W.Frag} {F0 H0 F H : Hp} {σ : L2.St} {es : Env} {i : Nat} {p : Addr} {ps : List Addr} {xss : List (List D)} (st : StOk K T F0 H0 F H σ es) (h2 : has2 (es.set i .no) = false) (o : Own2 K T H0 F H p ps xss)
    (dj : ∀ (j : Nat) xs q, j ≠ i → es[j]? = some (.own xs) → σ[j]? = some (some (V.ref q)) → q ≠ p ∧ q ∉ ps) : StOk K T F0 H0 F H (σ.set i (some (.ref p))) (es.set i (.own2 xss)) where
  ok0 := st.ok0
  le := st.le
  env := by
    have ln := st.env.len
    have no : ∀ {j : Nat} {zss : List (List D)}, j ≠ i → es[j]? = some (.own2 zss) → False := fun {j zss} hj e => has2_no h2 (j := j) (xss := zss) (by rw [List.getElem?_set_ne (Ne.symm hj)]; exact e)
    refine ⟨by simp [ln], fun j d h => ?_, fun j d h => ?_, fun j xs h => ?_, fun j k xs ys q h1 h2 h3 h4 => ?_, fun j yss h => ?_, st.env.dic.of (fun j ks ds h => ?_) (Sub.refl _) (fun _ _ _ f _ => f) (fun _ _ e _ _ => e)⟩
    · rcases get_set h with ⟨e, e2⟩ | ⟨e, e2⟩
      · cases e2
      · rw [List.getElem?_set_ne e]; exact st.env.val j d e2
    · rcases get_set h with ⟨e, e2⟩ | ⟨e, e2⟩
      · cases e2
      · rw [List.getElem?_set_ne e]; exact st.env.brw j d e2
    · rcases get_set h with ⟨e, e2⟩ | ⟨e, e2⟩
      · cases e2
      · rw [List.getElem?_set_ne e]; exact st.env.own j xs e2
    · rcases get_set h1 with ⟨e, e2⟩ | ⟨e, e2⟩
      · cases e2
      · rcases get_set h2 with ⟨f, f2⟩ | ⟨f, f2⟩
        · cases f2
        · rw [List.getElem?_set_ne e] at h3
          rw [List.getElem?_set_ne f] at h4
          exact st.env.uni j k xs ys q e2 f2 h3 h4
    · rcases get_set h with ⟨e, e2⟩ | ⟨e, e2⟩
      · subst e
        cases e2
        have hi : i < σ.length := by
          rw [ln]
          have := (List.getElem?_eq_some_iff.mp h).1
          simpa using this
        refine ⟨p, ps, by simp [hi], o, fun k xs q hk hq => ?_, fun k zss hk => ?_⟩
        · rcases get_set hk with ⟨f, f2⟩ | ⟨f, f2⟩
          · cases f2
          · rw [List.getElem?_set_ne f] at hq
            exact dj k xs q (Ne.symm f) f2 hq
        · rcases get_set hk with ⟨f, f2⟩ | ⟨f, f2⟩
          · exact f.symm
          · exact (no (Ne.symm f) f2).elim
      · exact (no (Ne.symm e) e2).elim
    · rcases get_set h with ⟨e, e2⟩ | ⟨e, e2⟩
      · cases e2
      · exact ⟨e2, List.getElem?_set_ne e⟩
theorem ds_own2 {i : Nat} {pos' lp : Pos} {kk : Nat} (hN : X.N.Nodup) (he : DA2 X T W es fr) (hi : X.N[i]? = some x := by rfl) (hx : Loc X.env.scope x := by first | exact Or.inl rfl | exact Or.inr rfl) (hs : swapsWith (.List es lp) (some (.Name x pos')) pos.line X.env = pure false := by rfl)
    (hf : X.fn x = true ∨ X.env.scope.names.lookup x = some .local := by first | exact .inl rfl | exact .inr rfl) : DS X T W (.Assign [.Name x pos'] (.List es lp) pos) (gOwn2 i fr) := fun F0 H0 => ps_weak (ps_set hN hi hx (pe_lst he) hs hf) fun D σ H ⟨F, es, st, q⟩ => by
  refine ⟨F0, H0, F, es, st, out_seq st q fun xss vs F1 H1 _ st1 l1 ⟨ps, k1, k2, k3, k4⟩ h1 => ?_⟩
  subst k1
  split at h1
  · exact h1.elim
  · rename_i hh
    have hb : has2 (es.set i .no) = false := by
      cases z : has2 (es.set i .no) with
      | false => rfl
      | true => exact absurd (Or.inl z) hh
    have hl : xss.length ≤ 1000 := by
      by_cases z : 1000 < xss.length
      · exact absurd (Or.inr z) hh
      · omega
    refine ⟨by rw [List.length_map, k3]; exact sz (by omega), fun p hp => ?_⟩
    have l2 := Le.newH st1.ok (o := .lst (ps.map V.ref)) hp
    have st2 := st1.step l2
    have np : ∀ {q : Addr} {k : Nat}, ps[k]? = some q → q ≠ p := fun {q k} hk z => by
      obtain ⟨_, _, _, us, xs, _, f5, _⟩ := k4 k q hk
      rw [z, hp] at f5; cases f5
    refine h1 _ _ _ (Sub.refl _) (StOk.set2 st2 hb ⟨st1.h0 (st1.ok.nt hp) hp, st1.ok.nf hp, st1.ok.nt hp, upd_same, fun hm => ?_, k2, k3, fun k q hk => ?_⟩ fun j xs q hj hy hq => ?_)
    · obtain ⟨k, hk⟩ := List.mem_iff_getElem?.mp hm
      exact np hk rfl
    · obtain ⟨f1, f2, f3, us, xs, f4, f5, f6⟩ := k4 k q hk
      exact ⟨st.h0 f3 f1, f2, f3, us, xs, f4, by rw [upd_ne (np hk)]; exact f5, f6⟩
    · obtain ⟨a, us, g1, g2, g3, g4, g5, g6⟩ := st.env.own j xs hy
      rw [g1] at hq
      cases hq
      refine ⟨fun z => ?_, fun hm => ?_⟩
      · have := l1.h q _ g4 g5
        rw [z, hp] at this; cases this
      · obtain ⟨k, hk⟩ := List.mem_iff_getElem?.mp hm
        rw [(k4 k q hk).1] at g5; cases g5
/-- the whole, as it stands -/
theorem own2_rp {K : PySem.W.Frag} {F0 H0 F H : Hp} {σ : L2.St} {es : Env} {p : Addr} {ps : List Addr} {xss : List (List D)} (st : StOk K T F0 H0 F H σ es) (o : Own2 K T H0 F H p ps xss) : Rp K H (.lst (xss.map .lst)) (.ref p) := by
  obtain ⟨k1, k2, k3, k4, k5, k6, k7, k8⟩ := o
  rw [Rp]
  refine ⟨p, ps.map V.ref, rfl, SqL.of k4, ?_⟩
  clear k4 k5 k6
  induction ps generalizing xss with
  | nil =>
    cases xss with
    | nil => exact RpL.nil
    | cons a b => cases k7
  | cons q ps ih =>
    cases xss with
    | nil => cases k7
    | cons xs xss =>
      obtain ⟨f1, f2, f3, us, zs, f4, f5, f6⟩ := k8 0 q rfl
      cases f4
      refine RpL.cons ?_ (ih (by simpa using k7) fun k r hk => ?_)
      · rw [Rp]; exact ⟨q, us, rfl, SqL.of f5, f6.mono st.ok.sub⟩
      · exact k8 (k + 1) r hk
/-! x[j] -/
def fIx2 (i j : Nat) : Env → O R := fun es => match es[i]? with
  | some (.own2 xss) => match xss[j]? with
    | some xs => .ok (.bor xs)
    | none => .no
  | _ => .no
theorem de_ix2 (i j : Nat) {z : Int} {k : Nat} (hz : z = (j : Nat) := by rfl) (hN : X.N[i]? = some x := by rfl) (hv : Vis X.env.scope x := by first | exact Or.inl rfl | exact Or.inr (Or.inl rfl) | exact Or.inr (Or.inr rfl)) (hd : (x == ("__debug__" : Str)) = false := by decide)
    (hcd : (x == ("__classdict__" : Str)) = false := by decide) : DE X T W (.Subscript (.Name x p1) (.Constant (.int z) k p2) pos) (fIx2 i j) :=
  pe_weak (pe_ix ix_list (pv i hN hv hd hcd) pe_int (fun _ _ => rfl)) fun σ H Q ⟨F0, H0, F, es, st, h⟩ => by
    unfold fIx2 at h
    split at h
    · rename_i xss e1
      cases hx : xss[j]? with
      | none => rw [hx] at h; exact h.elim
      | some xs =>
        rw [hx] at h
        obtain ⟨p, ps, g1, g2, _, _⟩ := st.env.two i xss e1
        obtain ⟨k1, k2, k3, k4, k5, k6, k7, k8⟩ := g2
        have hj : j < ps.length := by rw [k7]; exact (List.getElem?_eq_some_iff.mp hx).1
        obtain ⟨f1, f2, f3, us, zs, f4, f5, f6⟩ := k8 j ps[j] (List.getElem?_eq_getElem hj)
        rw [hx] at f4
        cases f4
        refine ⟨.ref p, g1, p, ps.map V.ref, z, .ref ps[j], rfl, rfl, SqL.of k4, ?_, h (.ref ps[j]) F H (Le.refl st.ok) ⟨ps[j], us, rfl, f2, f3, f5, f6⟩⟩
        subst hz
        unfold atI ixN
        simp [hj]
    · exact h.elim
/-! x != b -/
def fNe2 (i : Nat) (fb : Env → O R) : Env → O R := fun es => match es[i]? with
  | some (.own2 xss) => (fb es).bind fun r => O.of (dNe (.val (.lst (xss.map .lst))) r.fz)
  | _ => .no
theorem ne2_weak {i : Nat} {σ : L2.St} {H : Hp} {Q : VK} (h : tD X.K T W (fNe2 i fb) σ H Q) : tOp (rNeD X.K) (tVar i) (tD X.K T W fb) σ H Q := by
  obtain ⟨F0, H0, F, es, st, h⟩ := h
  unfold fNe2 at h
  split at h
  · rename_i xss e1
    obtain ⟨p, ps, g1, g2, _, _⟩ := st.env.two i xss e1
    refine ⟨.ref p, g1, F0, H0, F, es, st, pr_seq st h fun r v F1 H1 _ st1 l1 q1 h1 => ?_⟩
    have rp := own2_rp st1 (g2.step l1)
    unfold dNe at h1
    split at h1
    · rename_i e
      rw [Bool.and_eq_true] at e
      refine ⟨py (.lst (xss.map .lst)), py r.fz.dat, rp_dp 60 _ e.1 rp, rp_dp 60 _ e.2 (q1.toH st1.ok st1.up), shp_shaped e.1, shp_shaped e.2, ?_⟩
      have ee : PyData.eqv (py (.lst (xss.map .lst))) (py r.fz.dat) = deq (.lst (xss.map .lst)) r.fz.dat := eqv_deq 60 60 _ _ e.1 e.2
      rw [ee]
      exact h1 _ F1 H1 (Le.refl st1.ok) (by rw [Rr, Rp]; rfl)
    · exact h1.elim
  · exact h.elim
theorem de_ne2 (i : Nat) (hu : X.A.units + 64 < cLine) (hb : DE X T W b fb) (hN : X.N[i]? = some x := by rfl) (hv : Vis X.env.scope x := by first | exact Or.inl rfl | exact Or.inr (Or.inl rfl) | exact Or.inr (Or.inr rfl)) (hd : (x == ("__debug__" : Str)) = false := by decide)
    (hcd : (x == ("__classdict__" : Str)) = false := by decide) (hm : behindInMarks .NotEq b = false := by first | exact nomark _ | rfl | with_unfolding_all rfl) : DE X T W (.Compare (.Name x p1) [.NotEq] [b] pos) (fNe2 i fb) :=
  pe_weak (pe_cmpR (op_neD hu) (pv i hN hv hd hcd) hb hm) fun σ H Q h => ne2_weak h
theorem dt_ne2 (i : Nat) (hu : X.A.units + 64 < cLine) (hb : DE X T W b fb) (hN : X.N[i]? = some x := by rfl) (hv : Vis X.env.scope x := by first | exact Or.inl rfl | exact Or.inr (Or.inl rfl) | exact Or.inr (Or.inr rfl)) (hd : (x == ("__debug__" : Str)) = false := by decide)
    (hcd : (x == ("__classdict__" : Str)) = false := by decide) (hm : behindInMarks .NotEq b = false := by first | exact nomark _ | rfl | with_unfolding_all rfl) : DT X T W (.Compare (.Name x p1) [.NotEq] [b] pos) (fTest (fNe2 i fb)) :=
  pt_weak (pt_cmpR (op_neD hu) (pv i hN hv hd hcd) hb hm) fun σ H Q h => ne2_weak (test_weak h)
/-! an inner list changes -/
theorem StOk.mut2 {K : PySem.W.Frag} {F0 H0 F H : Hp} {σ : L2.St} {es : Env} {i j : Nat} {p q : Addr} {ps : List Addr} {xss : List (List D)} {us' : List V} {xs' : List D} (st : StOk K T F0 H0 F H σ es) (he : es[i]? = some (.own2 xss)) (hp : σ[i]? = some (some (.ref p))) (o : Own2 K T H0 F H p ps xss)
    (hj : ps[j]? = some q) (r : RpL K F xs' us') : StOk K T F0 H0 F (upd H q (.lst us')) σ (es.set i (.own2 (xss.set j xs'))) := by
  obtain ⟨p', ps', g1, g2, g3, g4⟩ := st.env.two i xss he
  have ep : p' = p := by rw [hp] at g1; cases g1; rfl
  subst ep
  have eps : ps' = ps := refs_inj (HO.lst.inj (Option.some.inj (g2.2.2.2.1.symm.trans o.2.2.2.1)))
  subst eps
  obtain ⟨k1, k2, k3, k4, k5, k6, k7, k8⟩ := g2
  obtain ⟨f1, f2, f3, us, zs, f4, f5, f6⟩ := k8 j q hj
  have hi : i < es.length := (List.getElem?_eq_some_iff.mp he).1
  have qp : q ≠ p' := fun z => k5 (z ▸ List.mem_iff_getElem?.mpr ⟨j, hj⟩)
  refine ⟨st.ok0, st.le.mut f1 f2 f3, ⟨by simpa using st.env.len, fun m d h => ?_, fun m d h => ?_, fun m ys h => ?_, fun m k xs ys a h1 h2 h3 h4 => ?_, fun m yss h => ?_, st.env.dic.of (fun m ks ds h => ?_) (Sub.refl _) (fun _ _ _ f _ => f) (fun a us e _ _ => by
    rw [upd_ne (fun z => by subst z; rw [f5] at e; cases e)]; exact e)⟩⟩
  · rcases get_set h with ⟨e, e2⟩ | ⟨e, e2⟩
    · cases e2
    · exact st.env.val m d e2
  · rcases get_set h with ⟨e, e2⟩ | ⟨e, e2⟩
    · cases e2
    · exact st.env.brw m d e2
  · rcases get_set h with ⟨e, e2⟩ | ⟨e, e2⟩
    · cases e2
    · obtain ⟨a, vs, h1, h2, h3, h4, h5, h6⟩ := st.env.own m ys e2
      have : a ≠ q := fun z => (g3 m ys a e2 h1).2 (z ▸ List.mem_iff_getElem?.mpr ⟨j, hj⟩)
      exact ⟨a, vs, h1, h2, h3, h4, by rw [upd_ne this]; exact h5, h6⟩
  · have w : ∀ {m : Nat} {ys : List D}, (es.set i (.own2 (xss.set j xs')))[m]? = some (.own ys) → es[m]? = some (.own ys) := fun {m ys} h => by
      rcases get_set h with ⟨e, e2⟩ | ⟨_, e2⟩
      · cases e2
      · exact e2
    exact st.env.uni m k xs ys a (w h1) (w h2) h3 h4
  · rcases get_set h with ⟨e, e2⟩ | ⟨e, e2⟩
    · subst e
      cases e2
      refine ⟨p', ps', hp, ⟨k1, k2, k3, by rw [upd_ne (Ne.symm qp)]; exact k4, k5, k6, by simp [k7], fun k a hk => ?_⟩, fun k xs a hk ha => ?_, fun k zss hk => ?_⟩
      · by_cases hkj : k = j
        · subst hkj
          rw [hj] at hk
          cases hk
          have hlt : k < xss.length := by rw [← k7]; exact (List.getElem?_eq_some_iff.mp hj).1
          exact ⟨f1, f2, f3, us', xs', by simp [hlt], upd_same, r⟩
        · obtain ⟨h1, h2, h3, vs, ys, h4, h5, h6⟩ := k8 k a hk
          have ne : a ≠ q := fun z => by
            subst z
            obtain ⟨a1, b1⟩ := List.getElem?_eq_some_iff.mp hk
            obtain ⟨a2, b2⟩ := List.getElem?_eq_some_iff.mp hj
            rcases Nat.lt_or_gt_of_ne hkj with z | z
            · exact List.pairwise_iff_getElem.mp k6 k j a1 a2 z (b1.trans b2.symm)
            · exact List.pairwise_iff_getElem.mp k6 j k a2 a1 z (b2.trans b1.symm)
          exact ⟨h1, h2, h3, vs, ys, by rw [List.getElem?_set_ne (fun z => hkj z.symm)]; exact h4, by rw [upd_ne ne]; exact h5, h6⟩
      · rcases get_set hk with ⟨f, f2⟩ | ⟨_, f2⟩
        · cases f2
        · exact g3 k xs a f2 ha
      · rcases get_set hk with ⟨f, _⟩ | ⟨_, f2⟩
        · exact f.symm
        · exact g4 k zss f2
    · exact absurd (g4 m yss e2) (Ne.symm e)
  · rcases get_set h with ⟨e, e2⟩ | ⟨e, e2⟩
    · cases e2
    · exact ⟨e2, rfl⟩
def gApp2 (i j : Nat) (f : Env → O R) : Env → Out := fun es => match es[i]? with
  | some (.own2 xss) => match xss[j]? with
    | some xs => (f es).out es fun r => match r.fz.sto with
      | some d => if xs.length < 90000 then .nx (es.set i (.own2 (xss.set j (xs ++ [d])))) else .no
      | none => .no
    | none => .no
  | _ => .no
def gClr2 (i j : Nat) : Env → Out := fun es => match es[i]? with
  | some (.own2 xss) => if j < xss.length then .nx (es.set i (.own2 (xss.set j []))) else .no
  | _ => .no
theorem ix2_run {K : PySem.W.Frag} {F0 H0 F H : Hp} {σ : L2.St} {es : Env} {i j : Nat} {xss : List (List D)} {xs : List D} (st : StOk K T F0 H0 F H σ es) (he : es[i]? = some (.own2 xss)) (hx : xss[j]? = some xs) :
    ∃ p ps q us, σ[i]? = some (some (.ref p)) ∧ Own2 K T H0 F H p ps xss ∧ ps[j]? = some q ∧ H q = some (.lst us) ∧ RpL K F xs us ∧ q ∉ T ∧ ∀ Q : VK, Q (.ref q) H → tOp (rIxL K) (tVar i) (tC (.int (j : Nat))) σ H Q := by
  obtain ⟨p, ps, g1, g2, _, _⟩ := st.env.two i xss he
  have g2' := g2
  obtain ⟨k1, k2, k3, k4, k5, k6, k7, k8⟩ := g2
  have hj : j < ps.length := by rw [k7]; exact (List.getElem?_eq_some_iff.mp hx).1
  obtain ⟨f1, f2, f3, us, zs, f4, f5, f6⟩ := k8 j ps[j] (List.getElem?_eq_getElem hj)
  rw [hx] at f4
  cases f4
  refine ⟨p, ps, ps[j], us, g1, g2', List.getElem?_eq_getElem hj, f5, f6, f3, fun Q hQ => ⟨.ref p, g1, p, ps.map V.ref, (j : Nat), .ref ps[j], rfl, rfl, SqL.of k4, ?_, hQ⟩⟩
  unfold atI ixN
  simp [hj]
theorem ds_app2 {fa : Env → O R} {k : Nat} (i j : Nat) (he : DE X T W e fa) (hN : X.N[i]? = some x := by rfl) (hv : Vis X.env.scope x := by first | exact Or.inl rfl | exact Or.inr (Or.inl rfl) | exact Or.inr (Or.inr rfl)) (hd : (x == ("__debug__" : Str)) = false := by decide)
    (hcd : (x == ("__classdict__" : Str)) = false := by decide) {sp p4 : Pos}
    (hst : starEach [e] X.env = (false, eval e X.env) :: starEach [] X.env := by rfl)
    (hbase : attributeBase (.Subscript (.Name x p1) (.Constant (.int (j : Nat)) k p4) sp) "append" X.env (eval (.Subscript (.Name x p1) (.Constant (.int (j : Nat)) k p4) sp) X.env) = eval (.Subscript (.Name x p1) (.Constant (.int (j : Nat)) k p4) sp) X.env := by rfl)
    (hfew : ((backTo p3 (starEach [e] X.env)).all (fun x => !x.1) && (backToKw p3 (keywordEach [] X.env)).all (fun x => x.1.isSome) && decide ([e].length + ([] : List Keyword).length + (if ([] : List Keyword).isEmpty then 0 else 1) < 30)) = true := by rfl)
    (hline : (p2.endLine == p3.line) = true := by rfl)
    (hs : swapsWith (.Call (.Attribute (.Subscript (.Name x p1) (.Constant (.int (j : Nat)) k p4) sp) "append" p2) [e] [] p3) none pos.line X.env = pure false := by rfl) :
    DS X T W (.Expr (.Call (.Attribute (.Subscript (.Name x p1) (.Constant (.int (j : Nat)) k p4) sp) "append" p2) [e] [] p3) pos) (gApp2 i j fa) := fun F0 H0 =>
  ps_weak (ps_expr (pe_bm PySem.F.plainAttrs_list PySem.F.slot_list_append PySem.F.type_list_append mt_append (pe_ix ix_list (pv i hN hv hd hcd) pe_int (fun _ _ => rfl)) (pa_cons he pa_nil hst) hbase hfew hline hst rfl) hs) fun D σ H ⟨F, es, st, q⟩ => by
    unfold gApp2 at q
    split at q
    · rename_i xss e1
      cases hx : xss[j]? with
      | none => rw [hx] at q; exact q.elim
      | some xs =>
        rw [hx] at q
        obtain ⟨p, ps, a, us, g1, g2, g3, g4, g5, g6, g7⟩ := ix2_run st e1 hx
        refine g7 _ ⟨own_ty g4, F0, H0, F, es, st, out_seq st q fun r v F1 H1 _ _ l1 q1 q => ?_⟩
        split at q
        · rename_i d e2
          split at q
          · rename_i hl
            obtain ⟨F2, l2, s2, q2⟩ := q1.fz l1
            have st2 := st.step l2
            have rr : RpL X.K F2 (xs ++ [d]) (us ++ [v]) := (g5.mono l2.f).app (RpL.cons (q2.sto e2) RpL.nil)
            exact ⟨a, us, v, rfl, rfl, l2.h a _ g6 g4, by rw [← g5.len]; exact szl (by omega), q _ F2 _ s2 (st2.mut2 e1 g1 (g2.step l2) g3 rr)⟩
          · exact q.elim
        · exact q.elim
    · exact q.elim
theorem ds_clr2 {k : Nat} (i j : Nat) (hN : X.N[i]? = some x := by rfl) (hv : Vis X.env.scope x := by first | exact Or.inl rfl | exact Or.inr (Or.inl rfl) | exact Or.inr (Or.inr rfl)) (hd : (x == ("__debug__" : Str)) = false := by decide)
    (hcd : (x == ("__classdict__" : Str)) = false := by decide) {sp p4 : Pos}
    (hbase : attributeBase (.Subscript (.Name x p1) (.Constant (.int (j : Nat)) k p4) sp) "clear" X.env (eval (.Subscript (.Name x p1) (.Constant (.int (j : Nat)) k p4) sp) X.env) = eval (.Subscript (.Name x p1) (.Constant (.int (j : Nat)) k p4) sp) X.env := by rfl)
    (hline : (p2.endLine == p3.line) = true := by rfl)
    (hs : swapsWith (.Call (.Attribute (.Subscript (.Name x p1) (.Constant (.int (j : Nat)) k p4) sp) "clear" p2) [] [] p3) none pos.line X.env = pure false := by rfl) :
    DS X T W (.Expr (.Call (.Attribute (.Subscript (.Name x p1) (.Constant (.int (j : Nat)) k p4) sp) "clear" p2) [] [] p3) pos) (gClr2 i j) := fun F0 H0 =>
  ps_weak (ps_expr (pe_bm0 PySem.F.plainAttrs_list PySem.F.slot_list_clear PySem.F.type_list_clear mt_clear (pe_ix ix_list (pv i hN hv hd hcd) pe_int (fun _ _ => rfl)) hbase hline) hs) fun D σ H ⟨F, es, st, q⟩ => by
    unfold gClr2 at q
    split at q
    · rename_i xss e1
      split at q
      · rename_i hj
        obtain ⟨p, ps, a, us, g1, g2, g3, g4, g5, g6, g7⟩ := ix2_run (xs := xss[j]) st e1 (List.getElem?_eq_getElem hj)
        exact g7 _ ⟨own_ty g4, a, us, rfl, rfl, g4, q σ F _ (Sub.refl _) (st.mut2 e1 g1 g2 g3 RpL.nil)⟩
      · exact q.elim
    · exact q.elim
end
end Fw
namespace Fw
open PySem PySem.Spec PyProof.Rows L2
section
variable {K : PySem.W.Frag} {T : List Addr} {F0 H0 F H : Hp} {σ : L2.St} {es : Env}
/-- a new object that no slot tells of changes -/
theorem StOk.mutFree {q : Addr} {o : HO} (st : StOk K T F0 H0 F H σ es) (f1 : H0 q = none) (f2 : F q = none) (f3 : q ∉ T) (no2 : has2 es = false) (dj : ∀ (j : Nat) xs a, es[j]? = some (.own xs) → σ[j]? = some (some (V.ref a)) → a ≠ q) (nd : ∀ us, H q ≠ some (.dK us)) : StOk K T F0 H0 F (upd H q o) σ es :=
  ⟨st.ok0, st.le.mut f1 f2 f3, ⟨st.env.len, st.env.val, st.env.brw, fun m ys h => by
    obtain ⟨a, vs, h1, h2, h3, h4, h5, h6⟩ := st.env.own m ys h
    exact ⟨a, vs, h1, h2, h3, h4, by rw [upd_ne (dj m ys a h h1)]; exact h5, h6⟩, st.env.uni, fun m yss h => (has2_no no2 h).elim, st.env.dic.of (fun _ _ _ e => ⟨e, rfl⟩) (Sub.refl _) (fun _ _ _ f _ => f) (fun a us e _ _ => by
    rw [upd_ne (fun z => by subst z; exact nd _ e)]; exact e)⟩⟩
end
def gForApp2 (i r : Nat) : Env → Out := fun es => match es[i]? with
  | some (.own2 xss) => if r < es.length ∧ has2 ((es.set i .no).set r .no) = false ∧ (xss.all fun xs => decide (xs.length ≤ 90000)) = true then .nx ((es.set i .no).set r .no) else .no
  | _ => .no
section
variable {X : Cx} {T : List Addr} {W : WX} {x y : Str} {p1 p2 p3 p4 p5 p6 pos : Pos}
theorem ds_forApp2 {k : Nat} (i r : Nat) (hne : i ≠ r) (hN : X.N.Nodup) (hp : PassesOwn (model X.prog X.w) X.A X.env X.xe) (hi : X.N[i]? = some x := by rfl) (hr : X.N[r]? = some y := by rfl) (hv : Vis X.env.scope x := by first | exact Or.inl rfl | exact Or.inr (Or.inl rfl) | exact Or.inr (Or.inr rfl)) (hd : (x == ("__debug__" : Str)) = false := by decide)
    (hcd : (x == ("__classdict__" : Str)) = false := by decide) (hv2 : Vis X.env.scope y := by first | exact Or.inl rfl | exact Or.inr (Or.inl rfl) | exact Or.inr (Or.inr rfl)) (hd2 : (y == ("__debug__" : Str)) = false := by decide)
    (hcd2 : (y == ("__classdict__" : Str)) = false := by decide) (hx : Loc X.env.scope y := by first | exact Or.inl rfl | exact Or.inr rfl) (hf : X.fn y = true ∨ X.env.scope.names.lookup y = some .local := by first | exact .inl rfl | exact .inr rfl) (hc : X.calm = true := by rfl)
    (hst : starEach [.Constant .none k p6] X.env = (false, eval (.Constant .none k p6) X.env) :: starEach [] X.env := by rfl)
    (hbase : attributeBase (.Name y p3) "append" X.env (eval (.Name y p3) X.env) = eval (.Name y p3) X.env := by rfl)
    (hfew : ((backTo p5 (starEach [.Constant .none k p6] X.env)).all (fun x => !x.1) && (backToKw p5 (keywordEach [] X.env)).all (fun x => x.1.isSome) && decide ([Expr.Constant .none k p6].length + ([] : List Keyword).length + (if ([] : List Keyword).isEmpty then 0 else 1) < 30)) = true := by rfl)
    (hline : (p4.endLine == p5.line) = true := by rfl) {ep : Pos}
    (hs : swapsWith (.Call (.Attribute (.Name y p3) "append" p4) [.Constant .none k p6] [] p5) none ep.line X.env = pure false := by rfl) (hfs : ∀ z, foldedSetIterable (.Name x p2) X.env z = pure z := by intro _; rfl) :
    DS X T W (.For (.Name y p1) (.Name x p2) [.Expr (.Call (.Attribute (.Name y p3) "append" p4) [.Constant .none k p6] [] p5) ep] [] pos) (gForApp2 i r) := fun F0 H0 =>
  ps_weak (ps_for hp hc (pi_list (pv i hi hv hd hcd)) (pg_name (i := r) hN hr hx hf) (pss_one (ps_expr (pe_bm PySem.F.plainAttrs_list PySem.F.slot_list_append PySem.F.type_list_append mt_append (pv r hr hv2 hd2 hcd2) (pa_cons pe_non pa_nil hst) hbase hfew hline hst rfl) hs)) hfs) fun D σ H ⟨F, es, st, q⟩ => by
    unfold gForApp2 at q
    split at q
    · rename_i xss e1
      split at q
      · rename_i hh
        obtain ⟨hlt, h2, hall⟩ := hh
        obtain ⟨p, ps, g1, g2, g3, g4⟩ := st.env.two i xss e1
        obtain ⟨k1, k2, k3, k4, k5, k6, k7, k8⟩ := g2
        have e0 : ((es.set i .no).set r .no)[r]? = some .no := by
          rw [List.getElem?_set_self (by simpa using hlt)]
        have stw : StOk X.K T F0 H0 F H (L2.wipe σ [r, i]) ((es.set i .no).set r .no) := st.wipe [r, i]
        have hkeep : ∀ {j : Nat} {xs : List Fw.D}, ((es.set i .no).set r .no)[j]? = some (.own xs) → j ≠ r ∧ es[j]? = some (.own xs) := fun {j xs} h => by
          rcases get_set h with ⟨_, e2⟩ | ⟨e, e2⟩
          · cases e2
          · rcases get_set e2 with ⟨_, e3⟩ | ⟨_, e3⟩
            · cases e3
            · exact ⟨Ne.symm e, e3⟩
        have st0 : StOk X.K T F0 H0 F H σ ((es.set i .no).set r .no) := by
          refine ⟨st.ok0, st.le, ⟨by simpa using st.env.len, fun j d h => ?_, fun j d h => ?_, fun j xs h => ?_, fun j m xs ys a h1 h2 h3 h4 => ?_, fun j yss h => (has2_no h2 h).elim, st.env.dic.of (fun j ks ds h => ?_) (Sub.refl _) (fun _ _ _ f _ => f) (fun _ _ e _ _ => e)⟩⟩
          · rcases get_set h with ⟨_, e2⟩ | ⟨_, e2⟩
            · cases e2
            · rcases get_set e2 with ⟨_, e3⟩ | ⟨_, e3⟩
              · cases e3
              · exact st.env.val j d e3
          · rcases get_set h with ⟨_, e2⟩ | ⟨_, e2⟩
            · cases e2
            · rcases get_set e2 with ⟨_, e3⟩ | ⟨_, e3⟩
              · cases e3
              · exact st.env.brw j d e3
          · exact st.env.own j xs (hkeep h).2
          · exact st.env.uni j m xs ys a (hkeep h1).2 (hkeep h2).2 h3 h4
          · rcases get_set h with ⟨_, e2⟩ | ⟨_, e2⟩
            · cases e2
            · rcases get_set e2 with ⟨_, e3⟩ | ⟨_, e3⟩
              · cases e3
              · exact ⟨e3, rfl⟩
        refine ⟨.ref p, g1, p, rfl, ⟨_, SqL.of k4⟩, ?_⟩
        refine for_it (walk_list (xs := ps.map V.ref)) (fun n σ2 H2 => StOk X.K T F0 H0 F H2 σ2 ((es.set i .no).set r .no) ∧ H2 p = some (.lst (ps.map V.ref)) ∧ (∀ (j : Nat) xs a, ((es.set i .no).set r .no)[j]? = some (.own xs) → σ2[j]? = some (some (V.ref a)) → a ≠ p ∧ a ∉ ps) ∧
          ∀ (m : Nat) (a : Addr), n ≤ m → ps[m]? = some a → ∃ us : List V, H2 a = some (.lst us) ∧ us.length ≤ 90000) ⟨st0, k4, fun j xs a h1 h2 => g3 j xs a (hkeep h1).2 h2, fun m a _ hm => ?_⟩ ?_ ?_ ?_
        · obtain ⟨f1, f2, f3, us, zs, f4, f5, f6⟩ := k8 m a hm
          refine ⟨us, f5, ?_⟩
          rw [← f6.len]
          exact of_decide_eq_true (List.all_eq_true.mp hall zs (List.mem_iff_getElem?.mpr ⟨m, f4⟩))
        · intro n σ2 H2 _ hP
          exact SqL.of hP.2.1
        · intro n v σ2 H2 H3 hn hP hY
          obtain ⟨s2, a2, d2, l2⟩ := hP
          obtain ⟨rfl, hx2⟩ := hY
          have hn' : n < ps.length := by simpa using hn
          have ev : v = .ref ps[n] := by
            have z : (ps.map V.ref)[n]? = some v := hx2
            rw [List.getElem?_map, List.getElem?_eq_getElem hn'] at z
            exact (Option.some.inj z).symm
          subst ev
          obtain ⟨us, b1, b2⟩ := l2 n ps[n] (Nat.le_refl _) (List.getElem?_eq_getElem hn')
          obtain ⟨f1, f2, f3, _⟩ := k8 n ps[n] (List.getElem?_eq_getElem hn')
          have hrl : r < σ2.length := by rw [s2.env.len]; simpa using hlt
          have s3 := StOk.set (i := r) (v := .ref ps[n]) (s := .no) s2 True.intro
          rw [List.set_set] at s3
          have d3 : ∀ (j : Nat) xs a, ((es.set i .no).set r .no)[j]? = some (.own xs) → (σ2.set r (some (.ref ps[n])))[j]? = some (some (V.ref a)) → a ≠ p ∧ a ∉ ps := fun j xs a h1 h2 => by
            rw [List.getElem?_set_ne (Ne.symm (hkeep h1).1)] at h2
            exact d2 j xs a h1 h2
          have mem : ps[n] ∈ ps := List.getElem_mem hn'
          have np : ps[n] ≠ p := fun z => k5 (z ▸ mem)
          refine ⟨.ref ps[n], by simp [hrl], own_ty b1, ps[n], us, .non, rfl, rfl, b1, szl (by omega), ?_⟩
          refine ⟨s3.mutFree f1 f2 f3 h2 (fun j xs a h1 h2 z => (d3 j xs a h1 h2).2 (z ▸ mem)) (fun us' z => by rw [b1] at z; cases z), by rw [upd_ne (Ne.symm np)]; exact a2, d3, fun m a hm ha => ?_⟩
          obtain ⟨vs, c1, c2⟩ := l2 m a (by omega) ha
          have ne : a ≠ ps[n] := fun z => by
            obtain ⟨a1, b1'⟩ := List.getElem?_eq_some_iff.mp ha
            exact List.pairwise_iff_getElem.mp k6 n m hn' a1 (by omega) (by rw [b1', z])
          exact ⟨vs, by rw [upd_ne ne]; exact c1, c2⟩
        · intro σ2 H2 hP
          exact q σ2 F H2 (Sub.refl _) hP.1
      · exact q.elim
    · exact q.elim
end
end Fw
namespace Fw
open PySem PySem.Spec PyProof.Rows L2
/-! ### defs whose arguments are kept: what is handed in is frozen -/
def startF (n : Nat) (ds : List D) : Env := ds.map .val ++ List.replicate (n - ds.length) .no
def run0F (n : Nat) (body : Env → Out) (ds : List D) : O R := match body (startF n ds) with
  | .nx _ => .ok (.val .non)
  | .rt r => .ok r
  | _ => .no
def spDF (K : PySem.W.Frag) (T : List Addr) (n : Nat) (g : List D → O R) : Sp := fun vs H Q E => ∃ F ds, vs.length = n ∧ Ok T F H ∧ RpL K F ds vs ∧ match g ds with
  | .ok (.val d) => ∀ v F' H', Le T F H F' H' → Rr K T H H F' H' v (.val d) → Q v H'
  | .ok (.new xs) => ∀ v F' H', Le T F H F' H' → Rr K T H H F' H' v (.new xs) → Q v H'
  | _ => False
section
variable {K : PySem.W.Frag} {T : List Addr} {F H : Hp}
theorem startF_ok {N : List Str} {ds : List D} {vs : List V} (ok : Ok T F H) (r : RpL K F ds vs) : StOk K T F H F H (L2.start N vs) (startF N.length ds) where
  ok0 := ok
  le := Le.refl ok
  env := by
    have ln := r.len
    have at_ : ∀ {i : Nat} {s : Sl}, (startF N.length ds)[i]? = some s → s ≠ .no → ∃ d v, s = .val d ∧ (L2.start N vs)[i]? = some (some v) ∧ Rp K F d v := fun {i s} h hn => by
      unfold startF at h
      by_cases hi : i < ds.length
      · rw [List.getElem?_append_left (by simpa using hi), List.getElem?_map] at h
        cases hd : ds[i]? with
        | none => rw [hd] at h; cases h
        | some d =>
          rw [hd] at h
          cases h
          obtain ⟨v, h1, h2⟩ := r.get hd
          refine ⟨d, v, rfl, ?_, h2⟩
          unfold L2.start
          rw [List.getElem?_append_left (by simp; omega), List.getElem?_map, h1]; rfl
      · rw [List.getElem?_append_right (by simp; omega), List.getElem?_replicate] at h
        split at h
        · cases h; exact absurd rfl hn
        · cases h
    refine ⟨by simp [L2.start, startF, ln], fun i d h => ?_, fun i d h => ?_, fun i xs h => ?_, fun i j xs ys p h1 h2 h3 h4 => ?_, fun i xss h => ?_, ⟨fun i ks es h => ?_, fun i j ks es ls fs p h1 h2 h3 h4 => ?_⟩⟩
    · obtain ⟨d', v, h1, h2, h3⟩ := at_ h (by simp)
      cases h1
      exact ⟨v, h2, h3⟩
    · obtain ⟨d', v, h1, _⟩ := at_ h (by simp)
      cases h1
    · obtain ⟨d', v, h1, _⟩ := at_ h (by simp)
      cases h1
    · obtain ⟨d', v, g1, _⟩ := at_ h1 (by simp)
      cases g1
    · obtain ⟨d', v, g1, _⟩ := at_ h (by simp)
      cases g1
    · obtain ⟨d', v, g1, _⟩ := at_ h (by simp)
      cases g1
    · obtain ⟨d', v, g1, _⟩ := at_ h1 (by simp)
      cases g1
end
section
variable {P : Program} {w : World} {K : PySem.W.Frag} {mg : Str → Option Value} {base : Heap} {T : List Addr}
theorem fn_okF {x qual : Str} {st : Stmt} {f : Addr} {fd : FuncData} {N ps : List Str} {k : Nat} (F : Fun K x qual st f fd) (S : FnScope N ps (defScope st)) (body : Env → Out)
    (h : ∀ (cdv : Value) (A : Around) (outer : List PySem.Env) (s : Shared) (H : Hp) (E : XK), Room k (A.deeper (envOfC qual (defScope st) s.heap.objs.size f cdv)) → DSs (cxOf CX0 P w K mg base N qual (defScope st) f cdv A outer s H E).nox T W0 (defBody st) body) :
    FnOk P w K mg base CX0 (k + 1) f fd ps (spDF K T ps.length (run0F N.length body)) := by
  refine F.ok S (fun vs H Q E h => by obtain ⟨F, ds, hl, _⟩ := h; exact hl) (fun cdv A outer s H vs Q E hr hsp => ?_)
  obtain ⟨F, ds, hl, ok, r, q⟩ := hsp
  refine ⟨_, h cdv A outer s H E hr F H, F, _, startF_ok (N := N) ok r, ?_⟩
  unfold run0F at q
  cases hb : body (startF N.length ds) with
  | nx es => rw [hb] at q; exact fun σ F' H' z s => q .non F' H' s.le (by rw [Rr, Rp])
  | br es => rw [hb] at q; exact q.elim
  | ct es => rw [hb] at q; exact q.elim
  | no => rw [hb] at q; exact q.elim
  | exc es c fs => rw [hb] at q; exact q.elim
  | rt r =>
    rw [hb] at q
    cases r with
    | val d => exact fun v F' H' l p => q v F' H' l p
    | new xs => exact fun v F' H' l p => q v F' H' l p
    | brw d => exact q.elim
    | bor xs => exact q.elim
end
def isVal : R → Bool
  | .val _ => true
  | _ => false
theorem rqlAll {K : PySem.W.Frag} {T : List Addr} {H0 F H : Hp} : ∀ {rs : List R} {vs : List V}, rs.all isVal = true → RqL K T H0 F H rs vs → RpL K F (rs.map R.dat) vs
  | [], vs, _, h => by cases h; exact RpL.nil
  | r :: rs, vs, a, h => by
    obtain ⟨v, t, h1, h2, h3⟩ := h
    subst h1
    rw [List.all_cons, Bool.and_eq_true] at a
    cases r with
    | val d => exact RpL.cons h2 (rqlAll a.2 h3)
    | brw d => exact absurd a.1 (by simp [isVal])
    | new d => exact absurd a.1 (by simp [isVal])
    | bor d => exact absurd a.1 (by simp [isVal])
def fCallF (g : List D → O R) (fr : Env → O (List R)) : Env → O R := fun es => (fr es).bind fun rs => if rs.all isVal = true then (match g (rs.map R.dat) with
  | .ok (.val d) => .ok (.val d)
  | .ok (.new xs) => .ok (.new xs)
  | _ => .no) else .no
section
variable {X : Cx} {T : List Addr} {W : WX} {e : Expr} {es : List Expr} {x : Str}
theorem de_callF {CX : CXT} {Ec : XK} {k n : Nat} {f : Addr} {fd : FuncData} {ps : List Str} {g : List D → O R} {fr : Env → O (List R)} {pos p : Pos} (F : FnOk X.prog X.w X.K X.mg X.base CX k f fd ps (spDF X.K T n g)) (hx : Passes CX X Ec) (hr : Room k X.A) (hm : X.mg x = some (.ref f))
    (hk : PySem.W.keepIn X.K (.ref f) = true) (hb : Binds X.K fd ps []) (ha : DA X T W (e :: es) fr) (hn : ∀ es rs, fr es = .ok rs → rs.length = n) (hg : Gl X x := by rfl) (hdb : (x == ("__debug__" : Str)) = false := by decide)
    (he : starEach (e :: es) X.env = (false, eval e X.env) :: starEach es X.env := by rfl) (hpl : (backTo pos (starEach es X.env)).any (·.1) = false := by rfl) : DE X T W (.Call (.Name x p) (e :: es) [] pos) (fCallF g fr) :=
  pe_weak (pe_call F hr hg hm hk hb .nil hx ha hdb he hpl) fun σ H Q ⟨F0, H0, F, es, st, h⟩ => by
    refine ⟨F0, H0, F, es, st, pa_seq st h fun rs vs F1 H1 hrs st1 l1 q1 h1 => ?_⟩
    rw [List.append_nil]
    split at h1
    · rename_i hv
      refine ⟨F1, rs.map R.dat, by rw [← q1.len]; exact hn es rs hrs, st1.ok, rqlAll hv q1, ?_⟩
      cases hg : g (rs.map R.dat) with
      | no => rw [hg] at h1; exact h1
      | exc c fs => rw [hg] at h1; exact h1.elim
      | ok r =>
        rw [hg] at h1
        cases r with
        | val d => exact fun v F' H' l q => h1 v F' H' l q
        | new xs => exact fun v F' H' l q => h1 v F' H' l q
        | brw d => exact h1
        | bor xs => exact h1
    · exact h1.elim
end
end Fw
namespace Fw
open PySem PySem.Spec PyProof.Rows L2
/-- a sign of a text -/
def inT (cs : List Nat) (c : Nat) : Bool := decide (c ∈ cs)
section
variable {X : Cx}
/-- x in A, A a text of the module -/
theorem elt_inT {scope : Scope} {x a : Str} {cs : List Nat} {p1 p2 p6 : Pos} (md : X.base.Ns mainGlobals X.mg) (hA : ∃ t, X.mg a = some (.str (tx cs) t)) (hk : scope.kind = .function := by rfl) (hl : scope.names.lookup x = some .local := by rfl)
    (ga : scope.names.lookup a = some .globalImplicit := by rfl) (hd : (x == ("__debug__" : Str)) = false := by decide) (da : (a == ("__debug__" : Str)) = false := by decide) :
    EltG X scope x (.Compare (.Name x p1) [.In] [.Name a p2] p6) (inT cs) := by
  intro ce B E' c t s2 m hB0 hs hg hb hn hm
  obtain ⟨ta, hA⟩ := hA
  have kd : ce.scope.kind = .function := by rw [hs]; exact hk
  refine wpAny_Compare1 ?_
  refine wpAny_Name (wpAny_loadName_local kd (show ce.scope.names.lookup x = some .local by rw [hs]; exact hl) hn hm ?_) hd
  refine ld_mod md kd (show ce.scope.names.lookup a = some .globalImplicit by rw [hs]; exact ga) hg hb hA ?_ da
  refine PyProof.Rows.in_str ?_
  rw [PySem.StrLaws.found_one, tx_list]
  exact ⟨rfl, s2.heap, s2.toks, rfl, fun _ _ h => h⟩
end
end Fw
namespace Fw
open PySem PySem.Spec PyProof.Rows L2
open Classical in
/-- the classes by their places -/
noncomputable def clOf (K : PySem.W.Frag) (a : String → Addr) : Cl where
  at_ := a
  kx := fun c d => if ExcC K c then (match d with
    | .cls c' => PySem.W.kitOne K (.ref c) (.ref c')
    | .ty n => PySem.W.kitOne K (.ref c) (.type n)
    | _ => none) else none
  ex := fun c c' => PySem.W.exmOne K (.ref c) (.ref c')
theorem cl_mk (K : PySem.W.Frag) (a : String → Addr) : ∃ cl : Cl, (∀ s, cl.at_ s = a s) ∧ ClOk K cl ∧ (∀ c c' b, ExcC K c → PySem.W.kitOne K (.ref c) (.ref c') = some b → cl.kx c (.cls c') = some b) ∧
    (∀ c n b, ExcC K c → PySem.W.kitOne K (.ref c) (.type n) = some b → cl.kx c (.ty n) = some b) ∧ ∀ c c' b, PySem.W.exmOne K (.ref c) (.ref c') = some b → cl.ex c c' = some b := by
  refine ⟨clOf K a, fun _ => rfl, ⟨fun c d b h => ?_, fun c c' b h => h⟩, fun c c' b hE h => ?_, fun c n b hE h => ?_, fun c c' b h => h⟩
  · unfold clOf at h
    simp only at h
    split at h
    · rename_i hE
      refine ⟨hE, ?_⟩
      cases d with
      | cls c' => exact h
      | ty n => exact h
      | _ => cases h
    · cases h
  · unfold clOf
    simp only
    rw [if_pos hE]; exact h
  · unfold clOf
    simp only
    rw [if_pos hE]; exact h
theorem kit_t {K : PySem.W.Frag} {c d : Addr} (h1 : PySem.W.isClsIn K d = true) (h2 : PySem.W.typeIn K (.ref d) = some (.type "type")) (h3 : PySem.W.subIn K (.ref c) (.ref d) = some true) : PySem.W.kitOne K (.ref c) (.ref d) = some true := by
  unfold PySem.W.kitOne
  split
  · rfl
  · have h1' : (PySem.W.clsIn K d).isSome = true := h1
    show (if ((PySem.W.clsIn K d).isSome && PySem.W.typeIn K (.ref d) == some (.type "type")) = true then _ else none) = _
    rw [if_pos (by rw [h1', h2]; rfl), h3]
theorem kit_f {K : PySem.W.Frag} {c d : Addr} (h1 : PySem.W.isClsIn K d = true) (h2 : PySem.W.typeIn K (.ref d) = some (.type "type")) (h3 : PySem.W.subIn K (.ref c) (.ref d) = some false) (h4 : PySem.W.subIn K (.ref d) (.ref d) = some true) : PySem.W.kitOne K (.ref c) (.ref d) = some false := by
  unfold PySem.W.kitOne
  split
  · rename_i h
    have e : c = d := by simpa using h
    rw [e, h4] at h3
    cases h3
  · have h1' : (PySem.W.clsIn K d).isSome = true := h1
    show (if ((PySem.W.clsIn K d).isSome && PySem.W.typeIn K (.ref d) == some (.type "type")) = true then _ else none) = _
    rw [if_pos (by rw [h1', h2]; rfl), h3]
theorem kit_v {K : PySem.W.Frag} {c : Addr} (h3 : PySem.W.subIn K (.ref c) (.type "ValueError") = some true) : PySem.W.kitOne K (.ref c) (.type "ValueError") = some true := by
  unfold PySem.W.kitOne
  rw [if_neg (by simp)]
  show (if PySem.W.kitMeta "ValueError" = true then _ else none) = _
  rw [h3]
  exact if_pos (by decide +kernel)
theorem exm_t {K : PySem.W.Frag} {c d : Addr} (h0 : PySem.W.subIn K (.ref d) (.type "BaseException") = some true) (h1 : PySem.W.isClsIn K d = true) (h2 : PySem.W.typeIn K (.ref d) = some (.type "type")) (h3 : PySem.W.subIn K (.ref c) (.ref d) = some true) : PySem.W.exmOne K (.ref c) (.ref d) = some true := by
  unfold PySem.W.exmOne
  rw [h0, if_pos (by rfl)]
  have h1' : (PySem.W.clsIn K d).isSome = true := h1
  show (if ((PySem.W.clsIn K d).isSome && PySem.W.typeIn K (.ref d) == some (.type "type")) = true then _ else none) = _
  rw [if_pos (by rw [h1', h2]; rfl), h3]
end Fw
namespace Fw
open PySem PySem.Spec PyProof.Rows L2
/-! ### a list of one's own that is kept as it is from here on -/
section
variable {K : PySem.W.Frag} {T : List Addr} {F0 H0 F H : Hp} {σ : L2.St} {es : Env}
theorem StOk.frzOwn {i : Nat} {xs : List D} (st : StOk K T F0 H0 F H σ es) (he : es[i]? = some (.own xs)) : ∃ F', Sub F F' ∧ StOk K T F0 H0 F' H σ (es.set i (.val (.lst xs))) := by
  obtain ⟨p, vs, h1, h2, h3, h4, h5, h6⟩ := st.env.own i xs he
  have sb : Sub F (upd F p (.lst vs)) := Sub.new h3
  refine ⟨upd F p (.lst vs), sb, st.ok0, st.le.frz h2 h5 h3 h4, ⟨by simpa using st.env.len, fun j d h => ?_, fun j d h => ?_, fun j ys h => ?_, fun j k xs ys q g1 g2 g3 g4 => ?_, fun j yss h => ?_, st.env.dic.of (fun j ks ds h => ?_) sb (fun q us e f _ => by
    rw [upd_ne (fun z => by subst z; rw [h5] at e; cases e)]; exact f) (fun _ _ e _ _ => e)⟩⟩
  · rcases get_set h with ⟨e, e2⟩ | ⟨e, e2⟩
    · cases e2
      subst e
      exact ⟨.ref p, h1, rp_lst h3 h6⟩
    · obtain ⟨v, g1, g2⟩ := st.env.val j d e2
      exact ⟨v, g1, g2.mono sb⟩
  · rcases get_set h with ⟨e, e2⟩ | ⟨e, e2⟩
    · cases e2
    · exact st.env.brw j d e2
  · rcases get_set h with ⟨e, e2⟩ | ⟨e, e2⟩
    · cases e2
    · obtain ⟨q, us, g1, g2, g3, g4, g5, g6⟩ := st.env.own j ys e2
      have : q ≠ p := fun z => by
        subst z
        exact e (st.env.uni i j xs ys q he e2 h1 g1)
      exact ⟨q, us, g1, g2, by rw [upd_ne this]; exact g3, g4, g5, g6.mono sb⟩
  · rcases get_set g1 with ⟨e, e2⟩ | ⟨e, e2⟩
    · cases e2
    · rcases get_set g2 with ⟨f, f2⟩ | ⟨f, f2⟩
      · cases f2
      · exact st.env.uni j k _ _ q e2 f2 g3 g4
  · rcases get_set h with ⟨e, e2⟩ | ⟨e, e2⟩
    · cases e2
    · obtain ⟨p2, ps, g1, g2, g3, g4⟩ := st.env.two j yss e2
      obtain ⟨n1, n2⟩ := g3 i xs p he h1
      obtain ⟨k1, k2, k3, k4, k5, k6, k7, k8⟩ := g2
      refine ⟨p2, ps, g1, ⟨k1, by rw [upd_ne (Ne.symm n1)]; exact k2, k3, k4, k5, k6, k7, fun m q hm => ?_⟩, fun m zs q hm hq => ?_, fun m zss hm => ?_⟩
      · obtain ⟨f1, f2, f3, us, zs, f4, f5, f6⟩ := k8 m q hm
        have : q ≠ p := fun z => n2 (z ▸ List.mem_iff_getElem?.mpr ⟨m, hm⟩)
        exact ⟨f1, by rw [upd_ne this]; exact f2, f3, us, zs, f4, f5, f6.mono sb⟩
      · rcases get_set hm with ⟨f, f2⟩ | ⟨_, f2⟩
        · cases f2
        · exact g3 m zs q f2 hq
      · rcases get_set hm with ⟨f, f2⟩ | ⟨_, f2⟩
        · cases f2
        · exact g4 m zss f2
  · rcases get_set h with ⟨e, e2⟩ | ⟨e, e2⟩
    · cases e2
    · exact ⟨e2, rfl⟩
end
def gFrz (i : Nat) (g : Env → Out) : Env → Out := fun es => match es[i]? with
  | some (.own xs) => g (es.set i (.val (.lst xs)))
  | _ => g es
section
variable {X : Cx} {T : List Addr} {W : WX} {st : Stmt} {g : Env → Out}
theorem ds_frz (i : Nat) (h : DS X T W st g) : DS X T W st (gFrz i g) := fun F0 H0 => ps_weak (h F0 H0) fun D σ H ⟨F, es, s, q⟩ => by
  unfold gFrz at q
  split at q
  · rename_i xs he
    obtain ⟨F', sb, s'⟩ := s.frzOwn he
    exact ⟨F', _, s', q.sub sb⟩
  · exact ⟨F, es, s, q⟩
end
/-! ### tuple * int -/
theorem tuple_mul1 (l : Addr) (items : Array Value) (n : Nat) (dd : Option Addr) (sl : Array (Option Value)) (u : Tok) :
    Meets (Builtin.«tuple.__mul__» ⟨[.ref l, .int 1 u], []⟩) (fun _ R s => s.heap.get? l = some { cls := .type "tuple", dict := dd, data := .seq items n, slots := sl } ∧ R (.ok (.ret (Value.ref l))) s) :=
  .of_wp fun prog w A R s h => by
    obtain ⟨hp, g, d, tk, os⟩ := s
    obtain ⟨hl, h⟩ := h
    have f1 := AutoSeq1.idx_int
    wp_walk using wpAny_loadPart' hl
    repeat (first
      | (refine wpAny_ite_false (by decide) ?_; wp_walk using wpAny_loadPart' hl)
      | (refine wpAny_ite_true (by simp) ?_; wp_walk using wpAny_loadPart' hl))
    exact ⟨_, rfl, h⟩
def rRepT1 (K : PySem.W.Frag) : R2 := fun x y H Q => ∃ l xs, x = .ref l ∧ y = .int 1 ∧ SqT K H l xs ∧ Q (.ref l) H
section
variable {X : Cx}
theorem op_repT1 : OpR X (binaryOp .Mult) (rRepT1 X.K) := by
  intro pins s σ H x y v u Q I rx ry h
  obtain ⟨l, xs, rfl, rfl, hT, q⟩ := h
  cases rx
  obtain ⟨t, rfl⟩ := ry
  obtain ⟨its, r, ⟨⟨cls, dd, data, sl⟩, ho, hc, n, hd⟩, hs⟩ := I.tuple hT
  simp only at hc hd
  subst hc hd
  refine wpAny_binaryOp_repeat_ref (T := "tuple") (U := "int") (by decide) ⟨_, ho, rfl⟩ (fun s' => typeIs_int s' 1 t) noFill_tuple_mul F.fills_int_mul F.slot_int_rmul repeat_tuple F.slot_int_index.lookup
    (call_meets F.slot_int_rmul (typeIs_int s 1 t) F.entry_int_rmul (F.args_int_rmul_2 _ _) (int_rmul_tuple 1 t l its.toArray n dd sl)
      ⟨ho, rfl, ⟨_, ho, rfl⟩, call_meets F.slot_tuple_mul ⟨_, ho, rfl⟩ F.entry_tuple_mul (F.args_tuple_mul_2 _ _) (tuple_mul1 l its.toArray n dd sl t) ⟨ho, ?_⟩⟩)
  exact ⟨.ref l, H, I, rfl, q⟩
end
def dMulT : R → R → Option R
  | .val (.tup xs), .val (.int n) => if n = 1 then some (.val (.tup xs)) else if xs ≠ [] ∧ 2 ≤ n ∧ n ≤ 1000 ∧ xs.length ≤ 1000 then some (.val (.tup (List.replicate n.toNat xs).flatten)) else none
  | _, _ => none
def rMulT (K : PySem.W.Frag) : R2 := fun x y H Q => rRepT K x y H Q ∨ rRepT1 K x y H Q
theorem op_mulT {X : Cx} : OpR X (binaryOp .Mult) (rMulT X.K) := OpR.or op_repT op_repT1
theorem RpL.rep {K : PySem.W.Frag} {H : Hp} {ds : List D} {vs : List V} (h : RpL K H ds vs) : ∀ n : Nat, RpL K H (List.replicate n ds).flatten (List.replicate n vs).flatten
  | 0 => RpL.nil
  | n + 1 => by rw [List.replicate_succ, List.replicate_succ, List.flatten_cons, List.flatten_cons]; exact h.app (h.rep n)
theorem od_mulT {K : PySem.W.Frag} {T : List Addr} : OpD K T (rMulT K) dMulT := fun H0 F H x y a b c Q ok up q1 q2 h k => by
  unfold dMulT at h
  split at h
  · rename_i xs n
    have e2 := rq_int q2
    subst e2
    rw [Rq, Rp] at q1
    obtain ⟨l, vs, rfl, h1, h2⟩ := q1
    split at h
    · rename_i hn
      cases h
      subst hn
      exact .inr ⟨l, vs, rfl, rfl, ok.sub.t h1, k _ F H (Le.refl ok) (by rw [Rr, Rp]; exact ⟨l, vs, rfl, h1, h2⟩)⟩
    · split at h
      · rename_i hn
        cases h
        refine .inl ⟨l, n, vs, rfl, rfl, ok.sub.t h1, ?_, hn.2.1, hn.2.2.1, by rw [← h2.len]; exact hn.2.2.2, fun p hp => ?_⟩
        · intro z
          subst z
          have := h2.len
          exact hn.1 (List.eq_nil_of_length_eq_zero this)
        · exact k _ _ _ (Le.new ok hp) (rp_tup (ok.nf hp) (h2.rep n.toNat))
      · cases h
  · cases h
/-! ### comprehensions of two clauses -/
theorem walk_gen {J : It} {n : Nat} {G : Hp → Prop} {Y : Nat → Hp → V → Hp → Prop} (w : Walk J n G Y) {B : (Hp → Prop) → V → Hp → Hp → Prop} {Hs : Hp} {Qd : Hp → Prop} (Pv : Nat → Hp → Prop) (h0 : Pv 0 Hs) (hG : ∀ i H, i ≤ n → Pv i H → G H)
    (hs : ∀ i x H H', i < n → Pv i H → Y i H x H' → B (Pv (i + 1)) x H H') (hd : ∀ H, Pv n H → Qd H) :
    ∃ W : Nat → Nat → Hp → Prop, (∃ m, W 0 m Hs) ∧ ∀ i m H, W i m H →
      (J.stop i H ∧ Qd H) ∨ (J.go i H ∧ ∃ Nx : Hp → Prop, (∀ H', Nx H' → ∃ m', m' < m ∧ W (i + 1) m' H') ∧ ∀ x H', J.yld i H x H' → B Nx x H H') := by
  refine ⟨fun i m H => m = n - i ∧ i ≤ n ∧ Pv i H, ⟨n, by simp, Nat.zero_le _, h0⟩, ?_⟩
  rintro i m H ⟨rfl, hi, p⟩
  have q := hG i H hi p
  by_cases hlt : i < n
  · exact .inr ⟨w.goes i H hlt q, Pv (i + 1), fun H' p' => ⟨n - (i + 1), by omega, rfl, hlt, p'⟩, fun x H' y => hs i x H H' hlt p (w.yields i H x H' hlt q y)⟩
  · have e : i = n := by omega
    subst e
    exact .inl ⟨w.stops H q, hd H p⟩
def noOwnS : Sl → Bool
  | .own _ => false
  | .own2 _ => false
  | _ => true
theorem noOwn_at {es : Env} (h : es.all noOwnS = true) {j : Nat} {s : Sl} (e : es[j]? = some s) : noOwnS s = true := List.all_eq_true.mp h s (List.mem_iff_getElem?.mpr ⟨j, e⟩)
theorem noOwn_has2 {es : Env} (h : es.all noOwnS = true) : has2 es = false := by
  cases e : has2 es with
  | false => rfl
  | true =>
    obtain ⟨s, hs, h2⟩ := List.any_eq_true.mp e
    have := List.all_eq_true.mp h s hs
    cases s <;> simp_all [noOwnS]
def lcL2 (tg : Tg) (src1 : Env → O (List R)) (vs1 : List Nat) (tg1 : Tg) (elt : Env → O R) (es : Env) : List R → O (List D)
  | [] => .ok []
  | x :: xs => match stTg tg x es with
    | none => .no
    | some e1 => if e1.all noOwnS = true then (noX (src1 e1)).bind fun ys => (noX (lcL tg1 fYes elt (wipeE e1 vs1) ys)).bind fun ds => (lcL2 tg src1 vs1 tg1 elt es xs).bind fun r => .ok (ds ++ r) else .no
def fLc2 (src : Env → O (List R)) (vs : List Nat) (tg : Tg) (src1 : Env → O (List R)) (vs1 : List Nat) (tg1 : Tg) (elt : Env → O R) : Env → O R := fun es => (src es).bind fun xs => (noX (lcL2 tg src1 vs1 tg1 elt (wipeE es vs) xs)).bind fun ds => if ds.length ≤ 90000 then .ok (.new ds) else .no
section
variable {X : Cx} {T : List Addr} {W : WX}
theorem lc2_weak {K : PySem.W.Frag} {src src1 : Env → O (List R)} {vs vs1 : List Nat} {tg tg1 : Tg} {elt : Env → O R} {σ : L2.St} {H : Hp} {Q : VK} (hvs : ∀ i ∈ tg.at, i ∈ vs) (hvs1 : ∀ i ∈ tg1.at, i ∈ vs1) (h : tD K T W (fLc2 src vs tg src1 vs1 tg1 elt) σ H Q) :
    tLc2 (tI false K T W src) (tgOf K tg) (tT K T W0 fYes) (tI true K T W0 src1) (tgOf K tg1) (tT K T W0 fYes) (tD K T W0 elt) vs vs1 σ H Q := by
  obtain ⟨F0, H0, F, es, st, h⟩ := h
  unfold fLc2 at h
  refine ⟨F0, H0, F, es, st, ?_⟩
  cases hs : src es with
  | no => rw [hs] at h; exact h
  | exc c fs => rw [hs] at h; exact h
  | ok xs =>
    rw [hs] at h
    intro J F1 H1 l1 ⟨G, Y, w, hG, hY⟩ Dl hD
    rw [O.bind_ok] at h
    cases hds : lcL2 tg src1 vs1 tg1 elt (wipeE es vs) xs with
    | no => rw [hds] at h; exact h.elim
    | exc c fs => rw [hds] at h; exact h.elim
    | ok ds =>
      rw [hds] at h
      simp only [noX, O.bind_ok] at h
      split at h
      · rename_i hlen
        have st1 := st.step l1
        have nT : Dl ∉ T := st1.ok.nt hD
        have h0D : H0 Dl = none := st1.h0 nT hD
        refine walk_gen w (fun i H2 => ∃ F2 ds1 ds2 vs2, Le T F1 H1 F2 H2 ∧ F2 Dl = none ∧ H2 Dl = some (.lst vs2) ∧ RpL K F2 ds1 vs2 ∧ lcL2 tg src1 vs1 tg1 elt (wipeE es vs) (xs.drop i) = .ok ds2 ∧ ds = ds1 ++ ds2)
          ⟨F1, [], ds, [], Le.newH st1.ok hD, st1.ok.nf hD, upd_same, RpL.nil, hds, rfl⟩ ?_ ?_ ?_
        · intro i H2 hi ⟨F2, ds1, ds2, vs2, l2, _⟩
          exact hG F2 H2 ⟨l2, st1.le.trans l2⟩
        · intro i x H2 H3 hi ⟨F2, ds1, ds2, vs2, l2, hF, hH, hr, hl, he⟩ hy
          obtain ⟨F3, r, hx, l3, q3⟩ := hY i H2 x H3 F2 hi ⟨l2, st1.le.trans l2⟩ hy
          have hdr : xs.drop i = r :: xs.drop (i + 1) := by
            have : i < xs.length := hi
            rw [List.drop_eq_getElem_cons this]
            rw [List.getElem?_eq_getElem this] at hx
            rw [Option.some.inj hx]
          rw [hdr] at hl
          simp only [lcL2] at hl
          have st3 : StOk K T F0 H0 F3 H3 (L2.wipe σ vs) (wipeE es vs) := ((st1.step l2).step l3).wipe vs
          cases h1 : stTg tg r (wipeE es vs) with
          | none => rw [h1] at hl; cases hl
          | some e1 =>
            rw [h1] at hl
            simp only at hl
            split at hl
            · rename_i hno
              refine tg_ok st3 q3 h1 fun σ' st' hw => ⟨?_, ?_⟩
              · rw [hw vs hvs]
                apply List.ext_getElem?
                intro j
                rw [wipe_get, wipe_get, wipe_length]
                split <;> rfl
              · refine ⟨F0, H0, F3, e1, st', ?_⟩
                intro b' F4 H4 l4 eb
                subst eb
                rw [if_pos rfl]
                have st4 := st'.step l4
                refine ⟨F0, H0, F4, e1, st4, ?_⟩
                cases hs1 : src1 e1 with
                | no => rw [hs1] at hl; cases hl
                | exc c fs => rw [hs1] at hl; cases hl
                | ok ys =>
                  rw [hs1] at hl
                  simp only [noX, O.bind_ok] at hl
                  cases hdi : lcL tg1 fYes elt (wipeE e1 vs1) ys with
                  | no => rw [hdi] at hl; cases hl
                  | exc c fs => rw [hdi] at hl; cases hl
                  | ok dsi =>
                    rw [hdi] at hl
                    simp only [noX, O.bind_ok] at hl
                    cases hrest : lcL2 tg src1 vs1 tg1 elt (wipeE es vs) (xs.drop (i + 1)) with
                    | no => rw [hrest] at hl; cases hl
                    | exc c fs => rw [hrest] at hl; cases hl
                    | ok dsr =>
                      rw [hrest] at hl
                      cases hl
                      intro J1 F5 H5 l5 ⟨G1, Y1, w1, hG1, hY1⟩
                      have hF3 : F3 Dl = none := l3.n Dl hF (by rw [hH]; simp)
                      have hH3 : H3 Dl = some (.lst vs2) := l3.h Dl _ nT hH
                      have hF4 : F4 Dl = none := l4.n Dl hF3 (by rw [hH3]; simp)
                      have hH4 : H4 Dl = some (.lst vs2) := l4.h Dl _ nT hH3
                      have hF5 : F5 Dl = none := l5.n Dl hF4 (by rw [hH4]; simp)
                      have hH5 : H5 Dl = some (.lst vs2) := l5.h Dl _ nT hH4
                      refine walk_gen w1 (fun j H6 => ∃ F6 e1s e2s vs3, StOk K T F0 H0 F6 H6 σ' e1 ∧ Le T F1 H1 F6 H6 ∧ Sub F5 F6 ∧ F6 Dl = none ∧ H6 Dl = some (.lst vs3) ∧ RpL K F6 (ds1 ++ e1s) vs3 ∧ lcL tg1 fYes elt (wipeE e1 vs1) (ys.drop j) = .ok e2s ∧ dsi = e1s ++ e2s)
                        ⟨F5, [], dsi, vs2, st4.step l5, ((l2.trans l3).trans l4).trans l5, Sub.refl _, hF5, hH5, by rw [List.append_nil]; exact hr.mono ((l3.f.trans l4.f).trans l5.f), hdi, rfl⟩ ?_ ?_ ?_
                      · intro j H6 hj ⟨F6, e1s, e2s, vs3, st6, l6, lf, _⟩
                        exact hG1 F6 H6 ⟨lf, st6.le⟩
                      · intro j y H6 H7 hj ⟨F6, e1s, e2s, vs3, st6, l6, lf, hF6, hH6, hr6, hl6, he6⟩ hy1
                        obtain ⟨F7, r1, hx1, l7, q7⟩ := hY1 j H6 y H7 F6 hj ⟨lf, st6.le⟩ hy1
                        have hdr1 : ys.drop j = r1 :: ys.drop (j + 1) := by
                          have : j < ys.length := hj
                          rw [List.drop_eq_getElem_cons this]
                          rw [List.getElem?_eq_getElem this] at hx1
                          rw [Option.some.inj hx1]
                        rw [hdr1] at hl6
                        simp only [lcL] at hl6
                        have st7 : StOk K T F0 H0 F7 H7 (L2.wipe σ' vs1) (wipeE e1 vs1) := (st6.step l7).wipe vs1
                        cases h7 : stTg tg1 r1 (wipeE e1 vs1) with
                        | none => rw [h7] at hl6; cases hl6
                        | some e7 =>
                          rw [h7] at hl6
                          simp only at hl6
                          refine tg_ok st7 q7 h7 fun σ7 st7' hw7 => ⟨?_, ?_⟩
                          · rw [hw7 vs1 hvs1]
                            apply List.ext_getElem?
                            intro j
                            rw [wipe_get, wipe_get, wipe_length]
                            split <;> rfl
                          · refine ⟨F0, H0, F7, e7, st7', ?_⟩
                            intro b8 F8 H8 l8 eb8
                            subst eb8
                            rw [if_pos rfl]
                            refine ⟨F0, H0, F8, e7, st7'.step l8, ?_⟩
                            simp only [fYes, noX, O.bind_ok, if_true] at hl6
                            cases hel : elt e7 with
                            | no => rw [hel] at hl6; cases hl6
                            | exc c fs => rw [hel] at hl6; cases hl6
                            | ok r2 =>
                              rw [hel] at hl6
                              simp only [noX, O.bind_ok] at hl6
                              intro u F9 H9 l9 q9
                              obtain ⟨F10, l10, _, q10⟩ := q9.fz l9
                              split at hl6
                              · cases hl6
                              · rename_i d hd
                                cases hrest1 : lcL tg1 fYes elt (wipeE e1 vs1) (ys.drop (j + 1)) with
                                | no => rw [hrest1] at hl6; cases hl6
                                | exc c fs => rw [hrest1] at hl6; cases hl6
                                | ok ds3 =>
                                  rw [hrest1] at hl6
                                  cases hl6
                                  have hF7 : F7 Dl = none := l7.n Dl hF6 (by rw [hH6]; simp)
                                  have hH7 : H7 Dl = some (.lst vs3) := l7.h Dl _ nT hH6
                                  have hF8 : F8 Dl = none := l8.n Dl hF7 (by rw [hH7]; simp)
                                  have hH8 : H8 Dl = some (.lst vs3) := l8.h Dl _ nT hH7
                                  have hF9 : F10 Dl = none := l10.n Dl hF8 (by rw [hH8]; simp)
                                  have hH9 : H9 Dl = some (.lst vs3) := l10.h Dl _ nT hH8
                                  have hsub : Sub F6 F10 := (l7.f.trans l8.f).trans l10.f
                                  have st9 : StOk K T F0 H0 F10 H9 σ' e1 := ((st6.step l7).step l8).step l10
                                  have ll : vs3.length = ds1.length + e1s.length := by rw [← hr6.len, List.length_append]
                                  refine ⟨vs3, hH9, szl ?_, F10, e1s ++ [d], ds3, vs3 ++ [u], st9.mutFree h0D hF9 nT (noOwn_has2 hno) (fun j xs a hj _ => by have := noOwn_at hno hj; cases this) (fun us z => by rw [hH9] at z; cases z), (((l6.trans l7).trans l8).trans l10).mut hD hF9 nT, lf.trans hsub, hF9, upd_same, ?_, rfl, by rw [he6]; simp⟩
                                  · rw [he, he6] at hlen
                                    simp only [List.length_append, List.length_cons] at hlen
                                    omega
                                  · rw [← List.append_assoc]
                                    exact (hr6.mono hsub).app (RpL.cons (q10.sto hd) RpL.nil)
                      · intro H6 ⟨F6, e1s, e2s, vs3, st6, l6, lf, hF6, hH6, hr6, hl6, he6⟩
                        have e0 : ys.drop ys.length = [] := List.drop_length
                        rw [e0] at hl6
                        cases hl6
                        have e1 : dsi = e1s := by rw [he6]; simp
                        subst e1
                        exact ⟨F6, ds1 ++ dsi, dsr, vs3, l6, hF6, hH6, hr6, rfl, by rw [he, List.append_assoc]⟩
            · cases hl
        · intro H2 ⟨F2, ds1, ds2, vs2, l2, hF, hH, hr, hl, he⟩
          have e0 : xs.drop xs.length = [] := List.drop_length
          rw [e0] at hl
          cases hl
          have e1 : ds = ds1 := by rw [he]; simp
          subst e1
          exact h (.ref Dl) F2 H2 (l1.trans l2) (Rr.back l1 ⟨Dl, vs2, rfl, hD, hF, nT, hH, hr⟩)
      · exact h.elim
theorem dts_yes : DTs X T [] fYes := dts_nil
theorem de_lc2 {elt tg iter tg1 iter1 : Expr} {scope : Scope} {own : List (Str × Nat)} {vs1 : List Nat} {pos : Pos} {src src1 : Env → O (List R)} {t t1 : Tg} {fe : Env → O R} (hN : X.N.Nodup) (hi : DI false X T W tg iter src) (ok : BlkOk X.N X.env.scope scope own)
    (hg : ∀ (s : Shared) (H : Hp) (C : Addr) (cl : List (Str × Addr)) (fp : List Addr), PG (X.blk s H scope (compEnvC scope cl C X.env) fp) tg (tgOf X.K t))
    (hi1 : ∀ (s : Shared) (H : Hp) (C : Addr) (cl : List (Str × Addr)) (fp : List Addr), DI true (X.blk s H scope (compEnvC scope cl C X.env) fp) T W0 tg1 iter1 src1)
    (hg1 : ∀ (s : Shared) (H : Hp) (C : Addr) (cl : List (Str × Addr)) (fp : List Addr), PG (X.blk s H scope (compEnvC scope cl C X.env) fp) tg1 (tgOf X.K t1))
    (he : ∀ (s : Shared) (H : Hp) (C : Addr) (cl : List (Str × Addr)) (fp : List Addr), DE (X.blk s H scope (compEnvC scope cl C X.env) fp) T W0 elt fe) (hc : X.calm = true := by rfl) (hs : ∀ x, foldedSetIterable iter X.env x = pure x := by intro _; rfl) (hs1 : ∀ env x, foldedSetIterable iter1 env x = pure x := by intro _ _; rfl)
    (hvs : ∀ i ∈ t.at, i ∈ own.map (·.2) := by decide) (hvs1 : ∀ i ∈ t1.at, i ∈ vs1 := by decide) (hv : ∀ i ∈ vs1, i ∈ own.map (·.2) := by decide) :
    DE X T W (.ListComp elt [⟨tg, iter, [], 0⟩, ⟨tg1, iter1, [], 0⟩] scope pos) (fLc2 src (own.map (·.2)) t src1 vs1 t1 fe) :=
  pe_weak (pe_lc2 (wi1 := tI true X.K T W0 src1) (tt := tT X.K T W0 fYes) (tt1 := tT X.K T W0 fYes) (te := tD X.K T W0 fe) hc hN hi ok hv hg (fun s H C cl fp => dts_yes) (fun s H C cl fp => hi1 s H C cl fp) hg1 (fun s H C cl fp => dts_yes) (fun s H C cl fp => he s H C cl fp) hs hs1) fun σ H Q h => lc2_weak hvs hvs1 h
theorem ds_setLc2 {i : Nat} {fz : Bool} {y : Str} {py : Pos} {elt tg iter tg1 iter1 : Expr} {scope : Scope} {own : List (Str × Nat)} {vs1 : List Nat} {pos spos : Pos} {src src1 : Env → O (List R)} {t t1 : Tg} {fe : Env → O R} (hN : X.N.Nodup) (hi : DI false X T W tg iter src) (ok : BlkOk X.N X.env.scope scope own)
    (hg : ∀ (s : Shared) (H : Hp) (C : Addr) (cl : List (Str × Addr)) (fp : List Addr), PG (X.blk s H scope (compEnvC scope cl C X.env) fp) tg (tgOf X.K t))
    (hi1 : ∀ (s : Shared) (H : Hp) (C : Addr) (cl : List (Str × Addr)) (fp : List Addr), DI true (X.blk s H scope (compEnvC scope cl C X.env) fp) T W0 tg1 iter1 src1)
    (hg1 : ∀ (s : Shared) (H : Hp) (C : Addr) (cl : List (Str × Addr)) (fp : List Addr), PG (X.blk s H scope (compEnvC scope cl C X.env) fp) tg1 (tgOf X.K t1))
    (he : ∀ (s : Shared) (H : Hp) (C : Addr) (cl : List (Str × Addr)) (fp : List Addr), DE (X.blk s H scope (compEnvC scope cl C X.env) fp) T W0 elt fe)
    (hy : X.N[i]? = some y := by rfl) (hyl : X.env.scope.names.lookup y = some .local := by rfl) (hsw : swapsWith (.ListComp elt [⟨tg, iter, [], 0⟩, ⟨tg1, iter1, [], 0⟩] scope pos) (some (.Name y py)) spos.line X.env = pure true := by exact sw_true rfl rfl rfl (by decide +kernel))
    (hc : X.calm = true := by rfl) (hs : ∀ x, foldedSetIterable iter X.env x = pure x := by intro _; rfl) (hs1 : ∀ env x, foldedSetIterable iter1 env x = pure x := by intro _ _; rfl)
    (hvs : ∀ i ∈ t.at, i ∈ own.map (·.2) := by decide) (hvs1 : ∀ i ∈ t1.at, i ∈ vs1 := by decide) (hv : ∀ i ∈ vs1, i ∈ own.map (·.2) := by decide) :
    DS X T W (.Assign [.Name y py] (.ListComp elt [⟨tg, iter, [], 0⟩, ⟨tg1, iter1, [], 0⟩] scope pos) spos) (gSet i fz (fLc2 src (own.map (·.2)) t src1 vs1 t1 fe)) := fun F0 H0 =>
  ps_weak (ps_setLc2 (wi1 := tI true X.K T W0 src1) (tt := tT X.K T W0 fYes) (tt1 := tT X.K T W0 fYes) (te := tD X.K T W0 fe) hc hN hy hyl hsw hi ok hv hg (fun s H C cl fp => dts_yes) (fun s H C cl fp => hi1 s H C cl fp) hg1 (fun s H C cl fp => dts_yes) (fun s H C cl fp => he s H C cl fp) hs hs1) fun D σ H q => by
    have z := set_weak q
    show tLc2 _ _ _ _ _ _ _ _ _ _ _ _
    exact lc2_weak hvs hvs1 z
end
end Fw
namespace Fw
open PySem PySem.Spec PyProof.Rows L2
/-! ### sorted(xs), texts, any number of them -/
def rSortedSA (K : PySem.W.Frag) : List V → Hp → VK → Prop := fun vs H Q => ∃ (a : Addr) (xs : List Str), vs = [V.ref a] ∧ SqL K H a (xs.map V.str) ∧ xs.length ≤ 100000 ∧
  ∀ (ys : List Str) (p : Addr), ys.Perm xs → sortedS ys = true → H p = none → Q (.ref p) (upd H p (.lst (ys.map V.str)))
section
variable {X : Cx} {K : PySem.W.Frag} {T : List Addr}
theorem cr_sortedSA : CallR X (.builtin "sorted") (rSortedSA X.K) := by
  intro pins s σ H vs us Q I r h
  obtain ⟨a, xs, rfl, hs, hn, q⟩ := h
  obtain ⟨its, rv, hl, hz⟩ := I.list hs
  rw [Vals.ref1 r]
  refine PyProof.Rows.sorted_strsAny hl.isList rv.strs (by rw [← rv.length]; exact hz) fun out ys h1 h2 h3 => ?_
  obtain ⟨ep, he'⟩ := PyProof.Rows.sortedAll_at s.heap its out
  have hlen : (ys.map V.str).length ≤ sizeLine := by rw [List.length_map, h2.length_eq]; exact sz hn
  exact ⟨.ref _, upd H (s.heap.objs.size + 1) (.lst (ys.map V.str)), I.laid (t' := s.toks) (fun _ _ => PyProof.Rows.sortedAll_old) (Nat.le_succ _) ⟨hlen, out.toList, ep, vals_of_strs h1, he'⟩, rfl, q ys _ h2 h3 (I.hok.fresh (Nat.le_succ _))⟩
def dSortedN : List R → Option R
  | [r] => if isLst r.dat then (match itmD r.dat with
    | some xs => match strsOf xs with
      | some ss => if ss.length ≤ 90000 then some (.new ((sortS ss).map .str)) else none
      | none => none
    | none => none) else none
  | _ => none
theorem cd_sortedN : CallD K T (rSortedSA K) dSortedN := fun H0 F H vs rs c Q ok up q h k => by
  unfold dSortedN at h
  split at h
  · rename_i r
    split at h
    · rename_i hl
      obtain ⟨v, rfl, q1⟩ := rql1 q
      have z := q1.toH ok up
      split at h
      · rename_i xs e
        obtain ⟨p, vs, rfl, h1, h2⟩ := lst_rp hl z e
        split at h
        · rename_i ss es
          split at h
          · rename_i hn
            cases h
            rw [strs_rp h2 es] at h1
            refine ⟨p, ss.map tx, rfl, h1, by simp; omega, fun ys l hp hs hl => ?_⟩
            rw [sortS_uniq hp hs]
            exact k _ F _ (Le.newH ok hl) (rr_lst ok hl (rpl_strs _))
          · cases h
        · cases h
      · cases h
    · cases h
  · cases h
end
end Fw
namespace Fw
open PySem PySem.Spec PyProof.Rows L2
/-! ### dicts by keys and values -/
instance decDK : DecidableEq DK := fun a b => match a, b with
  | .inl i, .inl j => if h : i = j then isTrue (by rw [h]) else isFalse fun z => h (Sum.inl.inj z)
  | .inr s, .inr t => if h : s = t then isTrue (by rw [h]) else isFalse fun z => h (Sum.inr.inj z)
  | .inl _, .inr _ => isFalse fun z => by cases z
  | .inr _, .inl _ => isFalse fun z => by cases z
theorem kyOf_inj {a b : DK} (h : kyOf a = kyOf b) : a = b := by
  cases a <;> cases b <;> simp [kyOf] at h
  · rw [h]
  · rw [tx_inj h]
def kGet : List DK → List D → DK → Option D
  | k' :: ks, d :: ds, k => if k' = k then some d else kGet ks ds k
  | _, _, _ => none
def kHas : List DK → DK → Bool
  | [], _ => false
  | k' :: ks, k => decide (k' = k) || kHas ks k
/-- the values with that of k changed -/
def kRep : List DK → List D → DK → D → List D
  | k' :: ks, d :: ds, k, x => (if k' = k then x else d) :: kRep ks ds k x
  | _, ds, _, _ => ds
def kPutK (ks : List DK) (k : DK) : List DK := if kHas ks k = true then ks else ks ++ [k]
def kPutD (ks : List DK) (ds : List D) (k : DK) (x : D) : List D := if kHas ks k = true then kRep ks ds k x else ds ++ [x]
def keyD : D → Option DK
  | .int i => some (.inl i)
  | .str s => some (.inr s)
  | _ => none
def dOfK : DK → D
  | .inl i => .int i
  | .inr s => .str s
theorem kRep_len : ∀ (ks : List DK) (ds : List D) (k : DK) (x : D), (kRep ks ds k x).length = ds.length
  | [], ds, k, x => by cases ds <;> rfl
  | _ :: _, [], k, x => rfl
  | k' :: ks, d :: ds, k, x => by simp [kRep, kRep_len ks ds k x]
section
variable {K : PySem.W.Frag} {T : List Addr} {F0 H0 F H F' H' : Hp} {σ : L2.St} {es : Env}
theorem key_rp {d : D} {k : DK} {v : V} (e : keyD d = some k) (h : Rp K H d v) : v = kV (kyOf k) := by
  cases d <;> simp only [keyD] at e <;> cases e <;> (rw [Rp] at h; subst h; rfl)
theorem key_dat {r : R} {k : DK} (e : keyD r.dat = some k) : ∃ d, r = .val d ∨ r = .brw d := by
  cases r <;> simp_all [R.dat, keyD]
theorem dOfK_rp (k : DK) : Rp K H (dOfK k) (kV (kyOf k)) := by
  cases k <;> (simp only [dOfK]; rw [Rp]; rfl)
theorem kGet_zip : ∀ {ks : List DK} {ds : List D} {vs : List V} {k : DK}, RpL K H ds vs → ks.length = ds.length →
    (∀ d, kGet ks ds k = some d → ∃ v, valV ((ks.map kyOf).zip vs) (kyOf k) = some v ∧ Rp K H d v) ∧ (kGet ks ds k = none → valV ((ks.map kyOf).zip vs) (kyOf k) = none)
  | [], ds, vs, k, h, hl => ⟨fun d e => by (cases ds with | nil => cases e | cons a b => cases e), fun _ => by simp [valV]⟩
  | k' :: ks, [], vs, k, h, hl => by simp at hl
  | k' :: ks, d' :: ds, vs, k, h, hl => by
    rw [RpL] at h
    obtain ⟨v, r, rfl, h2, h3⟩ := h
    obtain ⟨i1, i2⟩ := kGet_zip (k := k) h3 (by simpa using hl)
    by_cases e : k' = k
    · subst e
      refine ⟨fun d z => ?_, fun z => ?_⟩
      · rw [kGet, if_pos rfl] at z
        cases z
        exact ⟨v, valV_pos (p := (kyOf k', v)) rfl, h2⟩
      · rw [kGet, if_pos rfl] at z; cases z
    · have ne : ¬ kyOf k' = kyOf k := fun z => e (kyOf_inj z)
      refine ⟨fun d z => ?_, fun z => ?_⟩
      · rw [kGet, if_neg e] at z
        obtain ⟨u, g1, g2⟩ := i1 d z
        exact ⟨u, by rw [List.map_cons, List.zip_cons_cons, valV_neg (p := (kyOf k', v)) ne]; exact g1, g2⟩
      · rw [kGet, if_neg e] at z
        rw [List.map_cons, List.zip_cons_cons, valV_neg (p := (kyOf k', v)) ne]; exact i2 z
theorem kAny_zip : ∀ {ks : List DK} {vs : List V} {k : DK}, ks.length = vs.length → ((((ks.map kyOf).zip vs).any fun kv => decide (kv.1 = kyOf k)) = kHas ks k)
  | [], vs, k, _ => by simp [kHas]
  | k' :: ks, [], k, h => by simp at h
  | k' :: ks, v :: vs, k, h => by
    rw [List.map_cons, List.zip_cons_cons, List.any_cons, kAny_zip (by simpa using h), kHas]
    by_cases e : k' = k
    · subst e; simp
    · have ne : ¬ kyOf k' = kyOf k := fun z => e (kyOf_inj z)
      simp [ne, e]
theorem kRep_zip : ∀ {ks : List DK} {ds : List D} {vs : List V} {k : DK} {x : D} {u : V}, RpL K H ds vs → ks.length = ds.length → Rp K H x u →
    ∃ vs', (((ks.map kyOf).zip vs).map fun kv => if kv.1 = kyOf k then (kv.1, u) else kv) = (ks.map kyOf).zip vs' ∧ RpL K H (kRep ks ds k x) vs'
  | [], ds, vs, k, x, u, h, hl, hx => ⟨vs, by simp, by cases ds <;> exact h⟩
  | k' :: ks, [], vs, k, x, u, h, hl, hx => by simp at hl
  | k' :: ks, d :: ds, vs, k, x, u, h, hl, hx => by
    rw [RpL] at h
    obtain ⟨v, r, rfl, h2, h3⟩ := h
    obtain ⟨vs', e1, e2⟩ := kRep_zip (k := k) h3 (by simpa using hl) hx
    by_cases e : k' = k
    · subst e
      refine ⟨u :: vs', ?_, ?_⟩
      · rw [List.map_cons, List.zip_cons_cons, List.map_cons, e1]; simp
      · rw [kRep, if_pos rfl]; exact RpL.cons hx e2
    · have ne : ¬ kyOf k' = kyOf k := fun z => e (kyOf_inj z)
      refine ⟨v :: vs', ?_, ?_⟩
      · rw [List.map_cons, List.zip_cons_cons, List.map_cons, e1]; simp [ne]
      · rw [kRep, if_neg e]; exact RpL.cons h2 e2
theorem kPut_zip {ks : List DK} {ds : List D} {vs : List V} {k : DK} {x : D} {u : V} (h : RpL K H ds vs) (hl : ks.length = ds.length) (hx : Rp K H x u) :
    ∃ vs', putK ((ks.map kyOf).zip vs) (kyOf k) u = ((kPutK ks k).map kyOf).zip vs' ∧ RpL K H (kPutD ks ds k x) vs' ∧ (kPutK ks k).length = (kPutD ks ds k x).length := by
  have lv : ks.length = vs.length := by rw [hl, h.len]
  unfold putK kPutK kPutD
  rw [kAny_zip lv]
  by_cases e : kHas ks k = true
  · obtain ⟨vs', e1, e2⟩ := kRep_zip (k := k) h hl hx
    rw [if_pos e, if_pos e, if_pos e]
    exact ⟨vs', e1, e2, by rw [kRep_len]; exact hl⟩
  · rw [if_neg e, if_neg e, if_neg e]
    refine ⟨vs ++ [u], ?_, h.app (RpL.cons hx RpL.nil), by simp [hl]⟩
    rw [List.map_append, List.zip_append (by simpa using lv)]; rfl
/-! ### slots that hold a dict of one's own -/
/-- the free slot i holds a new dict -/
theorem StOk.toD {i : Nat} {p : Addr} {vs : List V} {ks : List DK} {ds : List D} (st : StOk K T F0 H0 F H σ es) (he : es[i]? = some .no) (hp : σ[i]? = some (some (.ref p))) (h0 : H0 p = none) (hf : F p = none) (ht : p ∉ T) (hH : H p = some (.dK ((ks.map kyOf).zip vs))) (hl : ks.length = ds.length) (r : RpL K F ds vs)
    (nu : ∀ (j : Nat) ks' ds', es[j]? = some (.odc ks' ds') → σ[j]? ≠ some (some (.ref p))) : StOk K T F0 H0 F H σ (es.set i (.odc ks ds)) := by
  refine ⟨st.ok0, st.le, ⟨by simpa using st.env.len, fun j d h => ?_, fun j d h => ?_, fun j xs h => ?_, fun j k xs ys q h1 h2 h3 h4 => ?_, fun j yss h => ?_, ⟨fun j ks' ds' h => ?_, fun j k ks1 ds1 ks2 ds2 q h1 h2 h3 h4 => ?_⟩⟩⟩
  · rcases get_set h with ⟨e, e2⟩ | ⟨e, e2⟩
    · cases e2
    · exact st.env.val j d e2
  · rcases get_set h with ⟨e, e2⟩ | ⟨e, e2⟩
    · cases e2
    · exact st.env.brw j d e2
  · rcases get_set h with ⟨e, e2⟩ | ⟨e, e2⟩
    · cases e2
    · exact st.env.own j xs e2
  · rcases get_set h1 with ⟨e, e2⟩ | ⟨e, e2⟩
    · cases e2
    · rcases get_set h2 with ⟨f, f2⟩ | ⟨f, f2⟩
      · cases f2
      · exact st.env.uni j k xs ys q e2 f2 h3 h4
  · rcases get_set h with ⟨e, e2⟩ | ⟨e, e2⟩
    · cases e2
    · obtain ⟨p2, ps, g1, g2, g3, g4⟩ := st.env.two j yss e2
      refine ⟨p2, ps, g1, g2, fun m zs q hm hq => ?_, fun m zss hm => ?_⟩
      · rcases get_set hm with ⟨f, f2⟩ | ⟨_, f2⟩
        · cases f2
        · exact g3 m zs q f2 hq
      · rcases get_set hm with ⟨f, f2⟩ | ⟨_, f2⟩
        · cases f2
        · exact g4 m zss f2
  · rcases get_set h with ⟨e, e2⟩ | ⟨e, e2⟩
    · cases e2
      subst e
      exact ⟨p, vs, hp, h0, hf, ht, hH, hl, r⟩
    · exact st.env.dic.1 j ks' ds' e2
  · rcases get_set h1 with ⟨e, e2⟩ | ⟨e, e2⟩
    · rcases get_set h2 with ⟨f, f2⟩ | ⟨f, f2⟩
      · rw [← e, ← f]
      · subst e
        rw [hp] at h3
        cases h3
        exact absurd h4 (nu k ks2 ds2 f2)
    · rcases get_set h2 with ⟨f, f2⟩ | ⟨f, f2⟩
      · subst f
        rw [hp] at h4
        cases h4
        exact absurd h3 (nu j ks1 ds1 e2)
      · exact st.env.dic.2 j k ks1 ds1 ks2 ds2 q e2 f2 h3 h4
/-- a new dict is stored in slot i -/
theorem StOk.setD {i : Nat} {p : Addr} {vs : List V} {ks : List DK} {ds : List D} (st : StOk K T F0 H0 F H σ es) (hi : i < es.length) (h0 : H0 p = none) (hf : F p = none) (ht : p ∉ T) (hH : H p = some (.dK ((ks.map kyOf).zip vs))) (hl : ks.length = ds.length) (r : RpL K F ds vs)
    (nu : ∀ (j : Nat) ks' ds', es[j]? = some (.odc ks' ds') → σ[j]? ≠ some (some (.ref p))) : StOk K T F0 H0 F H (σ.set i (some (.ref p))) (es.set i (.odc ks ds)) := by
  have s1 := st.set (i := i) (v := .ref p) (s := .no) True.intro
  have ln := st.env.len
  have s2 := s1.toD (i := i) (p := p) (ks := ks) (ds := ds) (by rw [List.getElem?_set_self hi]) (by rw [List.getElem?_set_self (by rw [ln]; exact hi)]) h0 hf ht hH hl r (fun j ks' ds' e => by
    rcases get_set e with ⟨f, f2⟩ | ⟨f, f2⟩
    · cases f2
    · rw [List.getElem?_set_ne f]; exact nu j ks' ds' f2)
  rw [List.set_set] at s2
  exact s2
/-- .. changes -/
theorem StOk.mutD {i : Nat} {p : Addr} {vs' : List V} {ks ks' : List DK} {ds ds' : List D} (st : StOk K T F0 H0 F H σ es) (he : es[i]? = some (.odc ks ds)) (hp : σ[i]? = some (some (.ref p))) (hl : ks'.length = ds'.length) (r : RpL K F ds' vs') :
    StOk K T F0 H0 F (upd H p (.dK ((ks'.map kyOf).zip vs'))) σ (es.set i (.odc ks' ds')) := by
  obtain ⟨p', vs, h1, h2, h3, h4, h5, h6, h7⟩ := st.env.dic.1 i ks ds he
  have e : p = p' := by rw [hp] at h1; cases h1; rfl
  subst e
  have hi : i < es.length := (List.getElem?_eq_some_iff.mp he).1
  have nl : ∀ {q : Addr} {us : List V}, H q = some (.lst us) → q ≠ p := fun {q us} e z => by subst z; rw [h5] at e; cases e
  refine ⟨st.ok0, st.le.mut h2 h3 h4, ⟨by simpa using st.env.len, fun j d h => ?_, fun j d h => ?_, fun j xs h => ?_, fun j k xs ys q g1 g2 g3 g4 => ?_, fun j yss h => ?_, ⟨fun j ks1 ds1 h => ?_, fun j k ks1 ds1 ks2 ds2 q g1 g2 g3 g4 => ?_⟩⟩⟩
  · rcases get_set h with ⟨e, e2⟩ | ⟨e, e2⟩
    · cases e2
    · exact st.env.val j d e2
  · rcases get_set h with ⟨e, e2⟩ | ⟨e, e2⟩
    · cases e2
    · exact st.env.brw j d e2
  · rcases get_set h with ⟨e, e2⟩ | ⟨e, e2⟩
    · cases e2
    · obtain ⟨q, us, g1, g2, g3, g4, g5, g6⟩ := st.env.own j xs e2
      exact ⟨q, us, g1, g2, g3, g4, by rw [upd_ne (nl g5)]; exact g5, g6⟩
  · rcases get_set g1 with ⟨e, e2⟩ | ⟨e, e2⟩
    · cases e2
    · rcases get_set g2 with ⟨f, f2⟩ | ⟨f, f2⟩
      · cases f2
      · exact st.env.uni j k xs ys q e2 f2 g3 g4
  · rcases get_set h with ⟨e, e2⟩ | ⟨e, e2⟩
    · cases e2
    · obtain ⟨p2, ps, g1, g2, g3, g4⟩ := st.env.two j yss e2
      obtain ⟨k1, k2, k3, k4, k5, k6, k7, k8⟩ := g2
      refine ⟨p2, ps, g1, ⟨k1, k2, k3, by rw [upd_ne (nl k4)]; exact k4, k5, k6, k7, fun m q hm => ?_⟩, fun m zs q hm hq => ?_, fun m zss hm => ?_⟩
      · obtain ⟨f1, f2, f3, us, zs, f4, f5, f6⟩ := k8 m q hm
        exact ⟨f1, f2, f3, us, zs, f4, by rw [upd_ne (nl f5)]; exact f5, f6⟩
      · rcases get_set hm with ⟨f, f2⟩ | ⟨_, f2⟩
        · cases f2
        · exact g3 m zs q f2 hq
      · rcases get_set hm with ⟨f, f2⟩ | ⟨_, f2⟩
        · cases f2
        · exact g4 m zss f2
  · rcases get_set h with ⟨e, e2⟩ | ⟨e, e2⟩
    · cases e2
      subst e
      exact ⟨p, vs', h1, h2, h3, h4, upd_same, hl, r⟩
    · obtain ⟨q, us, g1, g2, g3, g4, g5, g6, g7⟩ := st.env.dic.1 j ks1 ds1 e2
      have : q ≠ p := fun z => by
        subst z
        exact e (st.env.dic.2 i j ks ds ks1 ds1 q he e2 h1 g1)
      exact ⟨q, us, g1, g2, g3, g4, by rw [upd_ne this]; exact g5, g6, g7⟩
  · have w : ∀ {j : Nat} {ks1 : List DK} {ds1 : List D}, (es.set i (.odc ks' ds'))[j]? = some (.odc ks1 ds1) → ∃ a b, es[j]? = some (.odc a b) := fun {j ks1 ds1} h => by
      rcases get_set h with ⟨e, _⟩ | ⟨_, e2⟩
      · exact ⟨_, _, e ▸ he⟩
      · exact ⟨_, _, e2⟩
    obtain ⟨_, _, w1⟩ := w g1
    obtain ⟨_, _, w2⟩ := w g2
    exact st.env.dic.2 j k _ _ _ _ q w1 w2 g3 g4
end
section
variable {X : Cx} {T : List Addr} {W : WX} {e i o k value : Expr} {f fk fv : Env → O R} {x : Str} {p1 p2 p3 pos pos' : Pos} {g : Env → Out} {st : Stmt}
/-! ### x = {} -/
def gNewD (i : Nat) : Env → Out := fun es => if i < es.length then .nx (es.set i (.odc [] [])) else .no
theorem ds_newD {i : Nat} {pd : Pos} (hN : X.N.Nodup) (hi : X.N[i]? = some x := by rfl) (hx : Loc X.env.scope x := by first | exact Or.inl rfl | exact Or.inr rfl) (hs : swapsWith (.Dict [] [] pd) (some (.Name x pos')) pos.line X.env = pure false := by rfl)
    (hf : X.fn x = true ∨ X.env.scope.names.lookup x = some .local := by first | exact .inl rfl | exact .inr rfl) : DS X T W (.Assign [.Name x pos'] (.Dict [] [] pd) pos) (gNewD i) := fun F0 H0 => ps_weak (ps_set hN hi hx pe_dnewK hs hf) fun D σ H ⟨F, es, st, q⟩ => by
  unfold gNewD at q
  split at q
  · rename_i hlt
    show tDNewK σ H _
    intro p hp
    have l := Le.newH st.ok (o := .dK []) hp
    have st2 := st.step l
    refine q _ F _ (Sub.refl _) (st2.setD (ks := []) (ds := []) (vs := []) hlt (st.h0 (st.ok.nt hp) hp) (st.ok.nf hp) (st.ok.nt hp) upd_same rfl RpL.nil fun j ks' ds' e z => ?_)
    obtain ⟨q2, us, g1, g2, g3, g4, g5, _⟩ := st.env.dic.1 j ks' ds' e
    rw [g1] at z
    cases z
    rw [hp] at g5; cases g5
  · exact q.elim
/-! ### x[k], k in x, len(x) -/
def fGetD (i : Nat) (fk : Env → O R) : Env → O R := fun es => match es[i]? with
  | some (.odc ks ds) => (fk es).bind fun r => match keyD r.fz.dat with
    | some k => O.of ((kGet ks ds k).map .val)
    | none => .no
  | _ => .no
theorem de_getD {i : Nat} (hu : X.A.units + 1 < cLine) (hk : DE X T W k fk) (hs : NoSl k := by intro _ _; rfl) (hN : X.N[i]? = some x := by rfl) (hv : Vis X.env.scope x := by first | exact Or.inl rfl | exact Or.inr (Or.inl rfl) | exact Or.inr (Or.inr rfl)) (hd : (x == ("__debug__" : Str)) = false := by decide)
    (hcd : (x == ("__classdict__" : Str)) = false := by decide) : DE X T W (.Subscript (.Name x p1) k pos) (fGetD i fk) :=
  pe_weak (pe_dget hu (pv i hN hv hd hcd) hk hs) fun σ H Q ⟨F0, H0, F, es, st, h⟩ => by
    unfold fGetD at h
    split at h
    · rename_i ks ds he
      obtain ⟨p, vs, g1, g2, g3, g4, g5, g6, g7⟩ := st.env.dic.1 i ks ds he
      refine ⟨.ref p, g1, F0, H0, F, es, st, pr_seq st h fun r v F1 H1 _ st1 l1 q1 h1 => ?_⟩
      split at h1
      · rename_i kk hkk
        cases hg : kGet ks ds kk with
        | none => rw [hg] at h1; exact h1.elim
        | some d =>
          rw [hg] at h1
          obtain ⟨u, e1, e2⟩ := (kGet_zip (k := kk) (g7.mono l1.f) g6).1 d hg
          have ev : v = kV (kyOf kk) := key_rp hkk (st1.rq q1)
          subst ev
          exact ⟨p, u, rfl, .inl ⟨_, _, .inl (l1.h p _ g4 g5), rfl, e1.symm⟩, h1 u F1 H1 (Le.refl st1.ok) e2⟩
      · exact h1.elim
    · exact h.elim
def fInD (neg : Bool) (fk : Env → O R) (i : Nat) : Env → O R := fun es => (fk es).bind fun r => match es[i]? with
  | some (.odc ks _) => match keyD r.fz.dat with
    | some k => .ok (.val (.bl (if neg then !kHas ks k else kHas ks k)))
    | none => .no
  | _ => .no
theorem kGet_some : ∀ {ks : List DK} {ds : List D} {k : DK}, ks.length = ds.length → (kGet ks ds k).isSome = kHas ks k
  | [], ds, k, _ => by (cases ds with | nil => simp [kGet, kHas] | cons a b => simp [kGet, kHas])
  | k' :: ks, [], k, h => by simp at h
  | k' :: ks, d :: ds, k, h => by
    by_cases e : k' = k
    · subst e; simp [kGet, kHas]
    · rw [kGet, if_neg e, kGet_some (by simpa using h), kHas]
      simp [e]
theorem kGet_o {K : PySem.W.Frag} {H : Hp} {ks : List DK} {ds : List D} {vs : List V} {k : DK} (r : RpL K H ds vs) (hl : ks.length = ds.length) : (valV ((ks.map kyOf).zip vs) (kyOf k)).isSome = kHas ks k := by
  rw [← kGet_some hl]
  obtain ⟨h1, h2⟩ := kGet_zip (k := k) r hl
  cases hg : kGet ks ds k with
  | none => rw [h2 hg]; rfl
  | some d =>
    obtain ⟨v, e, _⟩ := h1 d hg
    rw [e]; rfl
theorem inD_weak {K : PySem.W.Frag} {neg : Bool} {i : Nat} {σ : L2.St} {H : Hp} {Q : VK} (h : tD K T W (fInD neg fk i) σ H Q) : tD K T W fk σ H fun y H1 => tVar i σ H1 fun x H2 => ∃ a o, x = .ref a ∧ DGet H2 a y o ∧ Q (.bl (if neg then !o.isSome else o.isSome)) H2 := by
  obtain ⟨F0, H0, F, es, st, h⟩ := h
  refine ⟨F0, H0, F, es, st, pr_seq st h fun r v F1 H1 _ st1 l1 q1 h1 => ?_⟩
  split at h1
  · rename_i ks ds he
    obtain ⟨p, vs, g1, g2, g3, g4, g5, g6, g7⟩ := st1.env.dic.1 i ks ds he
    split at h1
    · rename_i kk hkk
      have ev : v = kV (kyOf kk) := key_rp hkk (st1.rq q1)
      subst ev
      refine ⟨.ref p, g1, p, valV ((ks.map kyOf).zip vs) (kyOf kk), rfl, .inl ⟨_, _, .inl g5, rfl, rfl⟩, ?_⟩
      rw [kGet_o g7 g6]
      exact h1 _ F1 H1 (Le.refl st1.ok) (by rw [Rr, Rp])
    · exact h1.elim
  · exact h1.elim
theorem de_inD (i : Nat) (hu : X.A.units + 1 < cLine) (hk : DE X T W k fk) (hN : X.N[i]? = some x := by rfl) (hv : Vis X.env.scope x := by first | exact Or.inl rfl | exact Or.inr (Or.inl rfl) | exact Or.inr (Or.inr rfl)) (hd : (x == ("__debug__" : Str)) = false := by decide)
    (hcd : (x == ("__classdict__" : Str)) = false := by decide) : DE X T W (.Compare k [.In] [.Name x p1] pos) (fInD false fk i) :=
  pe_weak (pe_cmp (pc_din hu hk (pv i hN hv hd hcd))) fun σ H Q h => inD_weak h
theorem dt_inD (i : Nat) (hu : X.A.units + 1 < cLine) (hk : DE X T W k fk) (hN : X.N[i]? = some x := by rfl) (hv : Vis X.env.scope x := by first | exact Or.inl rfl | exact Or.inr (Or.inl rfl) | exact Or.inr (Or.inr rfl)) (hd : (x == ("__debug__" : Str)) = false := by decide)
    (hcd : (x == ("__classdict__" : Str)) = false := by decide) : DT X T W (.Compare k [.In] [.Name x p1] pos) (fTest (fInD false fk i)) :=
  pt_weak (pt_cmp (pc_din hu hk (pv i hN hv hd hcd))) fun σ H Q h => by
    have q := test_weak (K := X.K) h
    unfold tTest at q
    exact inD_weak q
theorem dt_ninD (i : Nat) (hu : X.A.units + 1 < cLine) (hk : DE X T W k fk) (hN : X.N[i]? = some x := by rfl) (hv : Vis X.env.scope x := by first | exact Or.inl rfl | exact Or.inr (Or.inl rfl) | exact Or.inr (Or.inr rfl)) (hd : (x == ("__debug__" : Str)) = false := by decide)
    (hcd : (x == ("__classdict__" : Str)) = false := by decide) : DT X T W (.Compare k [.NotIn] [.Name x p1] pos) (fTest (fInD true fk i)) :=
  pt_weak (pt_cmp (pc_dnotin hu hk (pv i hN hv hd hcd))) fun σ H Q h => by
    have q := test_weak (K := X.K) h
    unfold tTest at q
    exact inD_weak q
/-! ### x[k] = v -/
def gPutD (i : Nat) (fk fv : Env → O R) : Env → Out := fun es => (fv es).out es fun v => match es[i]? with
  | some (.odc ks ds) => (fk es).out es fun r => match keyD r.fz.dat, v.fz.sto with
    | some k, some d => if ks.length < 90000 then .nx (es.set i (.odc (kPutK ks k) (kPutD ks ds k d))) else .no
    | _, _ => .no
  | _ => .no
theorem ds_putD {i : Nat} (hu : X.A.units + 1 < cLine) (hk : DE X T W k fk) (hv0 : DE X T W value fv) (hN : X.N[i]? = some x := by rfl) (hv : Vis X.env.scope x := by first | exact Or.inl rfl | exact Or.inr (Or.inl rfl) | exact Or.inr (Or.inr rfl)) (hd : (x == ("__debug__" : Str)) = false := by decide)
    (hcd : (x == ("__classdict__" : Str)) = false := by decide) (hs : swapsWith value (some (.Subscript (.Name x p1) k pos')) pos.line X.env = pure false := by rfl) : DS X T W (.Assign [.Subscript (.Name x p1) k pos'] value pos) (gPutD i fk fv) := fun F0 H0 =>
  ps_weak (ps_dput hu (pv i hN hv hd hcd) hk hv0 hs) fun D σ H ⟨F, es, st, q⟩ => by
    refine ⟨F0, H0, F, es, st, out_seq st q fun rv v F1 H1 _ st1 l1 q1 h1 => ?_⟩
    obtain ⟨F2, l2, s12, q2⟩ := q1.fz l1
    have st2 := st.step l2
    split at h1
    · rename_i ks ds he
      obtain ⟨p, vs, g1, g2, g3, g4, g5, g6, g7⟩ := st2.env.dic.1 i ks ds he
      refine ⟨.ref p, g1, F0, H0, F2, es, st2, out_seq st2 (h1.sub s12) fun rk y F3 H3 _ st3 l3 q3 h3 => ?_⟩
      split at h3
      · rename_i kk d hkk hd
        split at h3
        · rename_i hlt
          have st3' := st2.step l3
          have rv : Rp X.K F3 d v := (q2.sto hd).mono l3.f
          obtain ⟨F4, l4, s34, q4⟩ := q3.fz l3
          have st4 := st2.step l4
          have ev : y = kV (kyOf kk) := key_rp hkk (st4.rq q4)
          subst ev
          have g5' : H3 p = some (.dK ((ks.map kyOf).zip vs)) := l3.h p _ g4 g5
          have g7' := g7.mono l4.f
          obtain ⟨vs', e1, e2, e3⟩ := kPut_zip (k := kk) g7' g6 (rv.mono s34)
          have lz : ((ks.map kyOf).zip vs).length < sizeLine := by
            rw [List.length_zip, List.length_map]
            exact Nat.lt_of_le_of_lt (Nat.min_le_left _ _) (szl (by omega))
          refine ⟨p, _, rfl, .inl ⟨_, _, g5', rfl, lz, rfl⟩, ?_⟩
          rw [e1]
          exact h3 _ F4 _ s34 (st4.mutD he g1 e3 e2)
        · exact h3.elim
      · exact h3.elim
    · exact h1.elim
end
end Fw
namespace Fw
open PySem PySem.Spec PyProof.Rows L2
/-! ### zip of two lists -/
def zD : List D → List D → List R
  | a :: as, b :: bs => .val (.tup [a, b]) :: zD as bs
  | _, _ => []
theorem zD_len : ∀ (xs ys : List D), (zD xs ys).length = min xs.length ys.length
  | [], ys => by cases ys <;> simp [zD]
  | _ :: _, [] => by simp [zD]
  | a :: as, b :: bs => by simp [zD, zD_len as bs]
theorem zD_at : ∀ (xs ys : List D) (i : Nat) (a b : D), xs[i]? = some a → ys[i]? = some b → (zD xs ys)[i]? = some (.val (.tup [a, b]))
  | [], ys, i, a, b, h, _ => by simp at h
  | _ :: _, [], i, a, b, _, h => by simp at h
  | x :: xs, y :: ys, 0, a, b, h, h2 => by simp at h h2; subst h h2; simp [zD]
  | x :: xs, y :: ys, i + 1, a, b, h, h2 => by
    simp only [zD, List.getElem?_cons_succ]
    exact zD_at xs ys i a b (by simpa using h) (by simpa using h2)
def zArg : R → Option (List D)
  | .val (.lst xs) => some xs
  | .brw (.lst xs) => if xs.all flat then some xs else none
  | _ => none
def fZip (fr : Env → O (List R)) : Env → O (List R) := fun es => (fr es).bind fun rs => match rs with
  | [r, r'] => match zArg r, zArg r' with
    | some xs, some ys => .ok (zD xs ys)
    | _, _ => .no
  | _ => .no
section
variable {X : Cx} {T : List Addr} {W : WX}
theorem zarg_ok {K : PySem.W.Frag} {F0 H0 F1 H1 : Hp} {σ : L2.St} {es : Env} {v : V} {r : R} {xs : List D} (st1 : StOk K T F0 H0 F1 H1 σ es) (q : Rq K T H0 F1 H1 v r) (e : zArg r = some xs) :
    ∃ a vs, v = .ref a ∧ SqL K H1 a vs ∧ xs.length = vs.length ∧ ∀ {fz : Bool} F2 H2, Sta T fz F0 H0 F1 H1 F2 H2 → SqL K H2 a vs ∧ RpL K F2 xs vs := by
  unfold zArg at e
  split at e
  · cases e
    rw [Rq, Rp] at q
    obtain ⟨a, vs, rfl, h2, h3⟩ := q
    exact ⟨a, vs, rfl, st1.ok.sub.l h2, h3.len, fun F2 H2 s => ⟨s.2.ok.sub.l (s.f.l h2), h3.mono s.f⟩⟩
  · split at e
    · rename_i hf
      cases e
      rw [Rq, Rp] at q
      obtain ⟨a, vs, rfl, h2, h3⟩ := q
      exact ⟨a, vs, rfl, st1.up.l h2, h3.len, fun F2 H2 s => ⟨s.2.l st1.ok0.tab h2, h3.flat hf⟩⟩
    · cases e
  · cases e
theorem di_zip {fz : Bool} {e e2 : Expr} {fr : Env → O (List R)} {p pos tpos : Pos} {elts : List Expr} {kk : Nat} (hm : X.mg "zip" = none) (ha : DA X T W [e, e2] fr) (hg : Gl X "zip" := by rfl)
    (hs : starEach [e, e2] X.env = (false, eval e X.env) :: starEach [e2] X.env := by rfl) (hpl : (backTo pos (starEach [e2] X.env)).any (·.1) = false := by rfl) :
    DI fz X T W (.Tuple elts kk tpos) (.Call (.Name "zip" p) [e, e2] [] pos) (fZip fr) :=
  pi_weak (pi_zip hg hm ha hs hpl) fun σ H Rk ⟨F0, H0, F, es, st, h⟩ => ⟨F0, H0, F, es, st, pa_seqI st h (fun _ _ _ _ z => z) fun rs vs F1 H1 _ st1 l1 q1 h1 => by
    split at h1
    · rename_i r r' _
      obtain ⟨v, v', rfl, q2, q3⟩ := rql2 q1
      split at h1
      · rename_i xs ys hx hy
        obtain ⟨a, us, rfl, s1, n1, w1⟩ := zarg_ok st1 q2 hx
        obtain ⟨b, us', rfl, s2, n2, w2⟩ := zarg_ok st1 q3 hy
        refine ⟨a, b, us, us', rfl, s1, s2, h1 _ F1 H1 (Le.refl st1.ok) ?_⟩
        refine ⟨fun H => SqL X.K H a us ∧ SqL X.K H b us', YPair (fun i => us[i]?) (fun i => us'[i]?), walk_zip (by rw [zD_len, n1, n2]), fun F2 H2 s => ⟨(w1 F2 H2 s).1, (w2 F2 H2 s).1⟩, fun i H2 x H3 F2 hi s ⟨p, u, w, e1, e2, e3, e4, e5⟩ => ?_⟩
        subst e1 e3
        obtain ⟨d, h2, h3⟩ := (w1 F2 H2 s).2.getV e4
        obtain ⟨d', h4, h5⟩ := (w2 F2 H2 s).2.getV e5
        exact ⟨_, _, zD_at xs ys i d d' h2 h4, Le.new s.2.ok e2, rp_tup (s.2.ok.nf e2) (RpL.cons h3 (RpL.cons h5 RpL.nil))⟩
      · exact h1.elim
    · exact h1.elim⟩
end
/-! ### name = {k: v for ..} on one line, the name a local -/
section
variable {X : Cx}
theorem ps_setDc {i : Nat} {y : Str} {py : Pos} {kx vx tg iter : Expr} {ifs : List Expr} {scope : Scope} {own : List (Str × Nat)} {pos spos : Pos} {wi : TI} {g : TG} {tt : TT} {tk tv : TE} (hc : X.calm = true) (hN : X.N.Nodup) (hy : X.N[i]? = some y) (hyl : X.env.scope.names.lookup y = some .local)
    (hsw : swapsWith (.DictComp kx vx [⟨tg, iter, ifs, 0⟩] scope pos) (some (.Name y py)) spos.line X.env = pure true) (hi : PI X tg iter wi) (ok : BlkOk X.N X.env.scope scope own)
    (hg : ∀ (s : Shared) (H : Hp) (C : Addr) (cl : List (Str × Addr)) (fp : List Addr), PG (X.blk s H scope (compEnvC scope cl C X.env) fp) tg g) (ht : ∀ (s : Shared) (H : Hp) (C : Addr) (cl : List (Str × Addr)) (fp : List Addr), PTs (X.blk s H scope (compEnvC scope cl C X.env) fp) ifs tt)
    (hk : ∀ (s : Shared) (H : Hp) (C : Addr) (cl : List (Str × Addr)) (fp : List Addr), PE (X.blk s H scope (compEnvC scope cl C X.env) fp) kx tk)
    (he : ∀ (s : Shared) (H : Hp) (C : Addr) (cl : List (Str × Addr)) (fp : List Addr), PE (X.blk s H scope (compEnvC scope cl C X.env) fp) vx tv) (hs : ∀ x, foldedSetIterable iter X.env x = pure x := by intro _; rfl) :
    PS X (.Assign [.Name y py] (.DictComp kx vx [⟨tg, iter, ifs, 0⟩] scope pos) spos) (tAsg (tDc wi g tt tk tv (own.map (·.2))) (gName i)) := by
  refine ⟨fun pins s σ H D I h => ?_⟩
  rw [exec_Assign_Name_used _ _ _ _ hsw]
  refine wpAny_bind (wpAny_standAt (wpAny_bind ?_))
  show wpAny _ X.A (do let _ ← comprehension (.DictComp kx vx [⟨tg, iter, ifs, 0⟩] scope pos) scope X.env (firstIterPos [⟨tg, iter, ifs, 0⟩] pos) newDict false (eval iter X.env) (some (assign (.Name y py) X.env))) _ _ s
  have h : tDc wi g tt tk tv (own.map (·.2)) σ H (fun x H1 => gName i x σ H1 D.nx) := h
  refine wpAny_bind (thn (dc_core (Qf := fun _ s' => SP X pins D .next s') hc hN I hi ok hg ht hk he hs h fun L C s' m H' I' q hn f => ?_) fun _ s' hq => wpAny_pure (wpAny_pure hq))
  show wpAny _ _ (assign (.Name y py) X.env (.ref L)) _ _ _
  refine wpAny_assign_Name (store_ok2 (v := V.ref L) I' hN hy (.inl hyl) rfl (fun s2 I2 ⟨a, sb, ha⟩ => ?_) (.inr hyl))
  obtain ⟨f0, f1, f2, f3, f4, f5⟩ := f
  have haC : C ≠ a := by
    rcases ha with z | z
    · rw [z]; exact f1
    · exact fun e => f4 y a z e.symm
  refine ⟨m, hn.sameBut sb haC, fun h3 sb3 => ?_⟩
  exact ⟨_, H', I2.turned (t' := s2.toks) (fun b o hb e => (sb3.2 b hb).trans e) f0 f1 f3 f4 f5, q⟩
theorem sw_trueD {kx vx : Expr} {gs : List Comprehension} {scope : Scope} {pos py : Pos} {y : Str} {l : Nat} {env : PySem.Env} (hk : env.scope.kind = .function) (hy : env.scope.names.lookup y = some .local) (hl : (py.line == pos.line) = true)
    (ha : (scope.names.any fun (n, k) => n == y && (k == .local || k == .cell)) = false) : swapsWith (.DictComp kx vx gs scope pos) (some (.Name y py)) l env = pure true := by
  have ky : env.kindOf y = some .local := hy
  have hb : env.blockKind = .function := by unfold Env.blockKind; rw [hk]; rfl
  unfold swapsWith
  simp only [hb, ky, ha, Expr.pos, hl]
  rfl
end
def dcL (tg : Tg) (fk fv : Env → O R) (es : Env) : List R → List DK → List D → O (List DK × List D)
  | [], ks, ds => .ok (ks, ds)
  | x :: xs, ks, ds => match stTg tg x es with
    | none => .no
    | some e1 => (noX (fk e1)).bind fun r => (noX (fv e1)).bind fun v => match keyD r.fz.dat, v.fz.sto with
      | some k, some d => dcL tg fk fv es xs (kPutK ks k) (kPutD ks ds k d)
      | _, _ => .no
def gDcD (i : Nat) (src : Env → O (List R)) (vs : List Nat) (tg : Tg) (fk fv : Env → O R) : Env → Out := fun es => (src es).out es fun xs => if xs.length ≤ 90000 ∧ i < es.length then match dcL tg fk fv (wipeE es vs) xs [] [] with
    | .ok (ks, ds) => .nx (es.set i (.odc ks ds))
    | _ => .no
  else .no
theorem kPutK_len (ks : List DK) (k : DK) : (kPutK ks k).length ≤ ks.length + 1 := by
  unfold kPutK; split <;> simp
section
variable {X : Cx} {T : List Addr} {W : WX}
theorem dc_weak {K : PySem.W.Frag} {F0 H0 : Hp} {i : Nat} {src : Env → O (List R)} {vs : List Nat} {tg : Tg} {fk fv : Env → O R} {σ : L2.St} {H : Hp} {D : Ends} (hvs : ∀ i ∈ tg.at, i ∈ vs) (h : tS K T W F0 H0 (gDcD i src vs tg fk fv) D σ H) :
    tAsg (tDc (tI false K T W src) (tgOf K tg) (tT K T W0 fYes) (tD K T W0 fk) (tD K T W0 fv) vs) (gName i) D σ H := by
  obtain ⟨F, es, st, h⟩ := h
  refine ⟨F0, H0, F, es, st, out_seq st h fun xs J F1 H1 _ st1 l1 q1 h => ?_⟩
  obtain ⟨G, Y, w, hG, hY⟩ := q1
  intro Dl hD
  split at h
  · rename_i hlen
    obtain ⟨hlen, hil⟩ := hlen
    split at h
    · rename_i ks ds hds
      have nT : Dl ∉ T := st1.ok.nt hD
      have h0D : H0 Dl = none := st1.h0 nT hD
      refine walk_gen (B := fun Nx x H H' => tgOf K tg x (L2.wipe σ vs) H' fun σ2 H2 => L2.wipe σ2 vs = L2.wipe σ vs ∧ tT K T W0 fYes σ2 H2 fun b H3 =>
          if b = true then tD K T W0 fk σ2 H3 fun y H4 => tD K T W0 fv σ2 H4 fun z H5 => ∃ kvs k, y = kV k ∧ H5 Dl = some (.dK kvs) ∧ kvs.length < sizeLine ∧ Nx (upd H5 Dl (.dK (putK kvs k z))) else Nx H3) w
        (fun i H2 => ∃ F2 ks1 ds1 vs2, Le T F1 H1 F2 H2 ∧ F2 Dl = none ∧ H2 Dl = some (.dK ((ks1.map kyOf).zip vs2)) ∧ RpL K F2 ds1 vs2 ∧ ks1.length = ds1.length ∧ ks1.length ≤ i ∧ dcL tg fk fv (wipeE es vs) (xs.drop i) ks1 ds1 = .ok (ks, ds))
        ⟨F1, [], [], [], Le.newH st1.ok hD, st1.ok.nf hD, upd_same, RpL.nil, rfl, Nat.le_refl _, hds⟩ ?_ ?_ ?_
      · intro i H2 hi ⟨F2, ks1, ds1, vs2, l2, _⟩
        exact hG F2 H2 ⟨l2, st1.le.trans l2⟩
      · intro i x H2 H3 hi ⟨F2, ks1, ds1, vs2, l2, hF, hH, hr, hkl, hle, hl⟩ hy
        obtain ⟨F3, r, hx, l3, q3⟩ := hY i H2 x H3 F2 hi ⟨l2, st1.le.trans l2⟩ hy
        have hdr : xs.drop i = r :: xs.drop (i + 1) := by
          have : i < xs.length := hi
          rw [List.drop_eq_getElem_cons this]
          rw [List.getElem?_eq_getElem this] at hx
          rw [Option.some.inj hx]
        rw [hdr] at hl
        simp only [dcL] at hl
        have st3 : StOk K T F0 H0 F3 H3 (L2.wipe σ vs) (wipeE es vs) := ((st1.step l2).step l3).wipe vs
        cases h1 : stTg tg r (wipeE es vs) with
        | none => rw [h1] at hl; cases hl
        | some e1 =>
          rw [h1] at hl
          simp only at hl
          refine tg_ok st3 q3 h1 fun σ' st' hw => ⟨?_, ?_⟩
          · rw [hw vs hvs]
            apply List.ext_getElem?
            intro j
            rw [wipe_get, wipe_get, wipe_length]
            split <;> rfl
          · refine ⟨F0, H0, F3, e1, st', ?_⟩
            intro b' F4 H4 l4 eb
            subst eb
            rw [if_pos rfl]
            have hF3 : F3 Dl = none := l3.n Dl hF (by rw [hH]; simp)
            have hH3 : H3 Dl = some (.dK ((ks1.map kyOf).zip vs2)) := l3.h Dl _ nT hH
            have hF4 : F4 Dl = none := l4.n Dl hF3 (by rw [hH3]; simp)
            have hH4 : H4 Dl = some (.dK ((ks1.map kyOf).zip vs2)) := l4.h Dl _ nT hH3
            have st4 := st'.step l4
            refine ⟨F0, H0, F4, e1, st4, ?_⟩
            cases hfk : fk e1 with
            | no => rw [hfk] at hl; cases hl
            | exc c fs => rw [hfk] at hl; cases hl
            | ok rk =>
              rw [hfk] at hl
              simp only [noX, O.bind_ok] at hl
              intro y F5 H5 l5 q5
              obtain ⟨F6, l6, _, q6⟩ := q5.fz l5
              have st6 := st4.step l6
              have hF6 : F6 Dl = none := l6.n Dl hF4 (by rw [hH4]; simp)
              have hH6 : H5 Dl = some (.dK ((ks1.map kyOf).zip vs2)) := l6.h Dl _ nT hH4
              refine ⟨F0, H0, F6, e1, st6, ?_⟩
              cases hfv : fv e1 with
              | no => rw [hfv] at hl; cases hl
              | exc c fs => rw [hfv] at hl; cases hl
              | ok rv =>
                rw [hfv] at hl
                simp only [noX, O.bind_ok] at hl
                intro z F7 H7 l7 q7
                obtain ⟨F8, l8, _, q8⟩ := q7.fz l7
                split at hl
                · rename_i k d hk hd
                  have hF8 : F8 Dl = none := l8.n Dl hF6 (by rw [hH6]; simp)
                  have hH8 : H7 Dl = some (.dK ((ks1.map kyOf).zip vs2)) := l8.h Dl _ nT hH6
                  have hsub : Sub F2 F8 := ((l3.f.trans l4.f).trans l6.f).trans l8.f
                  have ey : y = kV (kyOf k) := key_rp hk (st6.rq q6)
                  obtain ⟨vs3, p1, p2, p3⟩ := kPut_zip (k := k) (hr.mono hsub) hkl (q8.sto hd)
                  refine ⟨_, kyOf k, ey, hH8, ?_, F8, kPutK ks1 k, kPutD ks1 ds1 k d, vs3, ((((l2.trans l3).trans l4).trans l6).trans l8).mut hD hF8 nT, hF8, ?_, p2, p3, ?_, hl⟩
                  · rw [List.length_zip, List.length_map]
                    exact Nat.lt_of_le_of_lt (Nat.min_le_left _ _) (szl (by have : i < xs.length := hi; omega))
                  · rw [upd_same, p1]
                  · have := kPutK_len ks1 k; omega
                · cases hl
      · intro H2 ⟨F2, ks1, ds1, vs2, l2, hF, hH, hr, hkl, hle, hl⟩
        have e0 : xs.drop xs.length = [] := List.drop_length
        rw [e0] at hl
        simp only [dcL] at hl
        cases hl
        have st2 := st1.step l2
        refine h _ F2 H2 l2.f (st2.setD hil h0D hF nT hH hkl hr fun j ks' ds' e z => ?_)
        obtain ⟨q2, us, g1, g2, g3, g4, g5, _⟩ := st1.env.dic.1 j ks' ds' e
        rw [g1] at z
        cases z
        rw [hD] at g5; cases g5
    · exact h.elim
  · exact h.elim
theorem ds_setDc {i : Nat} {y : Str} {py : Pos} {kx vx tg iter : Expr} {scope : Scope} {own : List (Str × Nat)} {pos spos : Pos} {src : Env → O (List R)} {t : Tg} {fk fv : Env → O R} (hN : X.N.Nodup) (hi : DI false X T W tg iter src) (ok : BlkOk X.N X.env.scope scope own)
    (hg : ∀ (s : Shared) (H : Hp) (C : Addr) (cl : List (Str × Addr)) (fp : List Addr), PG (X.blk s H scope (compEnvC scope cl C X.env) fp) tg (tgOf X.K t))
    (hk : ∀ (s : Shared) (H : Hp) (C : Addr) (cl : List (Str × Addr)) (fp : List Addr), DE (X.blk s H scope (compEnvC scope cl C X.env) fp) T W0 kx fk)
    (he : ∀ (s : Shared) (H : Hp) (C : Addr) (cl : List (Str × Addr)) (fp : List Addr), DE (X.blk s H scope (compEnvC scope cl C X.env) fp) T W0 vx fv)
    (hy : X.N[i]? = some y := by rfl) (hyl : X.env.scope.names.lookup y = some .local := by rfl) (hsw : swapsWith (.DictComp kx vx [⟨tg, iter, [], 0⟩] scope pos) (some (.Name y py)) spos.line X.env = pure true := by exact sw_trueD rfl rfl rfl (by decide +kernel))
    (hc : X.calm = true := by rfl) (hs : ∀ x, foldedSetIterable iter X.env x = pure x := by intro _; rfl) (hvs : ∀ i ∈ t.at, i ∈ own.map (·.2) := by decide) :
    DS X T W (.Assign [.Name y py] (.DictComp kx vx [⟨tg, iter, [], 0⟩] scope pos) spos) (gDcD i src (own.map (·.2)) t fk fv) := fun F0 H0 =>
  ps_weak (ps_setDc (tt := tT X.K T W0 fYes) (tk := tD X.K T W0 fk) (tv := tD X.K T W0 fv) hc hN hy hyl hsw hi ok hg (fun s H C cl fp => dts_yes) (fun s H C cl fp => hk s H C cl fp) (fun s H C cl fp => he s H C cl fp) hs) fun D σ H q => dc_weak hvs q
end
section
variable {X : Cx} {T : List Addr} {W : WX}
/-- .. the name a cell -/
theorem ds_setDcC {i : Nat} {y : Str} {py : Pos} {kx vx tg iter : Expr} {scope : Scope} {own : List (Str × Nat)} {pos spos : Pos} {src : Env → O (List R)} {t : Tg} {fk fv : Env → O R} (hN : X.N.Nodup) (hi : DI false X T W tg iter src) (ok : BlkOk X.N X.env.scope scope own)
    (hg : ∀ (s : Shared) (H : Hp) (C : Addr) (cl : List (Str × Addr)) (fp : List Addr), PG (X.blk s H scope (compEnvC scope cl C X.env) fp) tg (tgOf X.K t))
    (hk : ∀ (s : Shared) (H : Hp) (C : Addr) (cl : List (Str × Addr)) (fp : List Addr), DE (X.blk s H scope (compEnvC scope cl C X.env) fp) T W0 kx fk)
    (he : ∀ (s : Shared) (H : Hp) (C : Addr) (cl : List (Str × Addr)) (fp : List Addr), DE (X.blk s H scope (compEnvC scope cl C X.env) fp) T W0 vx fv)
    (hy : X.N[i]? = some y := by rfl) (hx : Loc X.env.scope y := by first | exact Or.inl rfl | exact Or.inr rfl) (hsw : swapsWith (.DictComp kx vx [⟨tg, iter, [], 0⟩] scope pos) (some (.Name y py)) spos.line X.env = pure false := by rfl)
    (hf : X.fn y = true ∨ X.env.scope.names.lookup y = some .local := by first | exact .inl rfl | exact .inr rfl)
    (hc : X.calm = true := by rfl) (hs : ∀ x, foldedSetIterable iter X.env x = pure x := by intro _; rfl) (hvs : ∀ i ∈ t.at, i ∈ own.map (·.2) := by decide) :
    DS X T W (.Assign [.Name y py] (.DictComp kx vx [⟨tg, iter, [], 0⟩] scope pos) spos) (gDcD i src (own.map (·.2)) t fk fv) := fun F0 H0 =>
  ps_weak (ps_set hN hy hx (pe_dc (tt := tT X.K T W0 fYes) (tk := tD X.K T W0 fk) (tv := tD X.K T W0 fv) hc hN hi ok hg (fun s H C cl fp => dts_yes) (fun s H C cl fp => hk s H C cl fp) (fun s H C cl fp => he s H C cl fp) hs) hsw hf) fun D σ H q => dc_weak hvs q
end
/-! ### x[k] += n, x[k] -= n -/
def gAugD (i : Nat) (f : Int → Int → Int) (fk fv : Env → O R) : Env → Out := fun es => match es[i]? with
  | some (.odc ks ds) => (fk es).out es fun r => match keyD r.fz.dat with
    | some k => match kGet ks ds k with
      | some (.int a) => (fv es).out es fun v => match v.fz with
        | .val (.int b) => if ks.length < 90000 then .nx (es.set i (.odc (kPutK ks k) (kPutD ks ds k (.int (f a b))))) else .no
        | _ => .no
      | _ => .no
    | none => .no
  | _ => .no
section
variable {X : Cx} {T : List Addr} {W : WX} {k value : Expr} {fk fv : Env → O R} {x : Str} {p1 pos tpos : Pos}
theorem ds_augD {i : Nat} {op : Operator} {f : Int → Int → Int} {rd : V → V → Hp → VK → Prop} (hop : InOp X op rd) (hrd : ∀ a b H Q, Q (.int (f a b)) H → rd (.int a) (.int b) H Q) (hu : X.A.units + 1 < cLine) (hk : DE X T W k fk) (hv0 : DE X T W value fv) (hN : X.N[i]? = some x := by rfl) (hv : Vis X.env.scope x := by first | exact Or.inl rfl | exact Or.inr (Or.inl rfl) | exact Or.inr (Or.inr rfl)) (hd : (x == ("__debug__" : Str)) = false := by decide)
    (hcd : (x == ("__classdict__" : Str)) = false := by decide) (ha : ∀ ov iv new, augStore k ov iv new = (do holding [new, ov, iv] (setItem ov iv new); release [new, ov, iv] []; pure .next) := by intro _ _ _; rfl) : DS X T W (.AugAssign (.Subscript (.Name x p1) k tpos) op value pos) (gAugD i f fk fv) := fun F0 H0 =>
  ps_weak (ps_daug hu (pv i hN hv hd hcd) hk hv0 hop ha) fun D σ H ⟨F, es, st, q⟩ => by
    unfold gAugD at q
    split at q
    · rename_i ks ds he
      obtain ⟨p, vs, g1, g2, g3, g4, g5, g6, g7⟩ := st.env.dic.1 i ks ds he
      refine ⟨.ref p, g1, F0, H0, F, es, st, out_seq st q fun r y F1 H1 _ st1 l1 q1 h1 => ?_⟩
      obtain ⟨F2, l2, s12, q2⟩ := q1.fz l1
      have st2 := st.step l2
      split at h1
      · rename_i kk hkk
        have ev : y = kV (kyOf kk) := key_rp hkk (st2.rq q2)
        subst ev
        split at h1
        · rename_i a hga
          have g7' := g7.mono l2.f
          obtain ⟨u, e1, e2⟩ := (kGet_zip (k := kk) g7' g6).1 _ hga
          have e3 : u = .int a := by rw [Rp] at e2; exact e2
          subst e3
          have g5' : H1 p = some (.dK ((ks.map kyOf).zip vs)) := l2.h p _ g4 g5
          refine ⟨p, _, rfl, .inl ⟨_, _, .inl g5', rfl, e1.symm⟩, F0, H0, F2, es, st2, out_seq st2 (h1.sub s12) fun rv z F3 H3 _ st3 l3 q3 h3 => ?_⟩
          obtain ⟨F4, l4, s34, q4⟩ := q3.fz l3
          have st4 := st2.step l4
          split at h3
          · rename_i b hb
            rw [hb] at q4
            have e4 : z = .int b := rq_int q4
            subst e4
            split at h3
            · rename_i hlt
              have g5'' : H3 p = some (.dK ((ks.map kyOf).zip vs)) := l4.h p _ g4 g5'
              obtain ⟨vs', f1, f2, f3⟩ := kPut_zip (k := kk) (x := .int (f a b)) (u := .int (f a b)) (g7'.mono l4.f) g6 (by rw [Rp])
              have lz : ((ks.map kyOf).zip vs).length < sizeLine := by
                rw [List.length_zip, List.length_map]
                exact Nat.lt_of_le_of_lt (Nat.min_le_left _ _) (szl (by omega))
              refine hrd _ _ _ _ ⟨_, .inl ⟨_, _, g5'', rfl, lz, rfl⟩, ?_⟩
              rw [f1]
              exact h3 _ F4 _ s34 (st4.mutD he g1 f3 f2)
            · exact h3.elim
          · exact h3.elim
        · exact h1.elim
      · exact h1.elim
    · exact q.elim
theorem ds_addD {i : Nat} (hu : X.A.units + 1 < cLine) (hk : DE X T W k fk) (hv0 : DE X T W value fv) (hN : X.N[i]? = some x := by rfl) (hv : Vis X.env.scope x := by first | exact Or.inl rfl | exact Or.inr (Or.inl rfl) | exact Or.inr (Or.inr rfl)) (hd : (x == ("__debug__" : Str)) = false := by decide)
    (hcd : (x == ("__classdict__" : Str)) = false := by decide) (ha : ∀ ov iv new, augStore k ov iv new = (do holding [new, ov, iv] (setItem ov iv new); release [new, ov, iv] []; pure .next) := by intro _ _ _; rfl) : DS X T W (.AugAssign (.Subscript (.Name x p1) k tpos) .Add value pos) (gAugD i (fun a b => a + b) fk fv) :=
  ds_augD in_add (fun a b H Q q => ⟨a, b, rfl, rfl, q⟩) hu hk hv0 hN hv hd hcd ha
theorem ds_subD {i : Nat} (hu : X.A.units + 1 < cLine) (hk : DE X T W k fk) (hv0 : DE X T W value fv) (hN : X.N[i]? = some x := by rfl) (hv : Vis X.env.scope x := by first | exact Or.inl rfl | exact Or.inr (Or.inl rfl) | exact Or.inr (Or.inr rfl)) (hd : (x == ("__debug__" : Str)) = false := by decide)
    (hcd : (x == ("__classdict__" : Str)) = false := by decide) (ha : ∀ ov iv new, augStore k ov iv new = (do holding [new, ov, iv] (setItem ov iv new); release [new, ov, iv] []; pure .next) := by intro _ _ _; rfl) : DS X T W (.AugAssign (.Subscript (.Name x p1) k tpos) .Sub value pos) (gAugD i (fun a b => a - b) fk fv) :=
  ds_augD in_sub (fun a b H Q q => ⟨a, b, rfl, rfl, q⟩) hu hk hv0 hN hv hd hcd ha
end
/-! ### x.append(y.pop(k)) -/
def gAppPop (i j : Nat) (f : Env → O R) : Env → Out := fun es => match es[i]?, es[j]? with
  | some (.own xs), some (.own ys) => (f es).out es fun r => match r.fz with
    | .val (.int k) => match (if 0 ≤ k then ys[k.toNat]? else none) with
      | some d => if xs.length < 90000 ∧ ys.length < 90000 then .nx ((es.set j (.own (ys.eraseIdx k.toNat))).set i (.own (xs ++ [d]))) else .no
      | none => .no
    | _ => .no
  | _, _ => .no
section
variable {X : Cx} {T : List Addr} {W : WX} {e : Expr} {f : Env → O R} {x y : Str} {p1 p2 p3 q1 q2 q3 pos : Pos}
theorem ds_appPop (i j : Nat) (hij : i ≠ j) (he : DE X T W e f) (hN : X.N[i]? = some x := by rfl) (hN2 : X.N[j]? = some y := by rfl) (hv : Vis X.env.scope x := by first | exact Or.inl rfl | exact Or.inr (Or.inl rfl) | exact Or.inr (Or.inr rfl)) (hv2 : Vis X.env.scope y := by first | exact Or.inl rfl | exact Or.inr (Or.inl rfl) | exact Or.inr (Or.inr rfl)) (hd : (x == ("__debug__" : Str)) = false := by decide)
    (hcd : (x == ("__classdict__" : Str)) = false := by decide) (hd2 : (y == ("__debug__" : Str)) = false := by decide)
    (hcd2 : (y == ("__classdict__" : Str)) = false := by decide)
    (hst2 : starEach [e] X.env = (false, eval e X.env) :: starEach [] X.env := by rfl)
    (hbase2 : attributeBase (.Name y q1) "pop" X.env (eval (.Name y q1) X.env) = eval (.Name y q1) X.env := by rfl)
    (hfew2 : ((backTo q3 (starEach [e] X.env)).all (fun x => !x.1) && (backToKw q3 (keywordEach [] X.env)).all (fun x => x.1.isSome) && decide ([e].length + ([] : List Keyword).length + (if ([] : List Keyword).isEmpty then 0 else 1) < 30)) = true := by rfl)
    (hline2 : (q2.endLine == q3.line) = true := by rfl)
    (hst : starEach [.Call (.Attribute (.Name y q1) "pop" q2) [e] [] q3] X.env = (false, eval (.Call (.Attribute (.Name y q1) "pop" q2) [e] [] q3) X.env) :: starEach [] X.env := by rfl)
    (hbase : attributeBase (.Name x p1) "append" X.env (eval (.Name x p1) X.env) = eval (.Name x p1) X.env := by rfl)
    (hfew : ((backTo p3 (starEach [.Call (.Attribute (.Name y q1) "pop" q2) [e] [] q3] X.env)).all (fun x => !x.1) && (backToKw p3 (keywordEach [] X.env)).all (fun x => x.1.isSome) && decide ([Expr.Call (.Attribute (.Name y q1) "pop" q2) [e] [] q3].length + ([] : List Keyword).length + (if ([] : List Keyword).isEmpty then 0 else 1) < 30)) = true := by rfl)
    (hline : (p2.endLine == p3.line) = true := by rfl)
    (hs : swapsWith (.Call (.Attribute (.Name x p1) "append" p2) [.Call (.Attribute (.Name y q1) "pop" q2) [e] [] q3] [] p3) none pos.line X.env = pure false := by rfl) :
    DS X T W (.Expr (.Call (.Attribute (.Name x p1) "append" p2) [.Call (.Attribute (.Name y q1) "pop" q2) [e] [] q3] [] p3) pos) (gAppPop i j f) := fun F0 H0 =>
  ps_weak (ps_expr (pe_bm PySem.F.plainAttrs_list PySem.F.slot_list_append PySem.F.type_list_append mt_append (pv i hN hv hd hcd) (pa_cons (pe_bm PySem.F.plainAttrs_list PySem.F.slot_list_pop PySem.F.type_list_pop mt_popAt (pv j hN2 hv2 hd2 hcd2) (pa_cons he pa_nil hst2) hbase2 hfew2 hline2 hst2 rfl) pa_nil hst) hbase hfew hline hst rfl) hs) fun D σ H ⟨F, es, st, q⟩ => by
    unfold gAppPop at q
    split at q
    · rename_i xs ys e1 e2
      obtain ⟨p, vs, h1, h2, h3, h4, h5, h6⟩ := st.env.own i xs e1
      obtain ⟨p', us, g1, g2, g3, g4, g5, g6⟩ := st.env.own j ys e2
      have hpp : p ≠ p' := fun z => by subst z; exact hij (st.env.uni i j xs ys p e1 e2 h1 g1)
      refine ⟨.ref p, h1, own_ty h5, .ref p', g1, own_ty g5, F0, H0, F, es, st, out_seq st q fun r v F1 H1 _ _ l1 q1 q => ?_⟩
      split at q
      · rename_i k hk
        obtain ⟨F2, l2, s2, q2⟩ := q1.fz l1
        rw [hk] at q2
        have ev : v = .int k := rq_int q2
        subst ev
        have st2 := st.step l2
        split at q
        · rename_i d hd
          split at q
          · rename_i hl
            obtain ⟨hl1, hl2⟩ := hl
            split at hd
            · rename_i hk0
              have h5' : H1 p = some (.lst vs) := l2.h p _ h4 h5
              have g5' : H1 p' = some (.lst us) := l2.h p' _ g4 g5
              have g6' := g6.mono l2.f
              have hlt : k.toNat < ys.length := (List.getElem?_eq_some_iff.mp hd).1
              have hlt2 : k.toNat < us.length := by rw [← g6.len]; exact hlt
              obtain ⟨d', f1, f2⟩ := g6'.getV (i := k.toNat) (List.getElem?_eq_getElem hlt2)
              rw [hd] at f1
              cases f1
              refine ⟨p', us, k, k.toNat, us[k.toNat], rfl, rfl, g5', by omega, by omega, ?_, List.getElem?_eq_getElem hlt2, ?_⟩
              · unfold seqIndex?
                have a1 : ¬ k < 0 := by omega
                have a2 : k < (us.length : Int) := by omega
                simp [a1, a2, hk0]
              · have st3 := st2.mutOwn e2 g1 (g6'.eraseIdx k.toNat)
                have e1' : (es.set j (.own (ys.eraseIdx k.toNat)))[i]? = some (.own xs) := by rw [List.getElem?_set_ne (Ne.symm hij)]; exact e1
                have st4 := st3.mutOwn e1' h1 ((h6.mono l2.f).app (RpL.cons f2 RpL.nil))
                exact ⟨p, vs, _, rfl, rfl, by rw [upd_ne hpp]; exact h5', by rw [← h6.len]; exact szl (by omega), q _ F2 _ s2 st4⟩
            · cases hd
          · exact q.elim
        · exact q.elim
      · exact q.elim
    · exact q.elim
end
/-! ### return x if c else b, x a list of one's own -/
def gRetIf (fc : Env → O Bool) (i : Nat) (fb : Env → O R) : Env → Out := fun es => (fc es).out es fun b => if b = true then gRetV i es else gRet fb es
section
variable {X : Cx} {T : List Addr} {W : WX}
theorem retV_weak {K : PySem.W.Frag} {F0 H0 F H : Hp} {σ : L2.St} {es : Env} {i : Nat} {D : Ends} (st : StOk K T F0 H0 F H σ es) (q : OutOk K T W F0 H0 F D (gRetV i es)) : tVar i σ H D.rt := by
  unfold gRetV at q
  cases hf : fVar i es with
  | no => rw [hf] at q; exact q.elim
  | exc c fs =>
    unfold fVar at hf
    split at hf <;> cases hf
  | ok r =>
    rw [hf] at q
    obtain ⟨v, h1, h2⟩ := st.var hf
    refine ⟨v, h1, ?_⟩
    cases r with
    | val d => exact q v F H st.le h2
    | brw d => exact q.elim
    | new xs =>
      unfold fVar at hf
      split at hf
      · cases hf
      · rename_i d _
        unfold nrm at hf
        split at hf <;> cases hf
      · cases hf
      · cases hf
    | bor xs =>
      have e : es[i]? = some (.own xs) := by
        unfold fVar at hf
        split at hf
        · cases hf
        · rename_i d _
          unfold nrm at hf
          split at hf <;> cases hf
        · rename_i e
          cases hf
          exact e
        · cases hf
      obtain ⟨p, vs, g1, g2, g3, g4, g5, g6⟩ := st.env.own i xs e
      rw [g1] at h1
      cases h1
      exact q (.ref p) F H st.le ⟨p, vs, rfl, g2, g3, g4, g5, g6⟩
theorem ds_retIf {c b : Expr} {fc : Env → O Bool} {fb : Env → O R} (i : Nat) {x : Str} {p ppos pos : Pos} (hc : DT X T W c fc) (hb : DE X T W b fb) (hN : X.N[i]? = some x := by rfl) (hv : Vis X.env.scope x := by first | exact Or.inl rfl | exact Or.inr (Or.inl rfl) | exact Or.inr (Or.inr rfl)) (hd : (x == ("__debug__" : Str)) = false := by decide)
    (hcd : (x == ("__classdict__" : Str)) = false := by decide) : DS X T W (.Return (some (.IfExp c (.Name x p) b ppos)) pos) (gRetIf fc i fb) := fun F0 H0 => ps_weak (ps_ret (pe_ifExp hc (pv i hN hv hd hcd) hb)) fun D σ H ⟨F, es, st, q⟩ =>
  ⟨F0, H0, F, es, st, out_seq (rel := fun _ _ b a => b = a) st q fun a k F1 H1 _ st1 l1 q1 h1 => by
    subst q1
    cases k with
    | true => exact retV_weak st1 h1
    | false =>
      refine ⟨F0, H0, F1, es, st1, out_seq st1 h1 fun r v F2 H2 hr st2 l2 q2 h2 => ?_⟩
      cases r with
      | val d => exact h2 v F2 H2 st2.le q2
      | brw d => exact h2.elim
      | bor xs => exact h2.elim
      | new xs => exact h2 v F2 H2 st2.le (Rr.back st1.le q2)⟩
end
end Fw
/-! Steps of the data, and what is common to the laws' values. -/
namespace Fw
open PySem PySem.Spec PyProof.Rows L2
def Sg (s : List Nat) : Prop := ∀ c ∈ s, c = 48 ∨ c = 49 ∨ c = 45
theorem bit1 (n : Nat) : Builtin.bitAnd (n : Int) 1 = ((n % 2 : Nat) : Int) := by
  unfold Builtin.bitAnd
  simp [Nat.and_one_is_mod]
theorem shr_nat (n k : Nat) : (n : Int) / 2 ^ k = ((n / 2 ^ k : Nat) : Int) := by simp
def fin (o : Out) : O R := match o with
  | .nx _ => .ok (.val .non)
  | .rt r => .ok r
  | _ => .no
def sgn (n k : Nat) : Nat := if n / 2 ^ k % 2 = 1 then 49 else 48
theorem m_is_lit (n k : Nat) : run0 2 (gRet (fBin dEq (fBin dAnd (fBin dShr (fVar 0) (fVar 1)) (fC (.int 1))) (fC (.int 1)))) [.int n, .int k] = .ok (.val (.bl (decide (n / 2 ^ k % 2 = 1)))) := by
  simp [run0, startE, slotD, flat, gSeq, gSet, gIf, gRet, gRetV, gNext, gExpr, fBin, fVar, fC, fCall0, fTest, R.tst, fNot, fAnd, fOr, fAndV, fIf, fNil, fCons, fLst, fTup, fSl, fPart, fNoPart, fBi, fRg1, R.fz, R.dat, R.sto, stoL, nrm, dAdd, dSub, dMod, dDiv, dMulA, dMul, i2, modC, divC, mulC, shlC, shrC, dShl, dShr, dAnd, dIx, atR, dLen, lenD, dSl, O.of, bit1, dEq, shp, deq, ← shr_nat]
  rw [shr_nat, bit1]
  by_cases h : n / 2 ^ k % 2 = 1
  · simp [dEq, shp, deq, h]
  · have h0 : n / 2 ^ k % 2 = 0 := by omega
    simp [dEq, shp, deq, h0]
theorem m_sign_at {gl : List D → O R} (hl : ∀ n k : Nat, gl [.int n, .int k] = .ok (.val (.bl (decide (n / 2 ^ k % 2 = 1))))) (n k : Nat) : run0 2 (gRet (fIf (fTest (fCall0 gl (fCons (fVar 0) (fCons (fVar 1) fNil)))) (fC (.str [49])) (fC (.str [48])))) [.int n, .int k] = .ok (.val (.str [sgn n k])) := by
  simp [run0, startE, slotD, flat, gSeq, gSet, gIf, gRet, gRetV, gNext, gExpr, fBin, fVar, fC, fCall0, fTest, R.tst, fNot, fAnd, fOr, fAndV, fIf, fNil, fCons, fLst, fTup, fSl, fPart, fNoPart, fBi, fRg1, R.fz, R.dat, R.sto, stoL, nrm, dAdd, dSub, dMod, dDiv, dMulA, dMul, i2, modC, divC, mulC, shlC, shrC, dShl, dShr, dAnd, dIx, atR, dLen, lenD, dSl, O.of, hl, sgn]
  by_cases h : n / 2 ^ k % 2 = 1 <;> simp [h]
def okS (n k c : Nat) : Bool := decide (c = 45) || decide (c = sgn n k)
def agB (n : Nat) : Nat → List Nat → Bool
  | _, [] => true
  | k, c :: r => okS n k c && agB n (k + 1) r
theorem enum_loop {body : Fw.Env → Out} {t : List Nat} {n : Nat} (hb : ∀ (k c : Nat), (c = 48 ∨ c = 49 ∨ c = 45) → body [.val (.str t), .val (.int n), .val (.int k), .val (.str [c])] = if okS n k c = true then .nx [.val (.str t), .val (.int n), .val (.int k), .val (.str [c])] else .rt (.val (.bl false))) :
    ∀ (s : List Nat), Sg s → ∀ (k : Nat) (x y : Sl), (forL (.tp [2, 3]) body (enD k (signsD s)) [.val (.str t), .val (.int n), x, y]).seq (gRet (fC (.bl true))) = .rt (.val (.bl (agB n k s)))
  | [], _, k, x, y => rfl
  | c :: s, h, k, x, y => by
    have hc := h c (by simp)
    have ih := enum_loop hb s (fun d hd => h d (by simp [hd])) (k + 1) (.val (.int k)) (.val (.str [c]))
    have e1 : stTg (.tp [2, 3]) (R.val (.tup [.int (k : Int), .str [c]])) [.val (.str t), .val (.int n), x, y] = some [.val (.str t), .val (.int n), .val (.int k), .val (.str [c])] := rfl
    have hbb := hb k c hc
    show (forL (.tp [2, 3]) body (.val (.tup [.int (k : Int), .str [c]]) :: enD (k + 1) (signsD s)) [.val (.str t), .val (.int n), x, y]).seq _ = _
    rw [forL, e1]
    simp only [hbb]
    cases ho : okS n k c with
    | true =>
      simp only [if_true]
      rw [ih, agB, ho]
      simp
    | false =>
      rw [agB, ho]
      simp
theorem m_has {gs : List D → O R} (hgs : ∀ n k : Nat, gs [.int n, .int k] = .ok (.val (.str [sgn n k]))) (s : List Nat) (hs : Sg s) (n : Nat) : run0 4 (gSeq (gFor (fEnum true (fCons (fVar 0) fNil)) (.tp [2, 3]) (gIf (fAnd (fTest (fBin dNe (fVar 3) (fC (.str [45])))) (fTest (fBin dNe (fVar 3) (fCall0 gs (fCons (fVar 1) (fCons (fVar 2) fNil)))))) (gRet (fC (.bl false))) gNext)) (gRet (fC (.bl true)))) [.str s, .int n] = .ok (.val (.bl (agB n 0 s))) := by
  have h := enum_loop (t := s) (n := n) (body := gIf (fAnd (fTest (fBin dNe (fVar 3) (fC (.str [45])))) (fTest (fBin dNe (fVar 3) (fCall0 gs (fCons (fVar 1) (fCons (fVar 2) fNil)))))) (gRet (fC (.bl false))) gNext) (by
    intro k c hc
    have hsg : sgn n k = 48 ∨ sgn n k = 49 := by unfold sgn; split <;> simp
    rcases hc with rfl | rfl | rfl <;> rcases hsg with e | e <;> simp [run0, startE, slotD, flat, gSeq, gSet, gIf, gRet, gRetV, gNext, gExpr, fBin, fVar, fC, fCall0, fTest, R.tst, fNot, fAnd, fOr, fAndV, fIf, fNil, fCons, fLst, fTup, fSl, fPart, fNoPart, fBi, fRg1, R.fz, R.dat, R.sto, stoL, nrm, dAdd, dSub, dMod, dDiv, dMulA, dMul, i2, modC, divC, mulC, shlC, shrC, dShl, dShr, dAnd, dIx, atR, dLen, lenD, dSl, O.of, hgs, dNe, shp, deq, okS, e]) s hs 0 .no .no
  exact congrArg fin h
theorem m_agrees (s : List Nat) (hs : Sg s) (n : Nat) : run0 4 (gSeq (gFor (fEnum true (fCons (fVar 0) fNil)) (.tp [2, 3]) (gIf (fAnd (fTest (fBin dNe (fVar 3) (fC (.str [45])))) (fTest (fBin dNe (fBi dInt (fCons (fVar 3) fNil)) (fBin dAnd (fBin dShr (fVar 1) (fVar 2)) (fC (.int 1)))))) (gRet (fC (.bl false))) gNext)) (gRet (fC (.bl true)))) [.str s, .int n] = .ok (.val (.bl (agB n 0 s))) := by
  have h := enum_loop (t := s) (n := n) (body := gIf (fAnd (fTest (fBin dNe (fVar 3) (fC (.str [45])))) (fTest (fBin dNe (fBi dInt (fCons (fVar 3) fNil)) (fBin dAnd (fBin dShr (fVar 1) (fVar 2)) (fC (.int 1)))))) (gRet (fC (.bl false))) gNext) (by
    intro k c hc
    have hsg : (n / 2 ^ k % 2 = 1 ∧ sgn n k = 49) ∨ (n / 2 ^ k % 2 = 0 ∧ sgn n k = 48) := by unfold sgn; split <;> omega
    rcases hc with rfl | rfl | rfl <;> rcases hsg with ⟨e0, e⟩ | ⟨e0, e⟩ <;> simp [run0, startE, slotD, flat, gSeq, gSet, gIf, gRet, gRetV, gNext, gExpr, fBin, fVar, fC, fCall0, fTest, R.tst, fNot, fAnd, fOr, fAndV, fIf, fNil, fCons, fLst, fTup, fSl, fPart, fNoPart, fBi, fRg1, R.fz, R.dat, R.sto, stoL, nrm, dAdd, dSub, dMod, dDiv, dMulA, dMul, i2, modC, divC, mulC, shlC, shrC, dShl, dShr, dAnd, dIx, atR, dLen, lenD, dSl, O.of, dInt, numS, dNe, shp, deq, okS, e] <;> rw [shr_nat, bit1, e0] <;> simp) s hs 0 .no .no
  exact congrArg fin h
theorem mulC_r {i j : Int} (h1 : -(2 ^ 64) < j) (h2 : j < 2 ^ 64) : mulC i j = true := by simp only [mulC, decide_eq_true_eq]; exact Or.inr ⟨h1, h2⟩
theorem mulC_l {i j : Int} (h1 : -(2 ^ 64) < i) (h2 : i < 2 ^ 64) : mulC i j = true := by simp only [mulC, decide_eq_true_eq]; exact Or.inl ⟨h1, h2⟩
def spr (c k : Int) : Int := (c + 3) * (48271 + 2 * k * k + k) % 2147483647
theorem spr_lo (c k : Int) : 0 ≤ spr c k := by unfold spr; omega
theorem spr_hi (c k : Int) : spr c k < 2147483647 := by unfold spr; omega
theorem m_spread (c k : Int) (h0 : 0 ≤ k) (h1 : k < 100) : run0 2 (gRet (fBin dMod (fBin dMulA (fBin dAdd (fVar 0) (fC (.int 3))) (fBin dAdd (fBin dAdd (fC (.int 48271)) (fBin dMulA (fBin dMulA (fC (.int 2)) (fVar 1)) (fVar 1))) (fVar 1))) (fC (.int 2147483647)))) [.int c, .int k] = .ok (.val (.int (spr c k))) := by
  have m1 : mulC 2 k = true := mulC_l (by decide) (by decide)
  have m2 : mulC (2 * k) k = true := mulC_r (by omega) (by omega)
  have hk : 0 ≤ 2 * k * k ∧ 2 * k * k ≤ 20000 := by
    constructor
    · exact Int.mul_nonneg (by omega) h0
    · calc 2 * k * k ≤ 200 * 100 := Int.mul_le_mul (by omega) (by omega) h0 (by omega)
        _ = 20000 := by decide
  have m3 : mulC (c + 3) (48271 + 2 * k * k + k) = true := mulC_r (by omega) (by omega)
  simp only [run0, startE, slotD, flat, gRet, fBin, fVar, fC, R.fz, dAdd, dMulA, dMul, dMod, i2, modC, O.of, List.map, List.length, List.replicate, List.append, m1, m2, m3, if_true]
  simp [m1, m2, m3, spr]
theorem cut_take {α : Type} (s : List α) (k : Nat) : cutL s none (some (k : Int)) = s.take k := by
  unfold cutL
  rw [HT.sIx_nat, HT.sIx_none]
  simp [List.take_eq_take_iff]
theorem cut_drop {α : Type} (s : List α) (k : Nat) : cutL s (some (k : Int)) none = s.drop k := by
  unfold cutL
  rw [HT.sIx_nat, HT.sIx_none]
  by_cases h : k ≤ s.length
  · rw [Nat.min_eq_left h, List.take_of_length_le (by simp)]
  · rw [Nat.min_eq_right (by omega)]
    simp [List.drop_eq_nil_of_le (Nat.le_of_lt (Nat.lt_of_not_le h))]
theorem atI_nat {α : Type} (s : List α) (k : Nat) : atI s (k : Int) = s[k]? := by
  unfold atI ixN
  by_cases h : k < s.length
  · simp [h]
  · simp [h]
def put (s : List Nat) (k c : Nat) : List Nat := s.take k ++ [c] ++ s.drop (k + 1)
theorem put_len {s : List Nat} {k c : Nat} (h : k < s.length) : (put s k c).length = s.length := by
  simp [put]; omega
theorem put_sg {s : List Nat} {k c : Nat} (h : Sg s) (hc : c = 48 ∨ c = 49 ∨ c = 45) : Sg (put s k c) := by
  intro d hd
  simp only [put, List.mem_append, List.mem_singleton] at hd
  rcases hd with (hd | hd) | hd
  · exact h d (List.mem_of_mem_take hd)
  · subst hd; exact hc
  · exact h d (List.mem_of_mem_drop hd)
def Tm (n : Nat) (s : List Nat) : Prop := s.length = n ∧ Sg s
theorem of_nat {i : Int} (h : 0 ≤ i) : ∃ n : Nat, i = n := ⟨i.toNat, by omega⟩
theorem sign3 {i : Int} (h0 : 0 ≤ i) (h1 : i < 3) : ∃ c, atI [48, 49, 45] i = some c ∧ (c = 48 ∨ c = 49 ∨ c = 45) := by
  have : i = 0 ∨ i = 1 ∨ i = 2 := by omega
  rcases this with rfl | rfl | rfl
  · exact ⟨48, rfl, by simp⟩
  · exact ⟨49, rfl, by simp⟩
  · exact ⟨45, rfl, by simp⟩
theorem forL_rgA {t : Tg} {body : Fw.Env → Out} {n : Nat} (I : Nat → Fw.Env → Prop) (hb : ∀ i, i < n → ∀ es, I i es → ∃ e1, stTg t (.val (.int (i : Nat))) es = some e1 ∧ ∃ e2, body e1 = .nx e2 ∧ I (i + 1) e2) :
    ∀ (m k : Nat) (es : Fw.Env), k + m = n → I k es → ∃ e2, forL t body ((List.range' k m).map fun i => .val (.int (0 + (i : Nat)))) es = .nx e2 ∧ I n e2
  | 0, k, es, h, hi => by
    have : k = n := by omega
    subst this
    exact ⟨es, rfl, hi⟩
  | m + 1, k, es, h, hi => by
    obtain ⟨e1, h1, e2, h2, h3⟩ := hb k (by omega) es hi
    obtain ⟨e3, h4, h5⟩ := forL_rgA I hb m (k + 1) e2 (by omega) h3
    refine ⟨e3, ?_, h5⟩
    rw [List.range'_succ, List.map_cons, forL, Int.zero_add, h1]
    simp only [h2]
    exact h4
theorem forL_rg {t : Tg} {body : Fw.Env → Out} {n : Nat} (I : Nat → Fw.Env → Prop) (hb : ∀ i, i < n → ∀ es, I i es → ∃ e1, stTg t (.val (.int (i : Nat))) es = some e1 ∧ ∃ e2, body e1 = .nx e2 ∧ I (i + 1) e2)
    {es : Fw.Env} (h : I 0 es) : ∃ e2, forL t body (rgD 0 n) es = .nx e2 ∧ I n e2 := by
  have := forL_rgA I hb n 0 es (by omega) h
  rwa [← List.range_eq_range'] at this
theorem lcL_rgA {t : Tg} {cond : Fw.Env → O Bool} {elt : Fw.Env → O R} {es : Fw.Env} {n : Nat} (p : Nat → Bool) (f : Nat → D)
    (h : ∀ i, i < n → ∃ e1, stTg t (.val (.int (i : Nat))) es = some e1 ∧ cond e1 = .ok (p i) ∧ (p i = true → elt e1 = .ok (.val (f i)))) :
    ∀ (m k : Nat), k + m = n → lcL t cond elt es ((List.range' k m).map fun i => .val (.int (0 + (i : Nat)))) = .ok (((List.range' k m).filter p).map f)
  | 0, k, _ => rfl
  | m + 1, k, hk => by
    obtain ⟨e1, h1, h2, h3⟩ := h k (by omega)
    have ih := lcL_rgA p f h m (k + 1) (by omega)
    rw [List.range'_succ, List.map_cons, lcL, Int.zero_add, h1]
    simp only [h2, noX, O.bind_ok]
    cases hp : p k with
    | true =>
      rw [if_pos rfl, h3 hp]
      simp only [noX, O.bind_ok, R.fz, R.sto, ih]
      simp [hp]
    | false =>
      rw [if_neg (by simp), ih]
      simp [hp]
theorem lcL_rg {t : Tg} {cond : Fw.Env → O Bool} {elt : Fw.Env → O R} {es : Fw.Env} {n : Nat} (p : Nat → Bool) (f : Nat → D)
    (h : ∀ i, i < n → ∃ e1, stTg t (.val (.int (i : Nat))) es = some e1 ∧ cond e1 = .ok (p i) ∧ (p i = true → elt e1 = .ok (.val (f i)))) :
    lcL t cond elt es (rgD 0 n) = .ok (((List.range n).filter p).map f) := by
  have := lcL_rgA p f h n 0 (by omega)
  rwa [← List.range_eq_range'] at this
theorem add_s {s t : List Nat} (h : s.length + t.length ≤ 100000) : dAdd (.val (.str s)) (.val (.str t)) = some (.val (.str (s ++ t))) := if_pos h
theorem add_i (i j : Int) : dAdd (.val (.int i)) (.val (.int j)) = some (.val (.int (i + j))) := rfl
theorem mod_i {i j : Int} (h : 0 < j) : dMod (.val (.int i)) (.val (.int j)) = some (.val (.int (i % j))) := if_pos (decide_eq_true h)
theorem div_i {i j : Int} (h : 0 < j ∧ j < 1073741824) : dDiv (.val (.int i)) (.val (.int j)) = some (.val (.int (i / j))) := if_pos (decide_eq_true h)
theorem len_s {s : List Nat} (h : s.length ≤ 100000) : dLen [.val (.str s)] = some (.val (.int (s.length : Nat))) := by
  show (if s.length ≤ 100000 then some (s.length : Int) else none).map _ = _
  rw [if_pos h]; rfl
theorem sl_take {s : List Nat} {k : Nat} (h : s.length ≤ 100000) : dSl (.val (.str s)) none (some (k : Int)) = some (.val (.str (s.take k))) := by
  show (if s.length ≤ 100000 then some (R.val (D.str (cutL s none (some (k : Int))))) else none) = _
  rw [cut_take]; exact if_pos h
theorem sl_drop {s : List Nat} {k : Nat} (h : s.length ≤ 100000) : dSl (.val (.str s)) (some (k : Int)) none = some (.val (.str (s.drop k))) := by
  show (if s.length ≤ 100000 then some (R.val (D.str (cutL s (some (k : Int)) none))) else none) = _
  rw [cut_drop]; exact if_pos h
theorem sl_drop1 {s : List Nat} {k : Nat} (h : s.length ≤ 100000) : dSl (.val (.str s)) (some ((k : Int) + 1)) none = some (.val (.str (s.drop (k + 1)))) := by
  have e : (k : Int) + 1 = ((k + 1 : Nat) : Int) := by omega
  rw [e]; exact sl_drop h
theorem ix_s {s : List Nat} {i : Int} {c : Nat} (h : s.length ≤ 100000) (e : atI s i = some c) : dIx (.val (.str s)) (.val (.int i)) = some (.val (.str [c])) := by
  show (if s.length ≤ 100000 then (atI s i).map (fun c => R.val (.str [c])) else none) = _
  rw [e]
  exact if_pos h
theorem small {s : List Nat} {n : Nat} (h : s.length = n) (h2 : n ≤ 10) : s.length ≤ 100000 := Nat.le_trans (Nat.le_of_eq h) (Nat.le_trans h2 (by decide))
theorem le100k {n : Nat} (h2 : n ≤ 50) : n ≤ 100000 := Nat.le_trans h2 (by decide)
section
variable {es e2 : Fw.Env} {f fa fb : Fw.Env → O R} {g h : Fw.Env → Out} {d : R → R → Option R} {a b : D} {c : R} {i : Nat} {fr : Fw.Env → O (List R)} {rs : List R} {k : Bool} {tt : Fw.Env → O Bool}
theorem set_v {fz : Bool} (h : f es = .ok (.val a)) : gSet i fz f es = .nx (es.set i (.val a)) := by
  unfold gSet; rw [h]; cases fz <;> rfl
theorem set_n {xs : List D} (h : f es = .ok (.new xs)) : gSet i true f es = .nx (es.set i (.val (.lst xs))) := by
  unfold gSet; rw [h]; rfl
theorem set_own {xs : List D} (h : f es = .ok (.new xs)) : gSet i false f es = .nx (es.set i (.own xs)) := by
  unfold gSet; rw [h]; rfl
theorem seq_n (h1 : g es = .nx e2) : gSeq g h es = h e2 := by unfold gSeq; rw [h1]; rfl
theorem seq_r {r : R} (h1 : g es = .rt r) : gSeq g h es = .rt r := by unfold gSeq; rw [h1]; rfl
theorem if_o (h1 : tt es = .ok k) : gIf tt g h es = if k = true then g es else h es := by unfold gIf; rw [h1]; rfl
theorem if_t (h1 : tt es = .ok true) : gIf tt g h es = g es := by unfold gIf; rw [h1]; rfl
theorem if_f (h1 : tt es = .ok false) : gIf tt g gNext es = .nx es := by unfold gIf; rw [h1]; rfl
theorem bin_o (ha : fa es = .ok (.val a)) (hb : fb es = .ok (.val b)) (hc : d (.val a) (.val b) = some c) : fBin d fa fb es = .ok c := by
  unfold fBin; rw [ha, O.bind_ok, hb, O.bind_ok]
  show O.of (d (.val a) (.val b)) = _
  rw [hc]; rfl
theorem cons_o (ha : fa es = .ok (.val a)) (hr : fr es = .ok rs) : fCons fa fr es = .ok (.val a :: rs) := by
  unfold fCons; rw [ha, O.bind_ok, hr]; rfl
theorem nil_o : fNil es = .ok [] := rfl
theorem call_o {gg : List D → O R} (h1 : fr es = .ok rs) (hg : gg (rs.map R.dat) = .ok (.val a)) : fCall0 gg fr es = .ok (.val a) := by
  unfold fCall0; rw [h1, O.bind_ok, hg]
theorem call_n {gg : List D → O R} {xs : List D} (h1 : fr es = .ok rs) (hg : gg (rs.map R.dat) = .ok (.new xs)) : fCall0 gg fr es = .ok (.new xs) := by
  unfold fCall0; rw [h1, O.bind_ok, hg]
theorem bi_o {dd : List R → Option R} (h1 : fr es = .ok rs) (hg : dd rs = some c) : fBi dd fr es = .ok c := by
  unfold fBi; rw [h1, O.bind_ok, hg]; rfl
theorem test_o (h1 : f es = .ok (.val (.bl k))) : fTest f es = .ok k := by
  unfold fTest; rw [h1]; rfl
theorem ifv_o (h1 : tt es = .ok k) : fIf tt fa fb es = if k = true then fa es else fb es := by unfold fIf; rw [h1]; rfl
theorem ret_v (h1 : f es = .ok (.val a)) : gRet f es = .rt (.val a) := by unfold gRet; rw [h1]; rfl
theorem ret_n {xs : List D} (h1 : f es = .ok (.new xs)) : gRet f es = .rt (.new xs) := by unfold gRet; rw [h1]; rfl
theorem tup2 {x y : D} (ha : fa es = .ok (.val x)) (hb : fb es = .ok (.val y)) : fTup (fCons fa (fCons fb fNil)) es = .ok (.val (.tup [x, y])) := by
  unfold fTup; rw [cons_o ha (cons_o hb nil_o), O.bind_ok]; rfl
theorem slt {s : List Nat} {k : Nat} (ha : fa es = .ok (.val (.str s))) (hb : fb es = .ok (.val (.int k))) (h : s.length ≤ 100000) : fSl fa fNoPart (fPart fb) es = .ok (.val (.str (s.take k))) := by
  unfold fSl fNoPart fPart; rw [ha, O.bind_ok, O.bind_ok, hb, O.bind_ok, O.bind_ok]
  show O.of (dSl (.val (.str s)) none (some (k : Int))) = _
  rw [sl_take h]; rfl
theorem sld {s : List Nat} {k : Nat} (ha : fa es = .ok (.val (.str s))) (hb : fb es = .ok (.val (.int k))) (h : s.length ≤ 100000) : fSl fa (fPart fb) fNoPart es = .ok (.val (.str (s.drop k))) := by
  unfold fSl fNoPart fPart; rw [ha, O.bind_ok, hb, O.bind_ok, O.bind_ok, O.bind_ok]
  show O.of (dSl (.val (.str s)) (some (k : Int)) none) = _
  rw [sl_drop h]; rfl
theorem sld1 {s : List Nat} {k : Nat} (ha : fa es = .ok (.val (.str s))) (hb : fb es = .ok (.val (.int ((k : Int) + 1)))) (h : s.length ≤ 100000) : fSl fa (fPart fb) fNoPart es = .ok (.val (.str (s.drop (k + 1)))) := by
  unfold fSl fNoPart fPart; rw [ha, O.bind_ok, hb, O.bind_ok, O.bind_ok, O.bind_ok]
  show O.of (dSl (.val (.str s)) (some ((k : Int) + 1)) none) = _
  rw [sl_drop1 h]; rfl
theorem fc_o : fC a es = .ok (.val a) := rfl
theorem rg_o {n : Nat} (h : fa es = .ok (.val (.int n))) (hn : n ≤ 1000) : fRg1 (fCons fa fNil) es = .ok (rgD 0 n) := by
  unfold fRg1
  rw [cons_o h nil_o, O.bind_ok]
  show (if -(2 ^ 62) ≤ (n : Int) ∧ (n : Int) < 2 ^ 62 then _ else _) = _
  rw [if_pos (by omega)]; rfl
theorem for_o {src : Fw.Env → O (List R)} {t : Tg} {body : Fw.Env → Out} {xs : List R} (h : src es = .ok xs) : gFor src t body es = forL t body xs es := by unfold gFor; rw [h]; rfl
theorem eq_i (x y : Int) : dEq (.val (.int x)) (.val (.int y)) = some (.val (.bl (x == y))) := by
  simp [dEq, R.dat, shp, deq]
end
theorem join1 : ∀ cs : List Nat, joinS [] (cs.map fun c => [c]) = cs
  | [] => rfl
  | [c] => rfl
  | c :: e :: r => by
    have := join1 (e :: r)
    simp only [List.map_cons] at this ⊢
    rw [joinS, this]; rfl
theorem strs1 : ∀ cs : List Nat, strsOf (cs.map fun c => D.str [c]) = some (cs.map fun c => [c])
  | [] => rfl
  | c :: r => by
    rw [List.map_cons, strsOf, strs1 r]; rfl
theorem sum1 : ∀ cs : List Nat, ((cs.map fun c => [c]).map (·.length)).sum = cs.length
  | [] => rfl
  | c :: r => by
    have := sum1 r
    simp only [List.map_cons, List.sum_cons, List.length_cons, List.length_nil] at this ⊢
    omega
theorem join_eq {cs : List Nat} (h : cs.length ≤ 1000) : dJoin [] (.val (.lst (cs.map fun c => D.str [c]))) = some (.val (.str cs)) := by
  simp only [dJoin, R.dat, itmD, strs1, sum1, join1, List.length_map, List.length_nil, Nat.mul_zero, Nat.add_zero]
  exact if_pos (Nat.le_trans h (by decide))
section
variable {es e2 : Fw.Env} {f fa fb : Fw.Env → O R} {g h : Fw.Env → Out} {a b : D} {c : R} {i : Nat} {fr : Fw.Env → O (List R)} {rs : List R} {k k2 : Bool} {tt t2 : Fw.Env → O Bool}
theorem lc_o {src : Fw.Env → O (List R)} {vs : List Nat} {t : Tg} {cond : Fw.Env → O Bool} {elt : Fw.Env → O R} {n : Nat} {p : Nat → Bool} {f : Nat → D} (hs : src es = .ok (rgD 0 n)) (hn : n ≤ 1000)
    (h : ∀ i, i < n → ∃ e1, stTg t (.val (.int (i : Nat))) (wipeE es vs) = some e1 ∧ cond e1 = .ok (p i) ∧ (p i = true → elt e1 = .ok (.val (f i)))) : fLc src vs t cond elt es = .ok (.new (((List.range n).filter p).map f)) := by
  unfold fLc
  rw [hs, O.bind_ok, if_pos (by simp [rgD]; omega), lcL_rg p f h]; rfl
theorem shl_o {n : Nat} (h : n ≤ 10) : dShl (.val (.int 1)) (.val (.int n)) = some (.val (.int ((2 ^ n : Nat) : Int))) := by
  show (if shlC 1 (n : Int) = true then some (R.val (.int (1 * 2 ^ (n : Int).toNat))) else none) = _
  rw [if_pos (by simp only [shlC, decide_eq_true_eq]; exact ⟨by omega, by omega, by decide⟩), Int.toNat_natCast, Int.one_mul]
  simp
theorem len_o {s : List Nat} (h : fa es = .ok (.val (.str s))) (hl : s.length ≤ 100000) : fBi dLen (fCons fa fNil) es = .ok (.val (.int (s.length : Nat))) := bi_o (cons_o h nil_o) (len_s hl)
theorem or_f (h1 : tt es = .ok false) : fOr tt t2 es = t2 es := by unfold fOr; rw [h1]; rfl
theorem or_t (h1 : tt es = .ok true) : fOr tt t2 es = .ok true := by unfold fOr; rw [h1]; rfl
theorem not_o (h1 : tt es = .ok k) : fNot tt es = .ok (!k) := by unfold fNot; rw [h1]; rfl
theorem andv_t (h1 : fa es = .ok (.val (.bl true))) : fAndV fa fb es = fb es := by unfold fAndV; rw [h1]; rfl
end
theorem pow_le {n : Nat} (h : n ≤ 5) : 2 ^ n ≤ 32 := Nat.pow_le_pow_right (by decide) h
theorem isi_o (x : Bool) : dIsi [.val (.bl x), .val (.ty "bool")] = some (.val (.bl true)) := by
  simp [dIsi, R.dat, tyD, isiB]
theorem ne_b (x : Bool) : dNe (.val (.bl x)) (.val (.bl x)) = some (.val (.bl false)) := by
  cases x <;> rfl
theorem sets_plain (l : List Nat) : (l.map fun n => D.int (n : Nat)).all plainF = true := by
  rw [List.all_eq_true]
  intro d hd
  obtain ⟨n, _, rfl⟩ := List.mem_map.mp hd
  rfl
theorem deqL_ints : ∀ l : List Nat, deqL (l.map fun n => D.int (n : Nat)) (l.map fun n => D.int (n : Nat)) = true
  | [] => rfl
  | x :: l => by
    rw [List.map_cons, deqL, deqL_ints l]
    simp [deq]
theorem shp_s {s : List Nat} (h : Sg s) : shp 60 (.str s) = true := by
  show (s.all fun c => decide (c < 1114112)) = true
  rw [List.all_eq_true]
  intro c hc
  rcases h c hc with rfl | rfl | rfl <;> decide
theorem ne_s {s : List Nat} (h : Sg s) : dNe (.val (.str s)) (.val (.str s)) = some (.val (.bl false)) := by
  show (if shp 60 (.str s) && shp 60 (.str s) then some (R.val (.bl (!(s == s)))) else none) = _
  rw [shp_s h]; simp
theorem put_o {es : Fw.Env} {fs fk fk1 fc : Fw.Env → O R} {s : List Nat} {k c : Nat} (h1 : fs es = .ok (.val (.str s))) (h2 : fk es = .ok (.val (.int k))) (h3 : fk1 es = .ok (.val (.int ((k : Int) + 1)))) (h4 : fc es = .ok (.val (.str [c]))) (hl : s.length ≤ 5) :
    fBin dAdd (fBin dAdd (fSl fs fNoPart (fPart fk)) fc) (fSl fs (fPart fk1) fNoPart) es = .ok (.val (.str (put s k c))) := by
  have g1 : s.length ≤ 100000 := small rfl (by omega)
  exact bin_o (bin_o (slt h1 h2 g1) h4 (add_s (le100k (by simp; omega)))) (sld1 h1 h3 g1) (add_s (le100k (by simp; omega)))
def pb (c : Nat) : Bool := decide (c = 49) || (decide (c = 48) || decide (c = 45))
theorem nis_ty (m n : String) : dNis (.val (.ty m)) (.val (.ty n)) = some (.val (.bl (!decide (m = n)))) := rfl
theorem nrm_brw {x : D} (h : flat x = false) : nrm x = .brw x := by unfold nrm; rw [h]; rfl
theorem ne_i (x y : Int) : dNe (.val (.int x)) (.val (.int y)) = some (.val (.bl (!(x == y)))) := by
  simp [dNe, R.dat, shp, deq]
theorem all_pb {s : List Nat} (h : Sg s) : s.all pb = true := by
  rw [List.all_eq_true]
  intro c hc
  rcases h c hc with rfl | rfl | rfl <;> decide
theorem put_pb {s : List Nat} {k c : Nat} (hc : pb c = false) : (put s k c).all pb = false := by
  simp [put, hc]
theorem gD {s : List Nat} {i : Nat} (hi : i < s.length) : s.getD i 0 = s[i] := by simp [hi]
theorem getD_sg {s : List Nat} (h : Sg s) {i : Nat} (hi : i < s.length) : s.getD i 0 = 48 ∨ s.getD i 0 = 49 ∨ s.getD i 0 = 45 := by
  have e : s.getD i 0 = s[i] := by simp [hi]
  rw [e]; exact h _ (List.getElem_mem hi)
theorem at_o {s : List Nat} {i : Nat} (hi : i < s.length) : atI s (i : Int) = some (s.getD i 0) := by
  rw [atI_nat]; simp [hi]
theorem ne_one {a b : Nat} (ha : a = 48 ∨ a = 49 ∨ a = 45) (hb : b = 48 ∨ b = 49 ∨ b = 45) : dNe (.val (.str [a])) (.val (.str [b])) = some (.val (.bl (!([a] == [b])))) := by
  rcases ha with rfl | rfl | rfl <;> rcases hb with rfl | rfl | rfl <;> rfl
theorem eq_one {a b : Nat} (ha : a = 48 ∨ a = 49 ∨ a = 45) (hb : b = 48 ∨ b = 49 ∨ b = 45) : dEq (.val (.str [a])) (.val (.str [b])) = some (.val (.bl ([a] == [b]))) := by
  rcases ha with rfl | rfl | rfl <;> rcases hb with rfl | rfl | rfl <;> rfl
theorem len_l {es : Fw.Env} {fa : Fw.Env → O R} {xs : List D} (h : fa es = .ok (.val (.lst xs))) : fBi dLen (fCons fa fNil) es = .ok (.val (.int (xs.length : Nat))) := bi_o (cons_o h nil_o) rfl
theorem ix_l {es : Fw.Env} {fa fb : Fw.Env → O R} {u : Nat} {r : List D} (h : fa es = .ok (.val (.lst (.int u :: r)))) (h2 : fb es = .ok (.val (.int 0))) : fBin dIx fa fb es = .ok (.val (.int u)) := bin_o h h2 (by
  show (atI (D.int (u : Nat) :: r) ((0 : Nat) : Int)).map R.val = _
  rw [atI_nat]; rfl)
theorem bin_g {es : Fw.Env} {fa fb : Fw.Env → O R} {d : R → R → Option R} {ra rb c : R} (ha : fa es = .ok ra) (hb : fb es = .ok rb) (hc : d ra.fz rb.fz = some c) : fBin d fa fb es = .ok c := by
  unfold fBin; rw [ha, O.bind_ok, hb, O.bind_ok, hc]; rfl
theorem lst2 {es : Fw.Env} {fa fb : Fw.Env → O R} {x y : D} (ha : fa es = .ok (.val x)) (hb : fb es = .ok (.val y)) : fLst (fCons fa (fCons fb fNil)) es = .ok (.new [x, y]) := by
  unfold fLst; rw [cons_o ha (cons_o hb nil_o), O.bind_ok]; rfl
theorem cons_n {es : Fw.Env} {fa : Fw.Env → O R} {fr : Fw.Env → O (List R)} {xs : List D} {rs : List R} (ha : fa es = .ok (.new xs)) (hr : fr es = .ok rs) : fCons fa fr es = .ok (.val (.lst xs) :: rs) := by
  unfold fCons; rw [ha, O.bind_ok, hr]; rfl
theorem lst_o {es : Fw.Env} {fr : Fw.Env → O (List R)} {rs : List R} {ds : List D} (h : fr es = .ok rs) (h2 : stoL rs = some ds) (h3 : ds.length ≤ 50) : fLst fr es = .ok (.new ds) := by
  unfold fLst; rw [h, O.bind_ok, h2]
  exact if_pos (le100k h3)
theorem tup1 {es : Fw.Env} {fa : Fw.Env → O R} {x : D} (h : fa es = .ok (.val x)) : fTup (fCons fa fNil) es = .ok (.val (.tup [x])) := by
  unfold fTup; rw [cons_o h nil_o, O.bind_ok]; rfl
theorem isb_t : dIs (.val (.bl true)) (.val (.bl true)) = some (.val (.bl true)) := rfl
theorem isb_f : dIs (.val (.bl false)) (.val (.bl false)) = some (.val (.bl true)) := rfl
theorem put_sg45 {s : List Nat} {k : Nat} (h : Sg s) : Sg (put s k 45) := put_sg h (by simp)
theorem forL_en {t : Tg} {body : Fw.Env → Out} (I : Fw.Env → Prop) (hb : ∀ (k : Nat) (c : Int) (es : Fw.Env), I es → ∃ e1, stTg t (.val (.tup [.int (k : Int), .int c])) es = some e1 ∧ ∃ e2, body e1 = .nx e2 ∧ I e2) :
    ∀ (cs : List Int) (k : Nat) (es : Fw.Env), I es → ∃ e2, forL t body (enD k (cs.map D.int)) es = .nx e2 ∧ I e2
  | [], k, es, h => ⟨es, rfl, h⟩
  | c :: cs, k, es, h => by
    obtain ⟨e1, h1, e2, h2, h3⟩ := hb k c es h
    obtain ⟨e3, h4, h5⟩ := forL_en I hb cs (k + 1) e2 h3
    refine ⟨e3, ?_, h5⟩
    show forL t body (.val (.tup [.int (k : Int), .int c]) :: enD (k + 1) (cs.map D.int)) es = _
    rw [forL, h1]
    simp only [h2]
    exact h4
theorem asg_v {es e2 : Fw.Env} {f : Fw.Env → O R} {t : Tg} {d : D} (h : f es = .ok (.val d)) (h2 : stTg t (.val d) es = some e2) : gAsg t f es = .nx e2 := by
  unfold gAsg; rw [h]
  show (match stTg t (R.fz (.val d)) es with | some es' => Out.nx es' | none => .no) = _
  show (match stTg t (.val d) es with | some es' => Out.nx es' | none => .no) = _
  rw [h2]
theorem flat_ints (ns : List Int) : (ns.map D.int).all flat = true := by
  rw [List.all_eq_true]
  intro d hd
  obtain ⟨n, _, rfl⟩ := List.mem_map.mp hd
  rfl
end Fw
namespace Fw
open PySem PySem.Spec PyProof.Rows L2
/-! ### the steps of the data as rules of rewriting -/
section
variable {es e2 : Fw.Env} {fa fb fc : Fw.Env → O R} {fr : Fw.Env → O (List R)} {t t1 t2 : Fw.Env → O Bool} {g h : Fw.Env → Out} {d : D} {xs : List D} {s : Sl} {i j : Nat} {dd : R → R → Option R} {db : List R → Option R} {gg : List D → O R} {r : R} {rs : List R}
@[simp] theorem e_var0v : fVar 0 (.val d :: es) = .ok (.val d) := rfl
@[simp] theorem e_var0b : fVar 0 (.brw d :: es) = .ok (nrm d) := rfl
@[simp] theorem e_var0o : fVar 0 (.own xs :: es) = .ok (.bor xs) := rfl
@[simp] theorem e_varS : fVar (i + 1) (s :: es) = fVar i es := rfl
@[simp] theorem e_c : fC d es = .ok (.val d) := rfl
@[simp] theorem e_nil : fNil es = .ok [] := rfl
@[simp] theorem e_yes : fYes es = .ok true := rfl
@[simp low] theorem e_cons : fCons fa fr es = (fa es).bind fun a => (fr es).bind fun r => .ok (a.fz :: r) := rfl
@[simp low] theorem e_bin : fBin dd fa fb es = (fa es).bind fun a => (fb es).bind fun b => O.of (dd a.fz b.fz) := rfl
@[simp low] theorem e_bi : fBi db fr es = (fr es).bind fun rs => O.of (db rs) := rfl
@[simp low] theorem e_test : fTest fa es = (fa es).bind fun r => r.fz.tst := rfl
@[simp low] theorem e_not : fNot t es = (t es).bind fun b => .ok (!b) := rfl
@[simp low] theorem e_and : fAnd t t2 es = (t es).bind fun b => if b then t2 es else .ok false := rfl
@[simp low] theorem e_or : fOr t t2 es = (t es).bind fun b => if b then .ok true else t2 es := rfl
@[simp low] theorem e_notV : fNotV fa es = (fa es).bind fun r => r.fz.tst.bind fun b => .ok (.val (.bl (!b))) := rfl
@[simp low] theorem e_if : fIf t fa fb es = (t es).bind fun c => if c then fa es else fb es := rfl
@[simp low] theorem e_call : fCall gg fr es = (fr es).bind fun rs => match gg (rs.map R.dat) with
  | .ok (.val d) => .ok (.val d)
  | .ok (.new xs) => .ok (.new xs)
  | .exc c fs => .exc c fs
  | _ => .no := rfl
@[simp low] theorem e_call0 : fCall0 gg fr es = (fr es).bind fun rs => match gg (rs.map R.dat) with
  | .ok (.val d) => .ok (.val d)
  | .ok (.new xs) => .ok (.new xs)
  | _ => .no := rfl
@[simp low] theorem e_lst : fLst fr es = (fr es).bind fun rs => match stoL rs with
  | some ds => if ds.length ≤ 100000 then .ok (.new ds) else .no
  | none => .no := rfl
@[simp low] theorem e_tup : fTup fr es = (fr es).bind fun rs => match stoL rs with
  | some ds => if ds.length ≤ 100000 then .ok (.val (.tup ds)) else .no
  | none => .no := rfl
@[simp low] theorem e_seq : gSeq g h es = (g es).seq h := rfl
@[simp] theorem e_next : gNext es = .nx es := rfl
@[simp low] theorem e_ifS : gIf t g h es = (t es).out es fun b => if b = true then g es else h es := rfl
@[simp low] theorem e_set {fz : Bool} : gSet i fz fa es = (fa es).out es fun r => match (if fz = true then r.fz else r) with
  | .val d => .nx (es.set i (.val d))
  | .brw d => .nx (es.set i (.brw d))
  | .new xs => .nx (es.set i (.own xs))
  | .bor _ => .no := rfl
@[simp low] theorem e_ret : gRet fa es = (fa es).out es fun r => match r with
  | .val d => .rt (.val d)
  | .new xs => .rt (.new xs)
  | .bor _ => .no
  | .brw _ => .no := rfl
@[simp low] theorem e_retV : gRetV i es = (fVar i es).out es fun r => match r with
  | .val d => .rt (.val d)
  | .new xs => .rt (.new xs)
  | .bor xs => .rt (.new xs)
  | .brw _ => .no := rfl
@[simp] theorem e_raise {c : Addr} : gRaise c es = .exc es c none := rfl
@[simp] theorem fz_v : R.fz (.val d) = .val d := rfl
@[simp] theorem fz_b : R.fz (.brw d) = .brw d := rfl
@[simp] theorem fz_n : R.fz (.new xs) = .val (.lst xs) := rfl
@[simp] theorem fz_o : R.fz (.bor xs) = .bor xs := rfl
@[simp] theorem fz_nrm : R.fz (nrm d) = nrm d := by
  unfold nrm
  cases flat d <;> rfl
@[simp] theorem dat_nrm : R.dat (nrm d) = d := by
  unfold nrm
  cases flat d <;> rfl
@[simp] theorem dat_v : R.dat (.val d) = d := rfl
@[simp] theorem dat_b : R.dat (.brw d) = d := rfl
@[simp] theorem dat_n : R.dat (.new xs) = .lst xs := rfl
@[simp] theorem dat_o : R.dat (.bor xs) = .lst xs := rfl
@[simp] theorem tst_b {b : Bool} : R.tst (.val (.bl b)) = .ok b := rfl
@[simp] theorem nrm_i {x : Int} : nrm (.int x) = .val (.int x) := rfl
@[simp] theorem nrm_s {x : List Nat} : nrm (.str x) = .val (.str x) := rfl
@[simp] theorem nrm_t {x : Bool} : nrm (.bl x) = .val (.bl x) := rfl
@[simp] theorem nrm_0 : nrm .non = .val .non := rfl
@[simp] theorem nrm_l : nrm (.lst xs) = .brw (.lst xs) := rfl
@[simp] theorem nrm_u : nrm (.tup xs) = .brw (.tup xs) := rfl
@[simp] theorem nrm_x {c : Addr} {ns : List Str} {ds : List D} : nrm (.ins c ns ds) = .brw (.ins c ns ds) := rfl
@[simp] theorem nrm_e {c : Addr} {ns : List Str} {ds : List D} : nrm (.exn c ns ds) = .brw (.exn c ns ds) := rfl
@[simp] theorem slot_v : R.slot (.val d) = some (.val d) := rfl
@[simp] theorem slot_b : R.slot (.brw d) = some (.brw d) := rfl
@[simp] theorem tg_nm : stTg (.nm i) r es = r.slot.map fun s => es.set i s := rfl
@[simp] theorem tg_2 {a b : D} : stTg (.tp [i, j]) (.val (.tup [a, b])) es = some ((es.set i (.val a)).set j (.val b)) := rfl
@[simp] theorem tg_3 {a b c : D} {k : Nat} : stTg (.tp [i, j, k]) (.val (.tup [a, b, c])) es = some (((es.set i (.val a)).set j (.val b)).set k (.val c)) := rfl
@[simp] theorem d_add {x y : Int} : dAdd (.val (.int x)) (.val (.int y)) = some (.val (.int (x + y))) := rfl
@[simp] theorem d_sub {x y : Int} : dSub (.val (.int x)) (.val (.int y)) = some (.val (.int (x - y))) := rfl
@[simp] theorem d_le {x y : Int} : dLe (.val (.int x)) (.val (.int y)) = some (.val (.bl (decide (x ≤ y)))) := rfl
@[simp] theorem d_lt {x y : Int} : dLt (.val (.int x)) (.val (.int y)) = some (.val (.bl (decide (x < y)))) := rfl
@[simp] theorem d_gt {x y : Int} : dGt (.val (.int x)) (.val (.int y)) = some (.val (.bl (decide (y < x)))) := rfl
@[simp] theorem d_ge {x y : Int} : dGe (.val (.int x)) (.val (.int y)) = some (.val (.bl (decide (y ≤ x)))) := rfl
@[simp] theorem d_eqi {x y : Int} : dEq (.val (.int x)) (.val (.int y)) = some (.val (.bl (x == y))) := eq_i x y
@[simp] theorem d_nei {x y : Int} : dNe (.val (.int x)) (.val (.int y)) = some (.val (.bl (!(x == y)))) := ne_i x y
@[simp] theorem O_ite {α : Type} {c : Prop} [Decidable c] {a b : O α} {β : Type} {f : α → O β} : (if c then a else b).bind f = if c then a.bind f else b.bind f := by split <;> rfl
@[simp] theorem O_itO {α : Type} {c : Prop} [Decidable c] {a b : O α} {es : Fw.Env} {f : α → Out} : (if c then a else b).out es f = if c then a.out es f else b.out es f := by split <;> rfl
@[simp] theorem O_itS {c : Prop} [Decidable c] {a b : Out} {g : Fw.Env → Out} : (if c then a else b).seq g = if c then a.seq g else b.seq g := by split <;> rfl
@[simp] theorem sto_nil : stoL [] = some [] := rfl
@[simp] theorem sto_v : stoL (.val d :: rs) = (stoL rs).map fun ds => d :: ds := by
  show (match (some d : Option D), stoL rs with | some d, some ds => some (d :: ds) | _, _ => none) = _
  cases stoL rs <;> rfl
end
/-! ### a def's value by its body's -/
theorem run0_rt {n : Nat} {b : Fw.Env → Out} {ds : List D} {e : Fw.Env} {r : R} (h0 : startE n ds = e) (h : b e = .rt r) : run0 n b ds = .ok r := by
  unfold run0; rw [h0, h]
theorem runX_rt {n : Nat} {b : Fw.Env → Out} {ds : List D} {e : Fw.Env} {r : R} (h0 : startE n ds = e) (h : b e = .rt r) : runX n b ds = .ok r := by
  unfold runX; rw [h0, h]
theorem runX_exc {n : Nat} {b : Fw.Env → Out} {ds : List D} {e e2 : Fw.Env} {c : Addr} {fs : Option (List Str × List D)} (h0 : startE n ds = e) (h : b e = .exc e2 c fs) : runX n b ds = .exc c fs := by
  unfold runX; rw [h0, h]
theorem run0F_rt {n : Nat} {b : Fw.Env → Out} {ds : List D} {e : Fw.Env} {r : R} (h0 : startF n ds = e) (h : b e = .rt r) : run0F n b ds = .ok r := by
  unfold run0F; rw [h0, h]
/-! ### loops -/
/-- a loop over items that are made from xs, by an invariant on what is left -/
theorem for_inv {α : Type} {t : Tg} {body : Fw.Env → Out} {r : α → R} (I : List α → Fw.Env → Prop) (hb : ∀ a xs es, I (a :: xs) es → ∃ e1, stTg t (r a) es = some e1 ∧ ∃ e2, body e1 = .nx e2 ∧ I xs e2) :
    ∀ (xs : List α) (es : Fw.Env), I xs es → ∃ e2, forL t body (xs.map r) es = .nx e2 ∧ I [] e2
  | [], es, h => ⟨es, rfl, h⟩
  | a :: xs, es, h => by
    obtain ⟨e1, h1, e2, h2, h3⟩ := hb a xs es h
    obtain ⟨e3, h4, h5⟩ := for_inv I hb xs e2 h3
    refine ⟨e3, ?_, h5⟩
    rw [List.map_cons, forL, h1]
    simp only [h2]
    exact h4
/-- a loop that goes through, or ends by a return where p fails -/
theorem for_all {α : Type} {t : Tg} {body : Fw.Env → Out} {r : α → R} {v : R} (I : Fw.Env → Prop) (p : α → Bool) (hb : ∀ a es, I es → ∃ e1, stTg t (r a) es = some e1 ∧ (p a = true → ∃ e2, body e1 = .nx e2 ∧ I e2) ∧ (p a = false → body e1 = .rt v)) :
    ∀ (xs : List α) (es : Fw.Env), I es → (xs.all p = true → ∃ e2, forL t body (xs.map r) es = .nx e2 ∧ I e2) ∧ (xs.all p = false → forL t body (xs.map r) es = .rt v)
  | [], es, h => ⟨fun _ => ⟨es, rfl, h⟩, fun z => by cases z⟩
  | a :: xs, es, h => by
    obtain ⟨e1, h1, h2, h3⟩ := hb a es h
    cases hp : p a with
    | true =>
      obtain ⟨e2, h4, h5⟩ := h2 hp
      obtain ⟨i1, i2⟩ := for_all I p hb xs e2 h5
      rw [List.all_cons, hp, Bool.true_and, List.map_cons, forL, h1]
      simp only [h4]
      exact ⟨i1, i2⟩
    | false =>
      refine ⟨fun z => by simp [hp] at z, fun _ => ?_⟩
      rw [List.map_cons, forL, h1]
      simp only [h3 hp]
theorem lcL_map {α : Type} {t : Tg} {cond : Fw.Env → O Bool} {elt : Fw.Env → O R} {es : Fw.Env} {r : α → R} (p : α → Bool) (f : α → D) :
    ∀ xs : List α, (∀ a ∈ xs, ∃ e1, stTg t (r a) es = some e1 ∧ cond e1 = .ok (p a) ∧ (p a = true → ∃ q, elt e1 = .ok q ∧ q.fz.sto = some (f a))) → lcL t cond elt es (xs.map r) = .ok ((xs.filter p).map f) := by
  intro ys
  induction ys with
  | nil => intro _; rfl
  | cons a ys ih =>
    intro h
    obtain ⟨e1, h1, h2, h3⟩ := h a (by simp)
    rw [List.map_cons, lcL, h1]
    simp only [h2, noX, O.bind_ok]
    have ih' := ih fun b hb => h b (by simp [hb])
    cases hp : p a with
    | true =>
      obtain ⟨q, h4, h5⟩ := h3 hp
      simp only [if_true, h4, noX, O.bind_ok, h5, ih', List.filter_cons, hp, List.map_cons]
    | false =>
      simp only [Bool.false_eq_true, if_false, ih', List.filter_cons, hp]
/-- a comprehension over items made from xs -/
theorem lc_map {α : Type} {src : Fw.Env → O (List R)} {vs : List Nat} {t : Tg} {cond : Fw.Env → O Bool} {elt : Fw.Env → O R} {es : Fw.Env} {r : α → R} {xs : List α} (p : α → Bool) (f : α → D) (hs : src es = .ok (xs.map r)) (hn : xs.length ≤ 90000)
    (h : ∀ a ∈ xs, ∃ e1, stTg t (r a) (wipeE es vs) = some e1 ∧ cond e1 = .ok (p a) ∧ (p a = true → ∃ q, elt e1 = .ok q ∧ q.fz.sto = some (f a))) : fLc src vs t cond elt es = .ok (.new ((xs.filter p).map f)) := by
  unfold fLc
  rw [hs, O.bind_ok, if_pos (by simpa using hn), lcL_map p f xs h]
  rfl
end Fw
/-! Terms, good ones and whole ones, as lists of signs. -/
namespace Mt
open PySem PySem.Spec PyProof.Rows L2 Fw
def clean (off : List Nat) (s : List Nat) : Bool := !(off.any fun n => agB n 0 s)
def bars (s : List Nat) : List Nat := (List.range s.length).filter fun k => !([s.getD k 0] == [45])
def wids (s : List Nat) : List (List Nat) := (bars s).map fun k => put s k 45
def whole (off : List Nat) (s : List Nat) : Bool := clean off s && !((wids s).any (clean off))
def allT : Nat → List (List Nat)
  | 0 => [[]]
  | n + 1 => (allT n).flatMap fun t => [45, 48, 49].map fun c => t ++ [c]
def lawT : Nat → List (List Nat)
  | 0 => [[]]
  | n + 1 => (lawT n).map (· ++ [48]) ++ (lawT n).map (· ++ [49]) ++ (lawT n).map (· ++ [45])
theorem tm_snoc {n : Nat} {t : List Nat} : Tm (n + 1) t ↔ ∃ u c, t = u ++ [c] ∧ Tm n u ∧ (c = 48 ∨ c = 49 ∨ c = 45) := by
  constructor
  · rintro ⟨h1, h2⟩
    have hne : t ≠ [] := fun z => by subst z; simp at h1
    have e : t.dropLast ++ [t.getLast hne] = t := List.dropLast_concat_getLast hne
    refine ⟨t.dropLast, t.getLast hne, e.symm, ⟨by simp [h1], fun c hc => h2 c (by rw [← e]; exact List.mem_append_left _ hc)⟩, h2 _ (List.getLast_mem hne)⟩
  · rintro ⟨u, c, rfl, ⟨h1, h2⟩, hc⟩
    refine ⟨by simp [h1], fun d hd => ?_⟩
    rcases List.mem_append.mp hd with h | h
    · exact h2 d h
    · simp only [List.mem_singleton] at h
      subst h; exact hc
theorem mem_allT {n : Nat} : ∀ {t : List Nat}, t ∈ allT n ↔ Tm n t := by
  induction n with
  | zero =>
    intro t
    simp only [allT, List.mem_singleton]
    constructor
    · rintro rfl; exact ⟨rfl, fun c hc => by cases hc⟩
    · rintro ⟨h, _⟩; exact List.eq_nil_of_length_eq_zero h
  | succ n ih =>
    intro t
    rw [tm_snoc, allT]
    simp only [List.mem_flatMap, List.mem_map, List.mem_cons, List.not_mem_nil, or_false]
    constructor
    · rintro ⟨u, hu, c, hc, rfl⟩
      exact ⟨u, c, rfl, ih.mp hu, by omega⟩
    · rintro ⟨u, c, rfl, hu, hc⟩
      exact ⟨u, ih.mpr hu, c, by omega, rfl⟩
theorem mem_lawT {n : Nat} : ∀ {t : List Nat}, t ∈ lawT n ↔ Tm n t := by
  induction n with
  | zero =>
    intro t
    simp only [lawT, List.mem_singleton]
    constructor
    · rintro rfl; exact ⟨rfl, fun c hc => by cases hc⟩
    · rintro ⟨h, _⟩; exact List.eq_nil_of_length_eq_zero h
  | succ n ih =>
    intro t
    rw [tm_snoc, lawT]
    simp only [List.mem_append, List.mem_map]
    constructor
    · rintro ((⟨u, hu, rfl⟩ | ⟨u, hu, rfl⟩) | ⟨u, hu, rfl⟩)
      · exact ⟨u, 48, rfl, ih.mp hu, by omega⟩
      · exact ⟨u, 49, rfl, ih.mp hu, by omega⟩
      · exact ⟨u, 45, rfl, ih.mp hu, by omega⟩
    · rintro ⟨u, c, rfl, hu, rfl | rfl | rfl⟩
      · exact .inl (.inl ⟨u, ih.mpr hu, rfl⟩)
      · exact .inl (.inr ⟨u, ih.mpr hu, rfl⟩)
      · exact .inr ⟨u, ih.mpr hu, rfl⟩
theorem lt_snoc : ∀ {a b u v : List Nat}, a.length = b.length → ltCps a b = true → ltCps (a ++ u) (b ++ v) = true
  | [], [], _, _, _, h => by simp [ltCps] at h
  | [], _ :: _, _, _, h, _ => by simp at h
  | _ :: _, [], _, _, h, _ => by simp at h
  | x :: a, y :: b, u, v, h, h2 => by
    simp only [ltCps, Bool.or_eq_true, Bool.and_eq_true, decide_eq_true_eq, beq_iff_eq, List.cons_append] at h2 ⊢
    rcases h2 with h2 | ⟨h2, h3⟩
    · exact .inl h2
    · exact .inr ⟨h2, lt_snoc (by simpa using h) h3⟩
theorem lt_last : ∀ (a : List Nat) {c d : Nat}, c < d → ltCps (a ++ [c]) (a ++ [d]) = true
  | [], c, d, h => by simp [ltCps, h]
  | x :: a, c, d, h => by simp [ltCps, lt_last a h]
theorem sorted_allT : ∀ n, (allT n).Pairwise fun a b => ltCps a b = true
  | 0 => List.pairwise_singleton _ _
  | n + 1 => by
    rw [allT, List.pairwise_flatMap]
    refine ⟨fun t _ => ?_, (List.Pairwise.and_mem.mp (sorted_allT n)).imp fun {a b} h x hx y hy => ?_⟩
    · simp only [List.map_cons, List.map_nil, List.pairwise_cons, List.mem_cons, List.not_mem_nil, or_false, forall_eq_or_imp, forall_eq]
      exact ⟨⟨lt_last t (by omega), lt_last t (by omega)⟩, lt_last t (by omega), by simp⟩
    · obtain ⟨ha, hb, h⟩ := h
      simp only [List.mem_map] at hx hy
      obtain ⟨c, _, rfl⟩ := hx
      obtain ⟨d, _, rfl⟩ := hy
      exact lt_snoc (by rw [(mem_allT.mp ha).1, (mem_allT.mp hb).1]) h
theorem nodup_allT (n : Nat) : (allT n).Nodup := (sorted_allT n).imp fun {a b} h e => by
  subst e
  rw [lt_irr] at h; cases h
theorem nodup_lawT : ∀ n, (lawT n).Nodup
  | 0 => by simp [lawT]
  | n + 1 => by
    have ih := nodup_lawT n
    have inj : ∀ c : Nat, ((lawT n).map (· ++ [c])).Nodup := fun c => ih.map (fun x : List Nat => x ++ [c]) (fun a b hab z => hab (by simpa using z))
    rw [lawT, List.nodup_append, List.nodup_append]
    refine ⟨⟨inj 48, inj 49, fun a ha b hb z => ?_⟩, inj 45, fun a ha b hb z => ?_⟩
    · simp only [List.mem_map] at ha hb
      obtain ⟨u, _, rfl⟩ := ha
      obtain ⟨v, _, rfl⟩ := hb
      have := congrArg List.getLast? z
      simp at this
    · simp only [List.mem_append, List.mem_map] at ha hb
      obtain ⟨v, _, rfl⟩ := hb
      rcases ha with ⟨u, _, rfl⟩ | ⟨u, _, rfl⟩
      · have := congrArg List.getLast? z
        simp at this
      · have := congrArg List.getLast? z
        simp at this
theorem perm_T (n : Nat) : (allT n).Perm (lawT n) := (List.perm_ext_iff_of_nodup (nodup_allT n) (nodup_lawT n)).mpr fun a => by rw [mem_allT, mem_lawT]
theorem sort_T (n : Nat) (p : List Nat → Bool) : sortS ((lawT n).filter p) = (allT n).filter p := by
  refine (sortB_uniq leS_tot leS_tr leS_an ((perm_T n).filter p) ?_).symm
  exact ((sorted_allT n).filter p).imp fun {a b} h => by unfold leS; rw [lt_asym a b h]; rfl
theorem put_tm {n k : Nat} {s : List Nat} (h : Tm n s) (hk : k < n) : Tm n (put s k 45) := ⟨by rw [put_len (by rw [h.1]; exact hk), h.1], put_sg45 h.2⟩
theorem bars_lt {s : List Nat} {k : Nat} (h : k ∈ bars s) : k < s.length := List.mem_range.mp (List.mem_filter.mp h).1
theorem wids_tm {n : Nat} {s w : List Nat} (h : Tm n s) (hw : w ∈ wids s) : Tm n w := by
  obtain ⟨k, hk, rfl⟩ := List.mem_map.mp hw
  exact put_tm h (by rw [← h.1]; exact bars_lt hk)
/-- the law's own way to the whole terms -/
theorem ends_law {n : Nat} (off : List Nat) : ((lawT n).filter (clean off)).filter (fun t => !((wids t).any fun w => ((lawT n).filter (clean off)).any fun g => g == w)) = (lawT n).filter (whole off) := by
  rw [List.filter_filter]
  apply List.filter_congr
  intro t ht
  unfold whole
  rw [Bool.and_comm]
  congr 2
  rw [Bool.eq_iff_iff, List.any_eq_true, List.any_eq_true]
  constructor
  · rintro ⟨w, hw, h⟩
    obtain ⟨g, hg, e⟩ := List.any_eq_true.mp h
    rw [beq_iff_eq] at e
    subst e
    exact ⟨g, hw, (List.mem_filter.mp hg).2⟩
  · rintro ⟨w, hw, h⟩
    exact ⟨w, hw, List.any_eq_true.mpr ⟨w, List.mem_filter.mpr ⟨mem_lawT.mpr (wids_tm (mem_lawT.mp ht) hw), h⟩, by simp⟩⟩
theorem any_whole {n : Nat} (off : List Nat) {t : List Nat} (h : Tm n t) : (((allT n).filter (whole off)).any fun g => g == t) = whole off t := by
  rw [Bool.eq_iff_iff, List.any_eq_true]
  constructor
  · rintro ⟨g, hg, e⟩
    rw [beq_iff_eq] at e
    subst e
    exact (List.mem_filter.mp hg).2
  · intro e
    exact ⟨t, List.mem_filter.mpr ⟨mem_allT.mpr h, e⟩, by simp⟩
theorem len_allT : ∀ n, (allT n).length = 3 ^ n
  | 0 => rfl
  | n + 1 => by
    rw [allT, List.length_flatMap]
    simp only [List.length_map, List.length_cons, List.length_nil]
    have : ∀ l : List (List Nat), (l.map fun _ => 0 + 1 + 1 + 1).sum = l.length * 3 := fun l => by
      induction l with
      | nil => rfl
      | cons a l ih => simp [ih]; omega
    rw [this, len_allT n, Nat.pow_succ]
theorem len_lawT : ∀ n, (lawT n).length = 3 ^ n
  | 0 => rfl
  | n + 1 => by
    rw [lawT, List.length_append, List.length_append, List.length_map, List.length_map, List.length_map, len_lawT n, Nat.pow_succ]; omega
end Mt
namespace Mt
open PySem PySem.Spec PyProof.Rows L2 Fw
/-! ### growing -/
theorem put_set {s : List Nat} {k c : Nat} (h : k < s.length) : put s k c = s.set k c := by
  unfold put
  rw [List.set_eq_take_append_cons_drop, if_pos h, List.append_assoc]; rfl
theorem agB_iff (n : Nat) : ∀ (k : Nat) (s : List Nat), agB n k s = true ↔ ∀ i, i < s.length → okS n (k + i) (s.getD i 0) = true
  | k, [] => by simp [agB]
  | k, c :: s => by
    rw [agB, Bool.and_eq_true, agB_iff n (k + 1) s]
    constructor
    · rintro ⟨h1, h2⟩ i hi
      cases i with
      | zero => simpa using h1
      | succ i =>
        have := h2 i (by simpa using hi)
        rw [show k + 1 + i = k + (i + 1) by omega] at this
        simpa using this
    · intro h
      refine ⟨by simpa using h 0 (by simp), fun i hi => ?_⟩
      have := h (i + 1) (by simpa using hi)
      rw [show k + 1 + i = k + (i + 1) by omega]
      simpa using this
theorem put_at {s : List Nat} {k i c : Nat} (h : k < s.length) : (put s k c).getD i 0 = if i = k then c else s.getD i 0 := by
  rw [put_set h]
  simp only [List.getD_eq_getElem?_getD, List.getElem?_set]
  by_cases e : k = i
  · subst e; simp [h]
  · rw [if_neg e, if_neg (Ne.symm e)]
theorem okS45 (n k : Nat) : okS n k 45 = true := by simp [okS]
theorem ag_wide {n k : Nat} {s : List Nat} (h : agB n 0 s = true) (hk : k < s.length) : agB n 0 (put s k 45) = true := by
  rw [agB_iff] at h ⊢
  intro i hi
  rw [put_len hk] at hi
  rw [put_at hk]
  split
  · exact okS45 _ _
  · exact h i hi
theorem put_comm {s : List Nat} {i k : Nat} (hi : i < s.length) (hk : k < s.length) : put (put s i 45) k 45 = put (put s k 45) i 45 := by
  rw [put_set (by rw [put_len hi]; exact hk), put_set hi, put_set (by rw [put_len hk]; exact hi), put_set hk]
  by_cases e : i = k
  · subst e; rfl
  · exact List.set_comm _ _ e
theorem clean_wide {off : List Nat} {s : List Nat} {k : Nat} (hk : k < s.length) (h : clean off (put s k 45) = true) : clean off s = true := by
  unfold clean at h ⊢
  simp only [Bool.not_eq_true', List.any_eq_false] at h ⊢
  intro n hn z
  exact h n hn (ag_wide z hk)
def grow (off : List Nat) : Nat → List Nat → List Nat
  | 0, s => s
  | i + 1, s => if clean off (put (grow off i s) i 45) = true then put (grow off i s) i 45 else grow off i s
theorem grow_tm {off : List Nat} {n : Nat} {s : List Nat} (h : Tm n s) : ∀ {i : Nat}, i ≤ n → Tm n (grow off i s)
  | 0, _ => h
  | i + 1, hi => by
    have ih := grow_tm (off := off) h (i := i) (by omega)
    unfold grow
    split
    · exact put_tm ih (by omega)
    · exact ih
theorem grow_clean {off : List Nat} {s : List Nat} (h : clean off s = true) : ∀ i, clean off (grow off i s) = true
  | 0 => h
  | i + 1 => by
    unfold grow
    split
    · assumption
    · exact grow_clean h i
theorem grow_bar {off : List Nat} {n : Nat} {s : List Nat} (h : Tm n s) : ∀ {i : Nat}, i ≤ n → ∀ k, k < i → (grow off i s).getD k 0 = 45 ∨ clean off (put (grow off i s) k 45) = false
  | 0, _, k, hk => by omega
  | i + 1, hi, k, hk => by
    have ht := grow_tm (off := off) h (i := i) (by omega)
    have hl : i < (grow off i s).length := by rw [ht.1]; omega
    unfold grow
    split
    · rename_i hc
      by_cases e : k = i
      · subst e
        left
        rw [put_at hl, if_pos rfl]
      · have hk2 : k < i := by omega
        rcases grow_bar h (by omega) k hk2 with g | g
        · left
          rw [put_at hl, if_neg e]; exact g
        · right
          cases z : clean off (put (put (grow off i s) i 45) k 45) with
          | false => rfl
          | true =>
            rw [put_comm hl (by omega)] at z
            have := clean_wide (by rw [put_len (by omega)]; omega) z
            rw [g] at this; cases this
    · rename_i hc
      by_cases e : k = i
      · subst e
        right
        simpa using hc
      · exact grow_bar h (by omega) k (by omega)
theorem grow_whole {off : List Nat} {n : Nat} {s : List Nat} (h : Tm n s) (hc : clean off s = true) : whole off (grow off n s) = true := by
  unfold whole
  rw [grow_clean hc, Bool.true_and, Bool.not_eq_true', List.any_eq_false]
  intro w hw
  obtain ⟨k, hk, rfl⟩ := List.mem_map.mp hw
  have ht := grow_tm (off := off) h (Nat.le_refl n)
  have hk' : k < n := by rw [← ht.1]; exact bars_lt hk
  have hb := (List.mem_filter.mp hk).2
  rcases grow_bar (off := off) h (Nat.le_refl n) k hk' with g | g
  · rw [g] at hb; simp at hb
  · rw [g]; simp
end Mt
namespace Mt
open Fw
/-! ### telling and trimming, by settings -/
def told (on : List Nat) (ts : List (List Nat)) : Bool := on.all fun n => ts.any fun t => agB n 0 t
def trimP (p : List (List Nat) → Bool) : List (List Nat) → List (List Nat) → List (List Nat)
  | K, [] => K
  | K, t :: R => if p (K ++ R) = true then trimP p K R else trimP p (K ++ [t]) R
def tally (n : Nat) (ts : List (List Nat)) : Int := ((ts.filter fun t => agB n 0 t).length : Nat)
theorem tally_app (n : Nat) (a b : List (List Nat)) : tally n (a ++ b) = tally n a + tally n b := by
  unfold tally; rw [List.filter_append, List.length_append]; omega
theorem tally_one (n : Nat) (t : List Nat) : tally n [t] = if agB n 0 t = true then 1 else 0 := by
  unfold tally
  cases h : agB n 0 t <;> simp [List.filter, h]
theorem tally_pos {n : Nat} {ts : List (List Nat)} : 0 < tally n ts ↔ (ts.any fun t => agB n 0 t) = true := by
  unfold tally
  rw [List.any_eq_true]
  constructor
  · intro h
    have : 0 < (ts.filter fun t => agB n 0 t).length := by omega
    obtain ⟨t, ht⟩ := List.exists_mem_of_length_pos this
    exact ⟨t, (List.mem_filter.mp ht).1, (List.mem_filter.mp ht).2⟩
  · rintro ⟨t, h1, h2⟩
    exact Int.natCast_pos.mpr (List.length_pos_of_mem (List.mem_filter.mpr ⟨h1, h2⟩))
/-- by counts: a term can go where each of its settings is told twice -/
theorem go_iff {on : List Nat} {K R : List (List Nat)} {t : List Nat} (h : told on (K ++ t :: R) = true) : ((on.filter fun n => agB n 0 t).all fun n => decide (1 < tally n (K ++ t :: R))) = told on (K ++ R) := by
  have e : ∀ n, tally n (K ++ t :: R) = tally n (K ++ R) + (if agB n 0 t = true then 1 else 0) := fun n => by
    rw [tally_app, show t :: R = [t] ++ R from rfl, tally_app, tally_app, tally_one]; omega
  rw [Bool.eq_iff_iff]
  unfold told at h ⊢
  rw [List.all_eq_true] at h
  rw [List.all_eq_true, List.all_eq_true]
  constructor
  · intro g n hn
    rw [← tally_pos]
    have h1 := tally_pos.mpr (h n hn)
    have h2 := e n
    by_cases ha : agB n 0 t = true
    · have := g n (List.mem_filter.mpr ⟨hn, ha⟩)
      rw [if_pos ha] at h2
      have := of_decide_eq_true this
      omega
    · rw [if_neg ha] at h2
      omega
  · intro g n hn
    obtain ⟨h1, h2⟩ := List.mem_filter.mp hn
    have := tally_pos.mpr (g n h1)
    have h3 := e n
    rw [if_pos h2] at h3
    exact decide_eq_true (by omega)
theorem trim_len (p : List (List Nat) → Bool) : ∀ (R K : List (List Nat)), (trimP p K R).length ≤ K.length + R.length
  | [], K => by simp [trimP]
  | t :: R, K => by
    unfold trimP
    split
    · have := trim_len p R K; simp; omega
    · have := trim_len p R (K ++ [t]); simp at this ⊢; omega
theorem trim_mem (p : List (List Nat) → Bool) : ∀ (R K : List (List Nat)) (x : List Nat), x ∈ trimP p K R → x ∈ K ∨ x ∈ R
  | [], K, x, h => Or.inl (by simpa [trimP] using h)
  | t :: R, K, x, h => by
    unfold trimP at h
    split at h
    · rcases trim_mem p R K x h with h | h
      · exact Or.inl h
      · exact Or.inr (by simp [h])
    · rcases trim_mem p R (K ++ [t]) x h with h | h
      · rcases List.mem_append.mp h with h | h
        · exact Or.inl h
        · exact Or.inr (by simp at h; simp [h])
      · exact Or.inr (by simp [h])
theorem told_perm {a b : List Nat} (h : a.Perm b) (ts : List (List Nat)) : told a ts = told b ts := by
  unfold told
  rw [Bool.eq_iff_iff, List.all_eq_true, List.all_eq_true]
  exact ⟨fun g n hn => g n (h.mem_iff.mpr hn), fun g n hn => g n (h.mem_iff.mp hn)⟩
end Mt
namespace Fw
/-! ### dicts of counts -/
theorem kHas_put : ∀ (ks : List DK) (k : DK), kHas (kPutK ks k) k = true := by
  intro ks k
  unfold kPutK
  split
  · assumption
  · have : ∀ ks : List DK, kHas (ks ++ [k]) k = true := fun ks => by
      induction ks with
      | nil => simp [kHas]
      | cons a ks ih => simp [kHas, ih]
    exact this ks
theorem kGet_rep : ∀ (ks : List DK) (ds : List D) (k k' : DK) (x : D), ks.length = ds.length → kGet ks (kRep ks ds k x) k' = if k = k' then (if kHas ks k = true then some x else none) else kGet ks ds k'
  | [], ds, k, k', x, h => by
    cases ds with
    | nil => simp [kGet, kHas, kRep]
    | cons a b => simp at h
  | a :: ks, [], k, k', x, h => by simp at h
  | a :: ks, d :: ds, k, k', x, h => by
    have ih := kGet_rep ks ds k k' x (by simpa using h)
    rw [kRep, kGet]
    by_cases e : a = k'
    · subst e
      rw [if_pos rfl]
      by_cases e2 : a = k
      · subst e2; simp [kHas]
      · rw [if_neg e2, if_neg (Ne.symm e2), kGet, if_pos rfl]
    · rw [if_neg e, ih]
      by_cases e2 : k = k'
      · subst e2
        rw [if_pos rfl, if_pos rfl, kHas]
        simp [e]
      · rw [if_neg e2, if_neg e2, kGet, if_neg e]
theorem kGet_app : ∀ (ks : List DK) (ds : List D) (k k' : DK) (x : D), ks.length = ds.length → kHas ks k = false → kGet (ks ++ [k]) (ds ++ [x]) k' = if k = k' then some x else kGet ks ds k'
  | [], ds, k, k', x, h, hh => by
    cases ds with
    | nil =>
      simp only [List.nil_append, kGet]
    | cons a b => simp at h
  | a :: ks, [], k, k', x, h, hh => by simp at h
  | a :: ks, d :: ds, k, k', x, h, hh => by
    simp only [kHas, Bool.or_eq_false_iff, decide_eq_false_iff_not] at hh
    have ih := kGet_app ks ds k k' x (by simpa using h) hh.2
    rw [List.cons_append, List.cons_append, kGet, kGet, ih]
    by_cases e : a = k'
    · subst e
      rw [if_pos rfl, if_pos rfl, if_neg (Ne.symm hh.1)]
    · rw [if_neg e, if_neg e]
theorem kGet_put {ks : List DK} {ds : List D} {k k' : DK} {x : D} (h : ks.length = ds.length) : kGet (kPutK ks k) (kPutD ks ds k x) k' = if k = k' then some x else kGet ks ds k' := by
  unfold kPutK kPutD
  by_cases e : kHas ks k = true
  · rw [if_pos e, if_pos e, kGet_rep _ _ _ _ _ h, if_pos e]
  · rw [if_neg e, if_neg e, kGet_app _ _ _ _ _ h (by simpa using e)]
theorem kPut_len {ks : List DK} {ds : List D} {k : DK} {x : D} (h : ks.length = ds.length) : (kPutK ks k).length = (kPutD ks ds k x).length := by
  unfold kPutK kPutD
  split
  · rw [kRep_len, h]
  · simp [h]
theorem kGet_has : ∀ {ks : List DK} {ds : List D} {k : DK} {x : D}, kGet ks ds k = some x → kHas ks k = true
  | [], ds, k, x, h => by cases ds <;> simp [kGet] at h
  | a :: ks, [], k, x, h => by simp [kGet] at h
  | a :: ks, d :: ds, k, x, h => by
    rw [kGet] at h
    rw [kHas]
    by_cases e : a = k
    · simp [e]
    · rw [if_neg e] at h; simp [kGet_has h]
/-- a slot's dict of counts -/
structure Cts (on : List Nat) (c : Nat → Int) (ks : List DK) (ds : List D) : Prop where
  len : ks.length = ds.length
  few : ks.length ≤ on.length
  at_ : ∀ n ∈ on, kGet ks ds (.inl (n : Int)) = some (.int (c n))
theorem Cts.cong {on : List Nat} {c c' : Nat → Int} {ks : List DK} {ds : List D} (h : Cts on c ks ds) (e : ∀ n ∈ on, c n = c' n) : Cts on c' ks ds := ⟨h.len, h.few, fun n hn => by rw [h.at_ n hn, e n hn]⟩
theorem Cts.put {on : List Nat} {c : Nat → Int} {ks : List DK} {ds : List D} (h : Cts on c ks ds) {n : Nat} (hn : n ∈ on) (x : Int) : Cts on (fun k => if k = n then x else c k) (kPutK ks (.inl (n : Int))) (kPutD ks ds (.inl (n : Int)) (.int x)) := by
  have e : kPutK ks (.inl (n : Int)) = ks := by
    unfold kPutK
    rw [if_pos (kGet_has (h.at_ n hn))]
  refine ⟨kPut_len h.len, by rw [e]; exact h.few, fun k hk => ?_⟩
  rw [kGet_put h.len]
  by_cases z : k = n
  · subst z; simp
  · have : ¬ (Sum.inl (n : Int) : DK) = .inl (k : Int) := fun w => z (by have := Sum.inl.inj w; omega)
    rw [if_neg this, h.at_ k hk, if_neg z]
end Fw
namespace K02
open PySem PySem.Spec PyProof.Rows L2 Fw
noncomputable section
/- slots: 0 many -/
def b_all_settings (cl : Cl) : Fw.Env → Out := (gRet (fLRg1 (fBin dShl (fC (.int 1)) (fVar 0))))
def g_all_settings (cl : Cl) : List D → O R := run0 1 (b_all_settings cl)
/- slots: 0 thing -/
def b_is_count (cl : Cl) : Fw.Env → Out := (gRet (fAndV (fBin dIs (fBi dType (fCons (fVar 0) fNil)) (fC (.ty "int"))) (fChain dLe dLe (fC (.int 1)) (fVar 0) (fC (.int 5)))))
def g_is_count (cl : Cl) : List D → O R := run0 1 (b_is_count cl)
/- slots: 0 thing, 1 many -/
def b_is_setting (cl : Cl) : Fw.Env → Out := (gRet (fAndV (fBin dIs (fBi dType (fCons (fVar 0) fNil)) (fC (.ty "int"))) (fChain dLe dLt (fC (.int 0)) (fVar 0) (fBin dShl (fC (.int 1)) (fVar 1)))))
def g_is_setting (cl : Cl) : List D → O R := run0 2 (b_is_setting cl)
/- slots: 0 rows, 1 many, 2 row -/
def b_rising_settings (cl : Cl) : Fw.Env → Out := (gSeq (gIf (fTest (fBin dNis (fBi dType (fCons (fVar 0) fNil)) (fC (.ty "list")))) (gRaise (cl.at_ "BadRows")) gNext)
    (gSeq (gFor (fIt true (fVar 0)) (.nm 2) (gIf (fNot (fTest (fCall0 (g_is_setting cl) (fCons (fVar 2) (fCons (fVar 1) fNil))))) (gRaise (cl.at_ "BadRows")) gNext))
    (gSeq (gIf (fTest (fBin dNe (fLenSet (fVar 0)) (fBi dLen (fCons (fVar 0) fNil)))) (gRaise (cl.at_ "BadRows")) gNext)
    (gRet (fBi dSortedL (fCons (fVar 0) fNil))))))
def g_rising_settings (cl : Cl) : List D → O R := runX 3 (b_rising_settings cl)
/- slots: 0 self, 1 many, 2 on, 3 free, 4 told, 5 setting -/
def b_Saying___init (cl : Cl) (x : Addr) : Fw.Env → Out := (gSeq (gIf (fNot (fTest (fCall0 (g_is_count cl) (fCons (fVar 1) fNil)))) (gRaise (cl.at_ "BadCount")) gNext)
    (gSeq (gFld x (cl.at_ "Saying") "_many" (fVar 1))
    (gSeq (gFld x (cl.at_ "Saying") "_on" (fCall (g_rising_settings cl) (fCons (fVar 2) (fCons (fVar 1) fNil))))
    (gSeq (gFld x (cl.at_ "Saying") "_free" (fIf (fTest (fBin dIs (fVar 3) (fC .non))) (fLst fNil) (fCall (g_rising_settings cl) (fCons (fVar 3) (fCons (fVar 1) fNil)))))
    (gSeq (gSet 4 true (fBin dAdd (fFld "_on" (cl.at_ "Saying") (fVar 0)) (fFld "_free" (cl.at_ "Saying") (fVar 0))))
    (gSeq (gIf (fTest (fBin dNe (fLenSet (fVar 4)) (fBi dLen (fCons (fVar 4) fNil)))) (gRaise (cl.at_ "BadRows")) gNext)
    (gFld x (cl.at_ "Saying") "_off" (fLc (fIt false (fCall0 (g_all_settings cl) (fCons (fVar 1) fNil))) [5] (.nm 5) (fTest (fBin dNin (fVar 5) (fVar 4))) (fVar 5)))))))))
def g_Saying___init (cl : Cl) : Addr → List D → O R := runI (cl.at_ "Saying") 6 (b_Saying___init cl)
open Classical in
def mk_Saying (cl : Cl) (ds : List D) : O R := if (∀ y, g_Saying___init cl y ds = g_Saying___init cl 0 ds) then g_Saying___init cl 0 ds else .no
/- slots: 0 setting, 1 lamp -/
def b_is_lit (cl : Cl) : Fw.Env → Out := (gRet (fBin dEq (fBin dAnd (fBin dShr (fVar 0) (fVar 1)) (fC (.int 1))) (fC (.int 1))))
def g_is_lit (cl : Cl) : List D → O R := run0 2 (b_is_lit cl)
/- slots: 0 setting, 1 lamp -/
def b_sign_at (cl : Cl) : Fw.Env → Out := (gRet (fIf (fTest (fCall0 (g_is_lit cl) (fCons (fVar 0) (fCons (fVar 1) fNil)))) (fC (.str [49])) (fC (.str [48]))))
def g_sign_at (cl : Cl) : List D → O R := run0 2 (b_sign_at cl)
/- slots: 0 term, 1 setting, 2 lamp, 3 sign -/
def b_has (cl : Cl) : Fw.Env → Out := (gSeq (gFor (fEnum true (fCons (fVar 0) fNil)) (.tp [2, 3]) (gIf (fAnd (fTest (fBin dNe (fVar 3) (fC (.str [45])))) (fTest (fBin dNe (fVar 3) (fCall0 (g_sign_at cl) (fCons (fVar 1) (fCons (fVar 2) fNil)))))) (gRet (fC (.bl false))) gNext))
    (gRet (fC (.bl true))))
def g_has (cl : Cl) : List D → O R := run0 4 (b_has cl)
/- slots: 0 thing, 1 many -/
def b_is_term (cl : Cl) : Fw.Env → Out := (gSeq (gIf (fOr (fTest (fBin dNis (fBi dType (fCons (fVar 0) fNil)) (fC (.ty "str")))) (fTest (fBin dNe (fBi dLen (fCons (fVar 0) fNil)) (fVar 1)))) (gRet (fC (.bl false))) gNext)
    (gRet (fAllG (inT [45, 48, 49]) (fVar 0))))
def g_is_term (cl : Cl) : List D → O R := run0 2 (b_is_term cl)
/- slots: 0 self, 1 term, 2 setting -/
def b_Saying_is_good (cl : Cl) : Fw.Env → Out := (gSeq (gIf (fNot (fTest (fCall0 (g_is_term cl) (fCons (fVar 1) (fCons (fFld "_many" (cl.at_ "Saying") (fVar 0)) fNil))))) (gRaise (cl.at_ "BadTerm")) gNext)
    (gSeq (gFor (fIt true (fFld "_off" (cl.at_ "Saying") (fVar 0))) (.nm 2) (gIf (fTest (fCall0 (g_has cl) (fCons (fVar 1) (fCons (fVar 2) fNil)))) (gRet (fC (.bl false))) gNext))
    (gRet (fC (.bl true)))))
def g_Saying_is_good (cl : Cl) : List D → O R := runX 3 (b_Saying_is_good cl)
/- slots: 0 _law_term, 1 _law_one, 2 _law_lamp, 3 _law_sign -/
def b_law_agrees (cl : Cl) : Fw.Env → Out := (gSeq (gFor (fEnum true (fCons (fVar 0) fNil)) (.tp [2, 3]) (gIf (fAnd (fTest (fBin dNe (fVar 3) (fC (.str [45])))) (fTest (fBin dNe (fBi dInt (fCons (fVar 3) fNil)) (fBin dAnd (fBin dShr (fVar 1) (fVar 2)) (fC (.int 1)))))) (gRet (fC (.bl false))) gNext))
    (gRet (fC (.bl true))))
def g_law_agrees (cl : Cl) : List D → O R := run0 4 (b_law_agrees cl)
/- slots: 0 _law_cell, 1 _law_k -/
def b_law_spread (cl : Cl) : Fw.Env → Out := (gRet (fBin dMod (fBin dMulA (fBin dAdd (fVar 0) (fC (.int 3))) (fBin dAdd (fBin dAdd (fC (.int 48271)) (fBin dMulA (fBin dMulA (fC (.int 2)) (fVar 1)) (fVar 1))) (fVar 1))) (fC (.int 2147483647))))
def g_law_spread (cl : Cl) : List D → O R := run0 2 (b_law_spread cl)
/- slots: 0 _law_caught_here, 1 _law_found -/
def b_law_word (cl : Cl) : Fw.Env → Out := (gSeq (gIf (fOr (fTest (fBin dIs (fVar 0) (fC .non))) (fNot (fTest (fBi (dIsX cl) (fCons (fVar 0) (fCons (fC (.ty "ValueError")) fNil)))))) (gRet (fC (.str [110, 111, 110, 101]))) gNext)
    (gSeq (gSet 1 true (fBin dAdd (fBin dMulA (fC (.str [99, 111, 117, 110, 116, 32])) (fBi dInt (fCons (fBi (dIsX cl) (fCons (fVar 0) (fCons (fC (.cls (cl.at_ "BadCount"))) fNil))) fNil))) (fBin dMulA (fC (.str [114, 111, 119, 115, 32])) (fBi dInt (fCons (fBi (dIsX cl) (fCons (fVar 0) (fCons (fC (.cls (cl.at_ "BadRows"))) fNil))) fNil)))))
    (gSeq (gSet 1 true (fBin dAdd (fBin dAdd (fVar 1) (fBin dMulA (fC (.str [116, 101, 114, 109, 32])) (fBi dInt (fCons (fBi (dIsX cl) (fCons (fVar 0) (fCons (fC (.cls (cl.at_ "BadTerm"))) fNil))) fNil)))) (fBin dMulA (fC (.str [116, 101, 108, 108, 105, 110, 103, 32])) (fBi dInt (fCons (fBi (dIsX cl) (fCons (fVar 0) (fCons (fC (.cls (cl.at_ "BadTelling"))) fNil))) fNil)))))
    (gRet (fBin dAdd (fVar 1) (fBin dMulA (fC (.str [110, 111, 116, 101, 32])) (fBi dInt (fCons (fBi (dIsX cl) (fCons (fVar 0) (fCons (fC (.cls (cl.at_ "BadNote"))) fNil))) fNil))))))))
def g_law_word (cl : Cl) : List D → O R := run0 2 (b_law_word cl)
/- slots: 0 _law_saying, 1 _law_many, 2 _law_off, 3 _law_draw_here, 4 _law_k, 5 _law_more, 6 _law_term, 7 _law_found, 8 _law_caught_here, 9 e, 10 _law_lamp, 11 _law_one -/
def b_law_good_right (cl : Cl) : Fw.Env → Out := (gSeq (gFor (fRg1 (fCons (fC (.int 4)) fNil)) (.nm 4) (gSeq (gSet 5 true (fCall0 (g_law_spread cl) (fCons (fVar 3) (fCons (fVar 4) fNil))))
    (gSeq (gSet 6 true (fM1 dJoin (fC (.str [])) (fLc (fRg1 (fCons (fVar 1) fNil)) [10] (.nm 10) fYes (fBin dIx (fC (.str [48, 49, 45])) (fBin dMod (fBin dDiv (fCall0 (g_law_spread cl) (fCons (fVar 5) (fCons (fVar 10) fNil))) (fC (.int 9))) (fC (.int 3)))))))
    (gSeq (gSet 7 true (fMeth (cl.at_ "Saying") "is_good" (g_Saying_is_good cl) (fVar 0) (fCons (fVar 6) fNil)))
    (gIf (fOr (fNot (fTest (fBi (dIsX cl) (fCons (fVar 7) (fCons (fC (.ty "bool")) fNil))))) (fTest (fBin dEq (fVar 7) (fBi dAny (fCons (fLc (fIt false (fVar 2)) [11] (.nm 11) fYes (fCall0 (g_law_agrees cl) (fCons (fVar 6) (fCons (fVar 11) fNil)))) fNil))))) (gRet (fC (.bl false))) gNext)))))
    (gSeq (gSet 8 true (fC .non))
    (gSeq (gTry (fun c => cl.ex c (cl.at_ "TermError")) 9 (gExpr (fMeth (cl.at_ "Saying") "is_good" (g_Saying_is_good cl) (fVar 0) (fCons (fBin dIx (fLst (fCons (fBin dMulA (fC (.str [48])) (fBin dAdd (fVar 1) (fC (.int 1)))) (fCons (fBin dMulA (fC (.str [48])) (fBin dSub (fVar 1) (fC (.int 1)))) (fCons (fBin dMulA (fC (.str [50])) (fVar 1)) (fCons (fC .non) (fCons (fC (.int 5)) (fCons (fLst (fCons (fC (.str [48])) fNil)) (fCons (fC (.bl true)) (fCons (fBin dMulA (fC (.str [32])) (fVar 1)) fNil))))))))) (fBin dMod (fVar 3) (fC (.int 8)))) fNil))) (gSet 8 true (fVar 9)))
    (gRet (fBin dEq (fCall0 (g_law_word cl) (fCons (fVar 8) fNil)) (fC (.str [116, 101, 114, 109, 32])))))))
def g_law_good_right (cl : Cl) : List D → O R := run0 12 (b_law_good_right cl)
/- slots: 0 _law_many, 1 _law_on, 2 _law_free, 3 _law_caught_here, 4 e -/
def b_law_caught (cl : Cl) : Fw.Env → Out := (gSeq (gSet 3 true (fC .non))
    (gSeq (gTry (fun c => cl.ex c (cl.at_ "TermError")) 4 (gExpr (fMake (mk_Saying cl) [] (fCons (fVar 0) (fCons (fVar 1) (fCons (fVar 2) fNil))))) (gSet 3 true (fVar 4)))
    (gRet (fCall0 (g_law_word cl) (fCons (fVar 3) fNil)))))
def g_law_caught (cl : Cl) : List D → O R := run0 5 (b_law_caught cl)
/- slots: 0 _law_many, 1 _law_rows_here, 2 _law_draw_here, 3 _law_top, 4 _law_some -/
def b_law_odd_list (cl : Cl) : Fw.Env → Out := (gSeq (gSet 3 true (fBin dShl (fC (.int 1)) (fVar 0)))
    (gSeq (gSet 4 true (fLst (fCons (fC .non) (fCons (fBi dTupOf (fCons (fVar 1) fNil)) (fCons (fC (.int 5)) (fCons (fC .emp) (fCons (fBin dAdd (fVar 1) (fLst (fCons (fVar 3) fNil))) (fCons (fBin dAdd (fVar 1) (fLst (fCons (fNeg (fC (.int 1))) fNil))) (fCons (fBin dAdd (fVar 1) (fLst (fCons (fC .non) fNil))) (fCons (fBin dAdd (fVar 1) (fLst (fCons (fC (.bl true)) fNil))) (fCons (fBin dAdd (fVar 1) (fLst (fCons (fC (.str [48])) fNil))) fNil)))))))))))
    (gSeq (gSet 4 true (fBin dAdd (fVar 4) (fLst (fCons (fBin dAdd (fVar 1) (fLst (fCons (fC (.int 0)) (fCons (fC (.int 0)) fNil)))) (fCons (fBin dAdd (fVar 1) (fLst (fCons (fBin dPow (fC (.int 10)) (fC (.int 30))) fNil))) (fCons (fBin dAdd (fVar 1) (fLst (fCons (fLst (fCons (fC (.int 0)) fNil)) fNil))) (fCons (fLst (fCons (fVar 1) fNil)) (fCons (fC (.bl true)) (fCons (fC (.str [48])) fNil)))))))))
    (gRet (fBin dIx (fVar 4) (fBin dMod (fVar 2) (fC (.int 15))))))))
def g_law_odd_list (cl : Cl) : List D → O R := run0F 5 (b_law_odd_list cl)
/- slots: 0 _law_many, 1 _law_on, 2 _law_free, 3 _law_draw_here, 4 _law_way, 5 _law_more, 6 _law_odd -/
def b_law_refused (cl : Cl) : Fw.Env → Out := (gSeq (gSet 4 true (fBin dMod (fVar 3) (fC (.int 6))))
    (gSeq (gSet 5 true (fBin dDiv (fVar 3) (fC (.int 6))))
    (gSeq (gIf (fTest (fBin dEq (fVar 4) (fC (.int 0)))) (gSeq (gSet 6 true (fBin dIx (fLst (fCons (fC (.int 0)) (fCons (fC (.int 6)) (fCons (fNeg (fC (.int 1))) (fCons (fC (.bl true)) (fCons (fC .non) (fCons (fC (.str [50])) (fCons (fLst (fCons (fC (.int 2)) fNil)) (fCons (fBin dPow (fC (.int 10)) (fC (.int 30))) fNil))))))))) (fBin dMod (fVar 5) (fC (.int 8)))))
    (gRet (fBin dEq (fCall0 (g_law_caught cl) (fCons (fVar 6) (fCons (fIf (fTest (fBin dEq (fBin dMod (fVar 5) (fC (.int 3))) (fC (.int 0)))) (fCallF (g_law_odd_list cl) (fCons (fVar 0) (fCons (fVar 1) (fCons (fBin dDiv (fVar 5) (fC (.int 8))) fNil)))) (fVar 1)) (fCons (fVar 2) fNil)))) (fC (.str [99, 111, 117, 110, 116, 32]))))) gNext)
    (gSeq (gIf (fTest (fBin dLt (fVar 4) (fC (.int 3)))) (gRet (fBin dEq (fCall0 (g_law_caught cl) (fCons (fVar 0) (fCons (fCallF (g_law_odd_list cl) (fCons (fVar 0) (fCons (fVar 1) (fCons (fVar 5) fNil)))) (fCons (fBin dIx (fLst (fCons (fVar 2) (fCons (fC .non) (fCons (fC (.int 5)) fNil)))) (fBin dMod (fBin dDiv (fVar 5) (fC (.int 90))) (fC (.int 3)))) fNil)))) (fC (.str [114, 111, 119, 115, 32])))) gNext)
    (gSeq (gIf (fTest (fBin dLt (fVar 4) (fC (.int 5)))) (gSeq (gSet 6 true (fCallF (g_law_odd_list cl) (fCons (fVar 0) (fCons (fVar 2) (fCons (fVar 5) fNil)))))
    (gRet (fOrV (fBin dIs (fVar 6) (fC .non)) (fBin dEq (fCall0 (g_law_caught cl) (fCons (fVar 0) (fCons (fVar 1) (fCons (fVar 6) fNil)))) (fC (.str [114, 111, 119, 115, 32])))))) gNext)
    (gRet (fOrV (fBin dEq (fVar 1) (fLst fNil)) (fBin dEq (fCall0 (g_law_caught cl) (fCons (fVar 0) (fCons (fVar 1) (fCons (fBin dAdd (fVar 2) (fLst (fCons (fBin dIx (fVar 1) (fBin dMod (fVar 5) (fBi dLen (fCons (fVar 1) fNil)))) fNil))) fNil)))) (fC (.str [114, 111, 119, 115, 32]))))))))))
def g_law_refused (cl : Cl) : List D → O R := run0F 7 (b_law_refused cl)
/- slots: 0 _law_cell, 1 _law_k, 2 _law_most, 3 _law_draw_here, 4 _law_left, 5 _law_many, 6 _law_on, 7 _law_free, 8 _law_one, 9 _law_more, 10 _law_bits, 11 _law_least, 12 _law_last, 13 _law_sort, 14 _law_at, 15 _law_lamp -/
def b_law_rows (cl : Cl) : Fw.Env → Out := (gSeq (gSet 3 true (fCall0 (g_law_spread cl) (fCons (fCall0 (g_law_spread cl) (fCons (fVar 0) (fCons (fVar 1) fNil))) (fCons (fC (.int 1)) fNil))))
    (gSeq (gSet 4 true (fIf (fTest (fBin dEq (fBin dMod (fVar 0) (fC (.int 2))) (fC (.int 1)))) (fBin dDiv (fVar 0) (fC (.int 2))) (fVar 3)))
    (gSeq (gSet 5 true (fBin dAdd (fC (.int 1)) (fBin dMod (fVar 4) (fVar 2))))
    (gSeq (gSet 4 true (fBin dDiv (fVar 4) (fVar 2)))
    (gSeq (gSet 6 false (fLst fNil))
    (gSeq (gSet 7 false (fLst fNil))
    (gSeq (gFor (fRg1 (fCons (fBin dShl (fC (.int 1)) (fVar 5)) fNil)) (.nm 8) (gSeq (gSet 9 true (fBin dMod (fCall0 (g_law_spread cl) (fCons (fBin dAdd (fVar 3) (fBin dMulA (fC (.int 7)) (fVar 8))) (fCons (fVar 8) fNil))) (fC (.int 12))))
    (gSeq (gSet 10 true (fBin dMod (fBi dSum (fCons (fLc (fRg1 (fCons (fVar 5) fNil)) [15] (.nm 15) fYes (fBin dAnd (fBin dShr (fVar 8) (fVar 15)) (fC (.int 1)))) fNil)) (fC (.int 2))))
    (gSeq (gAsg (.tp [11, 12]) (fBin dIx (fLst (fCons (fTup (fCons (fC (.int 6)) (fCons (fC (.int 8)) fNil))) (fCons (fTup (fCons (fC (.int 3)) (fCons (fC (.int 5)) fNil))) (fCons (fTup (fCons (fC (.int 9)) (fCons (fC (.int 9)) fNil))) (fCons (fTup (fCons (fBin dMulA (fC (.int 12)) (fVar 10)) (fCons (fBin dMulA (fC (.int 12)) (fVar 10)) fNil))) fNil))))) (fBin dMod (fBin dDiv (fVar 3) (fC (.int 5))) (fC (.int 4)))))
    (gSeq (gSet 13 true (fBin dAdd (fBi dInt (fCons (fBin dGe (fVar 9) (fVar 11)) fNil)) (fBi dInt (fCons (fBin dGe (fVar 9) (fVar 12)) fNil))))
    (gSeq (gIf (fTest (fBin dEq (fBin dMod (fVar 0) (fC (.int 2))) (fC (.int 1)))) (gSeq (gSet 13 true (fBin dMod (fVar 4) (fC (.int 3))))
    (gSet 4 true (fBin dDiv (fVar 4) (fC (.int 3))))) gNext)
    (gIf (fTest (fBin dEq (fVar 13) (fC (.int 0)))) (gApp 6 (fVar 8)) (gIf (fTest (fBin dEq (fVar 13) (fC (.int 1)))) (gApp 7 (fVar 8)) gNext))))))))
    (gSeq (gSet 14 true (fBin dMod (fVar 4) (fC (.int 32))))
    (gRet (fTup (fCons (fVar 5) (fCons (fBin dAdd (fSl (fVar 6) (fPart (fVar 14)) fNoPart) (fSl (fVar 6) fNoPart (fPart (fVar 14)))) (fCons (fBin dAdd (fSl (fVar 7) (fPart (fVar 14)) fNoPart) (fSl (fVar 7) fNoPart (fPart (fVar 14)))) fNil)))))))))))))
def g_law_rows (cl : Cl) : List D → O R := run0 16 (b_law_rows cl)
/- slots: 0 self -/
def b_Saying_free (cl : Cl) : Fw.Env → Out := (gRet (fBi dList (fCons (fFld "_free" (cl.at_ "Saying") (fVar 0)) fNil)))
def g_Saying_free (cl : Cl) : List D → O R := run0 1 (b_Saying_free cl)
/- slots: 0 self -/
def b_Saying_many (cl : Cl) : Fw.Env → Out := (gRet (fFld "_many" (cl.at_ "Saying") (fVar 0)))
def g_Saying_many (cl : Cl) : List D → O R := run0 1 (b_Saying_many cl)
/- slots: 0 self -/
def b_Saying_off (cl : Cl) : Fw.Env → Out := (gRet (fBi dList (fCons (fFld "_off" (cl.at_ "Saying") (fVar 0)) fNil)))
def g_Saying_off (cl : Cl) : List D → O R := run0 1 (b_Saying_off cl)
/- slots: 0 self -/
def b_Saying_on (cl : Cl) : Fw.Env → Out := (gRet (fBi dList (fCons (fFld "_on" (cl.at_ "Saying") (fVar 0)) fNil)))
def g_Saying_on (cl : Cl) : List D → O R := run0 1 (b_Saying_on cl)
/- slots: 0 _law_saying, 1 _law_many, 2 _law_on, 3 _law_free, 4 _law_off, 5 _law_turn, 6 _law_found, 7 _law_row, 8 _law_one -/
def b_law_told_right (cl : Cl) : Fw.Env → Out := (gSeq (gSet 4 true (fLc (fRg1 (fCons (fBin dShl (fC (.int 1)) (fVar 1)) fNil)) [8] (.nm 8) (fAnd (fTest (fBin dNin (fVar 8) (fVar 2))) (fTest (fBin dNin (fVar 8) (fVar 3)))) (fVar 8)))
    (gSeq (gFor (fRg1 (fCons (fC (.int 2)) fNil)) (.nm 5) (gSeq (gOwn2 6 (fCons2 (fMeth (cl.at_ "Saying") "on" (g_Saying_on cl) (fVar 0) fNil) (fCons2 (fMeth (cl.at_ "Saying") "free" (g_Saying_free cl) (fVar 0) fNil) (fCons2 (fMeth (cl.at_ "Saying") "off" (g_Saying_off cl) (fVar 0) fNil) fNil2))))
    (gSeq (gIf (fOr (fTest (fBin dNe (fMeth (cl.at_ "Saying") "many" (g_Saying_many cl) (fVar 0) fNil) (fVar 1))) (fTest (fNe2 6 (fLst (fCons (fBi dSortedL (fCons (fVar 2) fNil)) (fCons (fBi dSortedL (fCons (fVar 3) fNil)) (fCons (fVar 4) fNil))))))) (gRet (fC (.bl false))) gNext)
    (gForApp2 6 7))))
    (gRet (fC (.bl true)))))
def g_law_told_right (cl : Cl) : List D → O R := run0 9 (b_law_told_right cl)
/- slots: 0 _law_script, 1 _law_k, 2 _law_cell, 3 _law_draw_here, 4 _law_many, 5 _law_on, 6 _law_free, 7 _law_handed, 8 _law_saying, 9 _law_off, 10 _law_one -/
def b_law (cl : Cl) : Fw.Env → Out := (gSeq (gFor (fEnum true (fCons (fBin dAdd (fVar 0) (fLst (fCons (fC (.int 0)) fNil))) fNil)) (.tp [1, 2]) (gSeq (gSet 3 true (fCall0 (g_law_spread cl) (fCons (fVar 2) (fCons (fBin dMod (fVar 1) (fC (.int 60))) fNil))))
    (gSeq (gAsg (.tp [4, 5, 6]) (fCall0 (g_law_rows cl) (fCons (fVar 2) (fCons (fBin dMod (fVar 1) (fC (.int 60))) (fCons (fC (.int 5)) fNil)))))
    (gSeq (gOwn2 7 (fCons2 (fBi dList (fCons (fVar 5) fNil)) (fCons2 (fBi dList (fCons (fVar 6) fNil)) fNil2)))
    (gSeq (gSet 8 true (fMake (mk_Saying cl) [] (fCons (fVar 4) (fCons (fIx2 7 0) (fCons (fIx2 7 1) fNil)))))
    (gSeq (gIf (fTest (fNe2 7 (fLst (fCons (fVar 5) (fCons (fVar 6) fNil))))) (gRet (fC (.bl false))) gNext)
    (gSeq (gApp2 7 0 (fC (.int 0)))
    (gSeq (gClr2 7 1)
    (gSeq (gIf (fOr (fNot (fTest (fCall0 (g_law_told_right cl) (fCons (fVar 8) (fCons (fVar 4) (fCons (fVar 5) (fCons (fVar 6) fNil))))))) (fNot (fTest (fCallF (g_law_refused cl) (fCons (fVar 4) (fCons (fVar 5) (fCons (fVar 6) (fCons (fBin dDiv (fVar 3) (fC (.int 7))) fNil)))))))) (gRet (fC (.bl false))) gNext)
    (gSeq (gSet 9 true (fLc (fRg1 (fCons (fBin dShl (fC (.int 1)) (fVar 4)) fNil)) [10] (.nm 10) (fAnd (fTest (fBin dNin (fVar 10) (fVar 5))) (fTest (fBin dNin (fVar 10) (fVar 6)))) (fVar 10)))
    (gSeq (gIf (fNot (fTest (fCall0 (g_law_good_right cl) (fCons (fVar 8) (fCons (fVar 4) (fCons (fVar 9) (fCons (fBin dDiv (fVar 3) (fC (.int 11))) fNil))))))) (gRet (fC (.bl false))) gNext)
    (gIf (fNot (fTest (fCall0 (g_law_told_right cl) (fCons (fMake (mk_Saying cl) [.non] (fCons (fVar 4) (fCons (fBi dList (fCons (fVar 5) fNil)) fNil))) (fCons (fVar 4) (fCons (fVar 5) (fCons (fLst fNil) fNil))))))) (gRet (fC (.bl false))) gNext))))))))))))
    (gRet (fC (.bl true))))
def g_law (cl : Cl) : List D → O R := run0 11 (b_law cl)
end
end K02
namespace K02
open PySem PySem.Spec PyProof.Rows L2 Fw
variable {cl : Cl}
/-! ### what the laws share -/
theorem is_lit_eq (n k : Nat) : g_is_lit cl [.int n, .int k] = .ok (.val (.bl (decide (n / 2 ^ k % 2 = 1)))) := m_is_lit n k
theorem sign_at_eq (n k : Nat) : g_sign_at cl [.int n, .int k] = .ok (.val (.str [sgn n k])) := m_sign_at (gl := g_is_lit cl) is_lit_eq n k
theorem has_eq (s : List Nat) (hs : Sg s) (n : Nat) : g_has cl [.str s, .int n] = .ok (.val (.bl (agB n 0 s))) := m_has (gs := g_sign_at cl) sign_at_eq s hs n
theorem agrees_eq (s : List Nat) (hs : Sg s) (n : Nat) : g_law_agrees cl [.str s, .int n] = .ok (.val (.bl (agB n 0 s))) := m_agrees s hs n
theorem spread_eq (c k : Int) (h0 : 0 ≤ k) (h1 : k < 100) : g_law_spread cl [.int c, .int k] = .ok (.val (.int (spr c k))) := m_spread c k h0 h1
theorem spr_nat (c k : Int) (h0 : 0 ≤ k) (h1 : k < 100) : ∃ m : Nat, g_law_spread cl [.int c, .int k] = .ok (.val (.int m)) := by
  obtain ⟨m, hm⟩ := of_nat (spr_lo c k)
  exact ⟨m, by rw [spread_eq c k h0 h1, hm]⟩
/-! ### kinds -/
theorem var_slot (x : D) (es : Fw.Env) : fVar 0 (slotD x :: es) = .ok (nrm x) := by
  unfold slotD
  cases h : flat x with
  | true => show fVar 0 (.val x :: es) = _; unfold nrm; rw [h]; rfl
  | false => rfl
theorem nrm_fz (x : D) : (nrm x).fz = nrm x := by
  unfold nrm
  cases flat x <;> rfl
theorem nrm_dat (x : D) : (nrm x).dat = x := by
  unfold nrm
  cases flat x <;> rfl
theorem ty_n {es : Fw.Env} {fa : Fw.Env → O R} {x : D} {n : String} (h : fa es = .ok (nrm x)) (e : tyD2 x = some n) : fBi dType (fCons fa fNil) es = .ok (.val (.ty n)) := by
  refine bi_o (rs := [nrm x]) ?_ ?_
  · unfold fCons
    rw [h, O.bind_ok, nil_o, O.bind_ok, nrm_fz]
  · show (tyD2 (nrm x).dat).map _ = _
    rw [nrm_dat, e]; rfl
theorem is_ty (m n : String) : dIs (.val (.ty m)) (.val (.ty n)) = some (.val (.bl (decide (m = n)))) := rfl
theorem andv_f {es : Fw.Env} {fa fb : Fw.Env → O R} (h1 : fa es = .ok (.val (.bl false))) : fAndV fa fb es = .ok (.val (.bl false)) := by unfold fAndV; rw [h1]; rfl
theorem chain_o {es : Fw.Env} {fa fb fc : Fw.Env → O R} {d1 d2 : R → R → Option R} {a b c : D} {k1 k2 : Bool} (ha : fa es = .ok (.val a)) (hb : fb es = .ok (.val b)) (hc : fc es = .ok (.val c)) (h1 : d1 (.val a) (.val b) = some (.val (.bl k1))) (h2 : d2 (.val b) (.val c) = some (.val (.bl k2))) :
    fChain d1 d2 fa fb fc es = .ok (.val (.bl (k1 && k2))) := by
  unfold fChain
  rw [ha, O.bind_ok, hb, O.bind_ok]
  show (match d1 (.val a) (.val b) with | some (.val (.bl true)) => _ | some (.val (.bl false)) => _ | _ => _) = _
  rw [h1]
  cases k1 with
  | true =>
    show (fc es).bind _ = _
    rw [hc, O.bind_ok]
    show O.of (d2 (.val b) (.val c)) = _
    rw [h2]; rfl
  | false => rfl
theorem le_i (x y : Int) : dLe (.val (.int x)) (.val (.int y)) = some (.val (.bl (decide (x ≤ y)))) := rfl
theorem lt_i (x y : Int) : dLt (.val (.int x)) (.val (.int y)) = some (.val (.bl (decide (x < y)))) := rfl
theorem count_int (i : Int) : g_is_count cl [.int i] = .ok (.val (.bl (decide (1 ≤ i) && decide (i ≤ 5)))) := by
  refine congrArg fin (?_ : b_is_count cl [.val (.int i)] = .rt _)
  unfold b_is_count
  refine ret_v ?_
  rw [andv_t (bin_o (ty_n (x := .int i) rfl rfl) rfl (is_ty _ _))]
  exact chain_o rfl rfl rfl (le_i _ _) (le_i _ _)
theorem count_other {x : D} {n : String} (e : tyD2 x = some n) (hn : n ≠ "int") : g_is_count cl [x] = .ok (.val (.bl false)) := by
  refine congrArg fin (?_ : b_is_count cl [slotD x] = .rt _)
  unfold b_is_count
  refine ret_v (andv_f (bin_o (ty_n (var_slot x []) e) rfl ?_))
  rw [is_ty, decide_eq_false hn]
theorem setting_int (i : Int) {m : Nat} (hm : m ≤ 10) : g_is_setting cl [.int i, .int m] = .ok (.val (.bl (decide (0 ≤ i) && decide (i < ((2 ^ m : Nat) : Int))))) := by
  refine congrArg fin (?_ : b_is_setting cl [.val (.int i), .val (.int m)] = .rt _)
  unfold b_is_setting
  refine ret_v ?_
  rw [andv_t (bin_o (ty_n (x := .int i) rfl rfl) rfl (is_ty _ _))]
  exact chain_o rfl rfl (bin_o rfl rfl (shl_o hm)) (le_i _ _) (lt_i _ _)
theorem setting_other {x y : D} {n : String} (e : tyD2 x = some n) (hn : n ≠ "int") : g_is_setting cl [x, y] = .ok (.val (.bl false)) := by
  refine congrArg fin (?_ : b_is_setting cl [slotD x, slotD y] = .rt _)
  unfold b_is_setting
  refine ret_v (andv_f (bin_o (ty_n (var_slot x _) e) rfl ?_))
  rw [is_ty, decide_eq_false hn]
/-! ### rows -/
/-- no setting of m lamps -/
def BadS (m : Nat) : D → Prop
  | .int i => ¬ (0 ≤ i ∧ i < ((2 ^ m : Nat) : Int))
  | x => ∃ n, tyD2 x = some n ∧ n ≠ "int"
def GoodS (m : Nat) (ns : List Int) : Prop := ∀ n ∈ ns, 0 ≤ n ∧ n < ((2 ^ m : Nat) : Int)
theorem setting_bad {x : D} {m : Nat} (hm : m ≤ 10) (h : BadS m x) : g_is_setting cl [x, .int m] = .ok (.val (.bl false)) := by
  cases x with
  | int i =>
    rw [setting_int i hm]
    have : (decide (0 ≤ i) && decide (i < ((2 ^ m : Nat) : Int))) = false := by
      cases z : (decide (0 ≤ i) && decide (i < ((2 ^ m : Nat) : Int))) with
      | false => rfl
      | true =>
        rw [Bool.and_eq_true, decide_eq_true_eq, decide_eq_true_eq] at z
        exact absurd z h
    rw [this]
  | _ =>
    obtain ⟨n, h1, h2⟩ := h
    exact setting_other h1 h2
theorem setting_good {i : Int} {m : Nat} (hm : m ≤ 10) (h : 0 ≤ i ∧ i < ((2 ^ m : Nat) : Int)) : g_is_setting cl [.int i, .int m] = .ok (.val (.bl true)) := by
  rw [setting_int i hm, decide_eq_true h.1, decide_eq_true h.2]; rfl
def finX (o : Out) : O R := match o with
  | .nx _ => .ok (.val .non)
  | .rt r => .ok r
  | .exc _ c fs => .exc c fs
  | _ => .no
theorem nis_ty2 (m n : String) : dNis (.val (.ty m)) (.val (.ty n)) = some (.val (.bl (!decide (m = n)))) := rfl
theorem rows_kind {x y : D} {n : String} (e : tyD2 x = some n) (hn : n ≠ "list") : g_rising_settings cl [x, y] = .exc (cl.at_ "BadRows") none := by
  have t : fTest (fBin dNis (fBi dType (fCons (fVar 0) fNil)) (fC (.ty "list"))) [slotD x, slotD y, .no] = .ok true := by
    refine test_o (bin_o (ty_n (var_slot x _) e) rfl ?_)
    rw [nis_ty2, decide_eq_false hn]; rfl
  refine congrArg finX (?_ : b_rising_settings cl [slotD x, slotD y, .no] = .exc [slotD x, slotD y, .no] (cl.at_ "BadRows") none)
  unfold b_rising_settings gSeq
  rw [if_t t]; rfl
/-- the loop over rows -/
theorem rows_loop {m : Nat} (hm : m ≤ 10) (L : Sl) : ∀ (ns : List Int), GoodS m ns → ∀ (rest : List D) (z : Sl), ∃ z', forL (.nm 2) (gIf (fNot (fTest (fCall0 (g_is_setting cl) (fCons (fVar 2) (fCons (fVar 1) fNil))))) (gRaise (cl.at_ "BadRows")) gNext) ((ns.map D.int ++ rest).map nrm) [L, .val (.int m), z]
    = forL (.nm 2) (gIf (fNot (fTest (fCall0 (g_is_setting cl) (fCons (fVar 2) (fCons (fVar 1) fNil))))) (gRaise (cl.at_ "BadRows")) gNext) (rest.map nrm) [L, .val (.int m), z']
  | [], _, rest, z => ⟨z, rfl⟩
  | n :: ns, h, rest, z => by
    obtain ⟨z', ih⟩ := rows_loop hm L ns (fun k hk => h k (by simp [hk])) rest (.val (.int n))
    refine ⟨z', ?_⟩
    show forL _ _ (.val (.int n) :: ((ns.map D.int ++ rest).map nrm)) _ = _
    rw [forL]
    show (match gIf _ _ _ [L, .val (.int m), .val (.int n)] with | .nx e2 => _ | .ct e2 => _ | .br e2 => _ | .rt r => _ | .exc es c fs => _ | .no => _) = _
    rw [if_f (not_o (k := true) (test_o (call_o (cons_o rfl (cons_o rfl nil_o)) (setting_good hm (h n (by simp))))))]
    exact ih
theorem start_lst (xs : List D) (m : Nat) : startE 3 [.lst xs, .int m] = [.brw (.lst xs), .val (.int m), .no] := rfl
theorem rows_bad {m : Nat} (hm : m ≤ 10) {ns : List Int} (h : GoodS m ns) {x : D} (hx : BadS m x) (rest : List D) : g_rising_settings cl [.lst (ns.map .int ++ x :: rest), .int m] = .exc (cl.at_ "BadRows") none := by
  obtain ⟨z', hl⟩ := rows_loop (cl := cl) hm (.brw (.lst (ns.map .int ++ x :: rest))) ns h (x :: rest) .no
  have t : fTest (fBin dNis (fBi dType (fCons (fVar 0) fNil)) (fC (.ty "list"))) [.brw (.lst (ns.map .int ++ x :: rest)), .val (.int m), .no] = .ok false := test_o (bin_o (ty_n (x := .lst (ns.map .int ++ x :: rest)) rfl rfl) rfl (nis_ty2 _ _))
  have e2 : ∃ es, forL (.nm 2) (gIf (fNot (fTest (fCall0 (g_is_setting cl) (fCons (fVar 2) (fCons (fVar 1) fNil))))) (gRaise (cl.at_ "BadRows")) gNext) ((x :: rest).map nrm) [.brw (.lst (ns.map .int ++ x :: rest)), .val (.int m), z'] = .exc es (cl.at_ "BadRows") none := by
    refine ⟨[.brw (.lst (ns.map .int ++ x :: rest)), .val (.int m), slotD x], ?_⟩
    rw [List.map_cons, forL]
    have hs : stTg (.nm 2) (nrm x) [.brw (.lst (ns.map .int ++ x :: rest)), .val (.int m), z'] = some [.brw (.lst (ns.map .int ++ x :: rest)), .val (.int m), slotD x] := by
      unfold nrm slotD
      cases flat x <;> rfl
    rw [hs]
    have hv : fVar 2 [.brw (.lst (ns.map .int ++ x :: rest)), .val (.int m), slotD x] = .ok (nrm x) := var_slot x []
    have hcall : fCall0 (g_is_setting cl) (fCons (fVar 2) (fCons (fVar 1) fNil)) [.brw (.lst (ns.map .int ++ x :: rest)), .val (.int m), slotD x] = .ok (.val (.bl false)) := by
      refine call_o (rs := [nrm x, .val (.int m)]) ?_ ?_
      · unfold fCons
        rw [hv, O.bind_ok]
        show O.ok ((nrm x).fz :: [R.val (.int m)]) = _
        rw [nrm_fz]
      · show g_is_setting cl [(nrm x).dat, .int m] = _
        rw [nrm_dat]
        exact setting_bad hm hx
    show (match gIf _ _ _ [.brw (.lst (ns.map .int ++ x :: rest)), .val (.int m), slotD x] with | .nx e2 => _ | .ct e2 => _ | .br e2 => _ | .rt r => _ | .exc es c fs => Out.exc es c fs | .no => _) = _
    rw [if_t (not_o (k := false) (test_o hcall))]
    rfl
  obtain ⟨es, he⟩ := e2
  refine congrArg finX (?_ : b_rising_settings cl [.brw (.lst (ns.map .int ++ x :: rest)), .val (.int m), .no] = .exc es (cl.at_ "BadRows") none)
  unfold b_rising_settings
  rw [seq_n (if_f t)]
  show (gFor _ _ _ _).seq _ = _
  have hsrc : fIt true (fVar 0) [.brw (.lst (ns.map .int ++ x :: rest)), .val (.int m), .no] = .ok ((ns.map D.int ++ x :: rest).map nrm) := rfl
  rw [for_o hsrc, hl, he]
  rfl
theorem ints_of (ns : List Int) : intsOf (ns.map D.int) = some ns := by
  induction ns with
  | nil => rfl
  | cons n ns ih => rw [List.map_cons, intsOf, ih]; rfl
theorem difN_nodup {ns : List Int} (h : ns.Nodup) : difN ns = ns.length := by
  unfold difN
  rw [RZ.firstMet_nodup h ns.length (Nat.le_refl _), List.take_length]
theorem first_nodup (val : Nat → Int) : ∀ i, (PyProof.Rows.firstMet val i).length = i → ((List.range i).map val).Nodup
  | 0, _ => List.nodup_nil
  | i + 1, h => by
    rw [PyProof.Rows.firstMet_succ] at h
    unfold PyProof.Rows.step_dedup at h
    have le := PyProof.Rows.firstMet_length_le val i
    split at h
    · omega
    · rename_i hn
      have h1 : (PyProof.Rows.firstMet val i).length = i := by simpa using h
      have ih := first_nodup val i h1
      rw [List.range_succ, List.map_append, List.nodup_append]
      refine ⟨ih, by simp, fun a ha b hb => ?_⟩
      simp only [List.map_cons, List.map_nil, List.mem_singleton] at hb
      subst hb
      intro z
      apply hn
      rw [PyProof.Rows.firstMet_any]
      exact List.any_eq_true.mpr ⟨a, ha, by simp [z]⟩
theorem difN_dup {ns : List Int} (h : ¬ ns.Nodup) : difN ns ≠ ns.length := fun z => by
  apply h
  have := first_nodup (fun i => ns.getD i 0) ns.length z
  have e : (List.range ns.length).map (fun i => ns.getD i 0) = ns := by
    apply List.ext_getElem
    · simp
    · intro i h1 h2
      simp [h2]
  rw [e] at this
  exact this
theorem len_set {es : Fw.Env} {fa : Fw.Env → O R} {ns : List Int} (h : fa es = .ok (.brw (.lst (ns.map .int)))) (hl : ns.length ≤ 4000) : fLenSet fa es = .ok (.val (.int (difN ns : Nat))) := by
  unfold fLenSet
  rw [h, O.bind_ok]
  show O.of (match (if (ns.map D.int).all flat = true then some (ns.map D.int) else none) with | some xs => _ | none => _) = _
  rw [flat_ints]
  show O.of (match intsOf (ns.map D.int) with | some ns => _ | none => _) = _
  rw [ints_of]
  show O.of (if ns.length ≤ 4000 then _ else _) = _
  rw [if_pos hl]; rfl
theorem len_brw {es : Fw.Env} {fa : Fw.Env → O R} {xs : List D} (h : fa es = .ok (.brw (.lst xs))) : fBi dLen (fCons fa fNil) es = .ok (.val (.int (xs.length : Nat))) := by
  refine bi_o (rs := [.brw (.lst xs)]) ?_ rfl
  unfold fCons; rw [h]; rfl
/-- what stands ahead of the count of a rows' list -/
theorem rows_pre {m : Nat} (hm : m ≤ 10) {ns : List Int} (h : GoodS m ns) (hl : ns.length ≤ 4000) : ∃ z, b_rising_settings cl [.brw (.lst (ns.map .int)), .val (.int m), .no] =
    gSeq (gIf (fTest (fBin dNe (fLenSet (fVar 0)) (fBi dLen (fCons (fVar 0) fNil)))) (gRaise (cl.at_ "BadRows")) gNext) (gRet (fBi dSortedL (fCons (fVar 0) fNil))) [.brw (.lst (ns.map .int)), .val (.int m), z] ∧
    fTest (fBin dNe (fLenSet (fVar 0)) (fBi dLen (fCons (fVar 0) fNil))) [.brw (.lst (ns.map .int)), .val (.int m), z] = .ok (!(((difN ns : Nat) : Int) == ((ns.length : Nat) : Int))) := by
  obtain ⟨z', hlp⟩ := rows_loop (cl := cl) hm (.brw (.lst (ns.map .int))) ns h [] .no
  have t : fTest (fBin dNis (fBi dType (fCons (fVar 0) fNil)) (fC (.ty "list"))) [.brw (.lst (ns.map .int)), .val (.int m), .no] = .ok false := test_o (bin_o (ty_n (x := .lst (ns.map .int)) rfl rfl) rfl (nis_ty2 _ _))
  have hsrc : fIt true (fVar 0) [.brw (.lst (ns.map .int)), .val (.int m), .no] = .ok ((ns.map D.int).map nrm) := rfl
  rw [List.append_nil] at hlp
  refine ⟨z', ?_, ?_⟩
  · unfold b_rising_settings
    rw [seq_n (if_f t), seq_n ((for_o hsrc).trans hlp)]
  · refine test_o (bin_o (len_set rfl hl) (len_brw rfl) ?_)
    rw [ne_i, List.length_map]
theorem rows_good {m : Nat} (hm : m ≤ 10) {ns : List Int} (h : GoodS m ns) (hn : ns.Nodup) (hl : ns.length < 64) : g_rising_settings cl [.lst (ns.map .int), .int m] = .ok (.new ((sortI ns).map .int)) := by
  obtain ⟨z, h1, h2⟩ := rows_pre (cl := cl) hm h (by omega)
  rw [difN_nodup hn] at h2
  have e : (!(((ns.length : Nat) : Int) == ((ns.length : Nat) : Int))) = false := by simp
  rw [e] at h2
  have hs : fBi dSortedL (fCons (fVar 0) fNil) [.brw (.lst (ns.map .int)), .val (.int m), z] = .ok (.new ((sortI ns).map .int)) := by
    refine bi_o (rs := [.brw (.lst (ns.map .int))]) rfl ?_
    show (match intsOf (ns.map D.int) with | some ns => if ns.length < 64 then some (R.new ((sortI ns).map .int)) else none | none => _) = _
    rw [ints_of]
    exact if_pos hl
  refine congrArg finX (?_ : b_rising_settings cl [.brw (.lst (ns.map .int)), .val (.int m), .no] = .rt _)
  rw [h1, seq_n (if_f h2)]
  exact ret_n hs
theorem rows_dup {m : Nat} (hm : m ≤ 10) {ns : List Int} (h : GoodS m ns) (hn : ¬ ns.Nodup) (hl : ns.length ≤ 4000) : g_rising_settings cl [.lst (ns.map .int), .int m] = .exc (cl.at_ "BadRows") none := by
  obtain ⟨z, h1, h2⟩ := rows_pre (cl := cl) hm h hl
  have e : (!(((difN ns : Nat) : Int) == ((ns.length : Nat) : Int))) = true := by
    have := difN_dup hn
    simp
    omega
  rw [e] at h2
  refine congrArg finX (?_ : b_rising_settings cl [.brw (.lst (ns.map .int)), .val (.int m), .no] = .exc [.brw (.lst (ns.map .int)), .val (.int m), z] (cl.at_ "BadRows") none)
  rw [h1]
  unfold gSeq
  rw [if_t h2]; rfl
end K02
namespace K02
open PySem PySem.Spec PyProof.Rows L2 Fw
variable {cl : Cl}
/-! ### a saying is made -/
theorem fld_v {x c : Addr} {es : Fw.Env} {fv : Fw.Env → O R} {f : Str} {r : R} {d : D} {ns : List Str} {ds : List D} (h : fv es = .ok r) (hs : r.fz.sto = some d) (h0 : es[0]? = some (.val (.slf x c ns ds))) (hf : f ∉ ns) (hl : ns.length < 900) (n1 : noIns d = true) (n2 : noInsL ds = true) (n3 : es.tail.all noInsS = true) :
    gFld x c f fv es = .nx (es.set 0 (.val (.slf x c (ns ++ [f]) (ds ++ [d])))) := by
  unfold gFld
  rw [h, O.out_ok, h0, hs]
  exact if_pos ⟨rfl, rfl, hf, hl, n1, n2, n3⟩
theorem fld_x {x c c' : Addr} {es : Fw.Env} {fv : Fw.Env → O R} {f : Str} (h : fv es = .exc c' none) : gFld x c f fv es = .exc es c' none := by
  unfold gFld
  rw [h]; rfl
theorem seq_x {g h : Fw.Env → Out} {es e2 : Fw.Env} {c : Addr} (h1 : g es = .exc e2 c none) : gSeq g h es = .exc e2 c none := by unfold gSeq; rw [h1]; rfl
theorem call_new {g : List D → O R} {fr : Fw.Env → O (List R)} {es : Fw.Env} {rs : List R} {xs : List D} (h1 : fr es = .ok rs) (hg : g (rs.map R.dat) = .ok (.new xs)) : fCall g fr es = .ok (.new xs) := by unfold fCall; rw [h1, O.bind_ok, hg]
theorem call_val {g : List D → O R} {fr : Fw.Env → O (List R)} {es : Fw.Env} {rs : List R} {d : D} (h1 : fr es = .ok rs) (hg : g (rs.map R.dat) = .ok (.val d)) : fCall g fr es = .ok (.val d) := by unfold fCall; rw [h1, O.bind_ok, hg]
theorem call_x {g : List D → O R} {fr : Fw.Env → O (List R)} {es : Fw.Env} {rs : List R} {c : Addr} (h1 : fr es = .ok rs) (hg : g (rs.map R.dat) = .exc c none) : fCall g fr es = .exc c none := by unfold fCall; rw [h1, O.bind_ok, hg]
theorem noInsL_ints : ∀ ns : List Int, noInsL (ns.map D.int) = true
  | [] => rfl
  | n :: ns => by rw [List.map_cons, noInsL, noInsL_ints ns]; rfl
/-- two arguments of which the first may be anything -/
theorem two_args {es : Fw.Env} {i j : Nat} {x : D} {m : Int} (hx : fVar i es = .ok (nrm x)) (hm : fVar j es = .ok (.val (.int m))) : fCons (fVar i) (fCons (fVar j) fNil) es = .ok [nrm x, .val (.int m)] := by
  unfold fCons
  rw [hx, O.bind_ok, hm, O.bind_ok, nil_o, O.bind_ok, O.bind_ok, nrm_fz]; rfl
theorem slot_nrm {es : Fw.Env} {i : Nat} {x : D} (h : es[i]? = some (slotD x)) : fVar i es = .ok (nrm x) := by
  unfold fVar
  rw [h]
  unfold slotD nrm
  cases hf : flat x
  · simp [nrm, hf]
  · simp
theorem noInsS_slot {x : D} (h : flat x = true → noIns x = true) : noInsS (slotD x) = true := by
  unfold slotD
  cases hf : flat x
  · rfl
  · exact h hf
theorem flat_noIns {x : D} (h : flat x = true) : noIns x = true := by
  cases x <;> first | rfl | (exact absurd h (by simp [flat]))
abbrev inits (y : Addr) (a b c : D) (cl : Cl) : Fw.Env := [.val (.slf y (cl.at_ "Saying") [] []), slotD a, slotD b, slotD c, .no, .no]
theorem startI_eq (y : Addr) (a b c : D) : startI y (cl.at_ "Saying") 6 [a, b, c] = inits y a b c cl := rfl
theorem tail_ok {s : Sl} {a b c : D} {u v : Sl} (hu : noInsS u = true) (hv : noInsS v = true) : ([s, slotD a, slotD b, slotD c, u, v] : Fw.Env).tail.all noInsS = true := by
  have h : ∀ x : D, noInsS (slotD x) = true := fun x => noInsS_slot flat_noIns
  simp [h, hu, hv]
theorem not_count {x b c : D} (h : g_is_count cl [x] = .ok (.val (.bl false))) (y : Addr) : g_Saying___init cl y [x, b, c] = .exc (cl.at_ "BadCount") none := by
  have e : b_Saying___init cl y (inits y x b c cl) = .exc (inits y x b c cl) (cl.at_ "BadCount") none := by
    unfold b_Saying___init
    refine seq_x ?_
    have hv : fVar 1 (inits y x b c cl) = .ok (nrm x) := slot_nrm rfl
    have ha : fCons (fVar 1) fNil (inits y x b c cl) = .ok [nrm x] := by
      unfold fCons; rw [hv, O.bind_ok, nil_o, O.bind_ok, nrm_fz]
    have hc : fCall0 (g_is_count cl) (fCons (fVar 1) fNil) (inits y x b c cl) = .ok (.val (.bl false)) := call_o ha (by
      show g_is_count cl [(nrm x).dat] = _
      rw [nrm_dat]; exact h)
    rw [if_t (not_o (k := false) (test_o hc))]; rfl
  show (match b_Saying___init cl y (startI y (cl.at_ "Saying") 6 [x, b, c]) with | .nx es => _ | .exc _ c' fs => _ | _ => _) = _
  rw [startI_eq, e]
/-- the way up to the lists -/
theorem init_on {m : Nat} (m0 : 1 ≤ m) (m1 : m ≤ 5) (b c : D) (y : Addr) (rest : Fw.Env → Out) :
    gSeq (gIf (fNot (fTest (fCall0 (g_is_count cl) (fCons (fVar 1) fNil)))) (gRaise (cl.at_ "BadCount")) gNext) (gSeq (gFld y (cl.at_ "Saying") "_many" (fVar 1)) rest) (inits y (.int m) b c cl)
      = rest [.val (.slf y (cl.at_ "Saying") ["_many"] [.int m]), .val (.int m), slotD b, slotD c, .no, .no] := by
  have hc : fCall0 (g_is_count cl) (fCons (fVar 1) fNil) (inits y (.int m) b c cl) = .ok (.val (.bl true)) := call_o (cons_o rfl nil_o) (by
    show g_is_count cl [.int (m : Int)] = _
    rw [count_int, decide_eq_true (by omega), decide_eq_true (by omega)]; rfl)
  rw [seq_n (if_f (not_o (k := true) (test_o hc)))]
  have hf : gFld y (cl.at_ "Saying") "_many" (fVar 1) (inits y (.int m) b c cl) = .nx _ := fld_v (r := .val (.int m)) rfl rfl rfl (by simp) (by decide) rfl rfl (tail_ok rfl rfl)
  rw [seq_n hf]; rfl
theorem on_bad {m : Nat} (m0 : 1 ≤ m) (m1 : m ≤ 5) {b c : D} {k : Addr} (h : g_rising_settings cl [b, .int m] = .exc k none) (y : Addr) : g_Saying___init cl y [.int m, b, c] = .exc k none := by
  have e : ∃ es, b_Saying___init cl y (inits y (.int m) b c cl) = .exc es k none := by
    refine ⟨[.val (.slf y (cl.at_ "Saying") ["_many"] [.int m]), .val (.int m), slotD b, slotD c, .no, .no], ?_⟩
    unfold b_Saying___init
    rw [init_on m0 m1]
    refine seq_x (fld_x (call_x (two_args (slot_nrm rfl) rfl) ?_))
    show g_rising_settings cl [(nrm b).dat, .int m] = _
    rw [nrm_dat]; exact h
  obtain ⟨es, e⟩ := e
  show (match b_Saying___init cl y (startI y (cl.at_ "Saying") 6 [.int m, b, c]) with | .nx es => _ | .exc _ c' fs => _ | _ => _) = _
  rw [startI_eq, e]
/-- .. with the lists that are on -/
theorem init_free {m : Nat} (m0 : 1 ≤ m) (m1 : m ≤ 5) {b : D} {on : List Int} (h : g_rising_settings cl [b, .int m] = .ok (.new (on.map .int))) (c : D) (y : Addr) (rest : Fw.Env → Out) :
    gSeq (gIf (fNot (fTest (fCall0 (g_is_count cl) (fCons (fVar 1) fNil)))) (gRaise (cl.at_ "BadCount")) gNext) (gSeq (gFld y (cl.at_ "Saying") "_many" (fVar 1)) (gSeq (gFld y (cl.at_ "Saying") "_on" (fCall (g_rising_settings cl) (fCons (fVar 2) (fCons (fVar 1) fNil)))) rest)) (inits y (.int m) b c cl)
      = rest [.val (.slf y (cl.at_ "Saying") ["_many", "_on"] [.int m, .lst (on.map .int)]), .val (.int m), slotD b, slotD c, .no, .no] := by
  rw [init_on m0 m1]
  have hc : fCall (g_rising_settings cl) (fCons (fVar 2) (fCons (fVar 1) fNil)) [.val (.slf y (cl.at_ "Saying") ["_many"] [.int m]), .val (.int m), slotD b, slotD c, .no, .no] = .ok (.new (on.map .int)) := call_new (two_args (slot_nrm rfl) rfl) (by
    show g_rising_settings cl [(nrm b).dat, .int m] = _
    rw [nrm_dat]; exact h)
  have hf : gFld y (cl.at_ "Saying") "_on" (fCall (g_rising_settings cl) (fCons (fVar 2) (fCons (fVar 1) fNil))) [.val (.slf y (cl.at_ "Saying") ["_many"] [.int m]), .val (.int m), slotD b, slotD c, .no, .no] = .nx _ :=
    fld_v hc rfl rfl (by decide) (by decide) (noInsL_ints on) rfl (tail_ok (a := .int m) rfl rfl)
  rw [seq_n hf]; rfl
end K02
namespace K02
open PySem PySem.Spec PyProof.Rows L2 Fw
variable {cl : Cl}
theorem isB_non (x : D) : isB (nrm x) (.val .non) = some (isNonD x) := by
  unfold isB
  rw [nrm_dat]
  cases x <;> rfl
theorem is_non {es : Fw.Env} {i : Nat} {x : D} (h : fVar i es = .ok (nrm x)) : fBin dIs (fVar i) (fC .non) es = .ok (.val (.bl (isNonD x))) := by
  refine bin_g h rfl ?_
  rw [nrm_fz]
  show (isB (nrm x) (.val .non)).map _ = _
  rw [isB_non]; rfl
/-- the free ones of what is handed in -/
def FreeIs (cl : Cl) (m : Nat) (c : D) (fr : List Int) : Prop := (c = .non ∧ fr = []) ∨ (isNonD c = false ∧ g_rising_settings cl [c, .int m] = .ok (.new (fr.map .int)))
theorem free_bad {m : Nat} (m0 : 1 ≤ m) (m1 : m ≤ 5) {b c : D} {on : List Int} {k : Addr} (h : g_rising_settings cl [b, .int m] = .ok (.new (on.map .int))) (hn : isNonD c = false) (hc : g_rising_settings cl [c, .int m] = .exc k none) (y : Addr) : g_Saying___init cl y [.int m, b, c] = .exc k none := by
  have e : ∃ es, b_Saying___init cl y (inits y (.int m) b c cl) = .exc es k none := by
    refine ⟨[.val (.slf y (cl.at_ "Saying") ["_many", "_on"] [.int m, .lst (on.map .int)]), .val (.int m), slotD b, slotD c, .no, .no], ?_⟩
    unfold b_Saying___init
    rw [init_free m0 m1 h]
    refine seq_x (fld_x ?_)
    rw [ifv_o (test_o (is_non (x := c) (slot_nrm rfl))), hn, if_neg Bool.false_ne_true]
    refine call_x (two_args (slot_nrm rfl) rfl) ?_
    show g_rising_settings cl [(nrm c).dat, .int m] = _
    rw [nrm_dat]; exact hc
  obtain ⟨es, e⟩ := e
  show (match b_Saying___init cl y (startI y (cl.at_ "Saying") 6 [.int m, b, c]) with | .nx es => _ | .exc _ c' fs => _ | _ => _) = _
  rw [startI_eq, e]
theorem len_setV {es : Fw.Env} {fa : Fw.Env → O R} {ns : List Int} (h : fa es = .ok (.val (.lst (ns.map .int)))) (hl : ns.length ≤ 4000) : fLenSet fa es = .ok (.val (.int (difN ns : Nat))) := by
  unfold fLenSet
  rw [h, O.bind_ok]
  show O.of (match intsOf (ns.map D.int) with | some ns => _ | none => _) = _
  rw [ints_of]
  show O.of (if ns.length ≤ 4000 then _ else _) = _
  rw [if_pos hl]; rfl
theorem all_settings_eq {n : Nat} (h : n ≤ 5) : g_all_settings cl [.int n] = .ok (.new ((List.range (2 ^ n)).map fun i => .int (i : Nat))) := by
  refine congrArg fin (?_ : b_all_settings cl [.val (.int n)] = .rt _)
  unfold b_all_settings
  refine ret_n ?_
  unfold fLRg1
  rw [bin_o (fc_o) rfl (shl_o (by omega)), O.bind_ok]
  have := pow_le h
  show (if _ ∧ _ then _ else _) = _
  revert this
  generalize 2 ^ n = m
  intro this
  rw [if_pos (by omega), Int.toNat_natCast]
/-- no one of them -/
def outOf (told : List Int) (i : Nat) : Bool := !(told.any fun n => n == (i : Int))
theorem nin_ints (told : List Int) (i : Nat) : dNin (.val (.int i)) (.val (.lst (told.map .int))) = some (.val (.bl (outOf told i))) := by
  have hp : (told.map D.int).all plainF = true := by
    rw [List.all_eq_true]
    intro d hd
    obtain ⟨n, _, rfl⟩ := List.mem_map.mp hd
    rfl
  show (if plainF (.int i) && (told.map D.int).all plainF then some (R.val (.bl (!(told.map D.int).any fun d => deq d (.int i)))) else none) = _
  rw [hp]
  show some (R.val (.bl (!(told.map D.int).any fun d => deq d (.int i)))) = _
  rw [List.any_map]; rfl
def offs (m : Nat) (told : List Int) : List Nat := (List.range (2 ^ m)).filter (outOf told)
def sayD (cl : Cl) (m : Nat) (on fr : List Int) : D := .ins (cl.at_ "Saying") ["_many", "_on", "_free", "_off"] [.int m, .lst (on.map .int), .lst (fr.map .int), .lst ((offs m (on ++ fr)).map fun i => .int (i : Nat))]
theorem noInsL_nats : ∀ ns : List Nat, noInsL (ns.map fun i => D.int (i : Nat)) = true
  | [] => rfl
  | n :: ns => by rw [List.map_cons, noInsL, noInsL_nats ns]; rfl
/-- what stands behind the lists -/
theorem init_told {m : Nat} (m0 : 1 ≤ m) (m1 : m ≤ 5) {b c : D} {on fr : List Int} (h : g_rising_settings cl [b, .int m] = .ok (.new (on.map .int))) (hf : FreeIs cl m c fr) (hl : on.length + fr.length ≤ 4000) (y : Addr) :
    b_Saying___init cl y (inits y (.int m) b c cl) = gSeq (gIf (fTest (fBin dNe (fLenSet (fVar 4)) (fBi dLen (fCons (fVar 4) fNil)))) (gRaise (cl.at_ "BadRows")) gNext)
      (gFld y (cl.at_ "Saying") "_off" (fLc (fIt false (fCall0 (g_all_settings cl) (fCons (fVar 1) fNil))) [5] (.nm 5) (fTest (fBin dNin (fVar 5) (fVar 4))) (fVar 5)))
      [.val (.slf y (cl.at_ "Saying") ["_many", "_on", "_free"] [.int m, .lst (on.map .int), .lst (fr.map .int)]), .val (.int m), slotD b, slotD c, .val (.lst ((on ++ fr).map .int)), .no] := by
  unfold b_Saying___init
  rw [init_free m0 m1 h]
  have hv : fIf (fTest (fBin dIs (fVar 3) (fC .non))) (fLst fNil) (fCall (g_rising_settings cl) (fCons (fVar 3) (fCons (fVar 1) fNil))) [.val (.slf y (cl.at_ "Saying") ["_many", "_on"] [.int m, .lst (on.map .int)]), .val (.int m), slotD b, slotD c, .no, .no] = .ok (.new (fr.map .int)) := by
    rw [ifv_o (test_o (is_non (x := c) (slot_nrm rfl)))]
    rcases hf with ⟨rfl, rfl⟩ | ⟨hn, hr⟩
    · rfl
    · rw [hn, if_neg Bool.false_ne_true]
      refine call_new (two_args (slot_nrm rfl) rfl) ?_
      show g_rising_settings cl [(nrm c).dat, .int m] = _
      rw [nrm_dat]; exact hr
  have h2 : noInsL [D.int (m : Int), .lst (on.map .int)] = true := by
    show (noIns (.int (m : Int)) && (noInsL (on.map .int) && noInsL [])) = true
    rw [noInsL_ints]; rfl
  have hf3 : gFld y (cl.at_ "Saying") "_free" (fIf (fTest (fBin dIs (fVar 3) (fC .non))) (fLst fNil) (fCall (g_rising_settings cl) (fCons (fVar 3) (fCons (fVar 1) fNil)))) [.val (.slf y (cl.at_ "Saying") ["_many", "_on"] [.int m, .lst (on.map .int)]), .val (.int m), slotD b, slotD c, .no, .no] = .nx _ :=
    fld_v hv rfl rfl (by decide) (by decide) (noInsL_ints fr) h2 (tail_ok (a := .int m) rfl rfl)
  rw [seq_n hf3]
  show gSeq _ _ [.val (.slf y (cl.at_ "Saying") ["_many", "_on", "_free"] [.int m, .lst (on.map .int), .lst (fr.map .int)]), .val (.int m), slotD b, slotD c, .no, .no] = _
  have hadd : fBin dAdd (fFld "_on" (cl.at_ "Saying") (fVar 0)) (fFld "_free" (cl.at_ "Saying") (fVar 0)) [.val (.slf y (cl.at_ "Saying") ["_many", "_on", "_free"] [.int m, .lst (on.map .int), .lst (fr.map .int)]), .val (.int m), slotD b, slotD c, .no, .no] = .ok (.new ((on ++ fr).map .int)) := by
    have f1 : fFld "_on" (cl.at_ "Saying") (fVar 0) [.val (.slf y (cl.at_ "Saying") ["_many", "_on", "_free"] [.int m, .lst (on.map .int), .lst (fr.map .int)]), .val (.int m), slotD b, slotD c, .no, .no] = .ok (.val (.lst (on.map .int))) := by
      show O.of (if cl.at_ "Saying" = cl.at_ "Saying" then _ else _) = _
      rw [if_pos rfl]; rfl
    have f2 : fFld "_free" (cl.at_ "Saying") (fVar 0) [.val (.slf y (cl.at_ "Saying") ["_many", "_on", "_free"] [.int m, .lst (on.map .int), .lst (fr.map .int)]), .val (.int m), slotD b, slotD c, .no, .no] = .ok (.val (.lst (fr.map .int))) := by
      show O.of (if cl.at_ "Saying" = cl.at_ "Saying" then _ else _) = _
      rw [if_pos rfl]; rfl
    refine bin_o f1 f2 ?_
    show (if (on.map D.int).length + (fr.map D.int).length ≤ 100000 then some (R.new (on.map D.int ++ fr.map D.int)) else none) = _
    rw [if_pos (by simp; omega), List.map_append]
  rw [seq_n (set_n hadd)]
  rfl
theorem told_tst {m : Nat} {b c : D} {on fr : List Int} (hl : on.length + fr.length ≤ 4000) (s0 : Sl) : fTest (fBin dNe (fLenSet (fVar 4)) (fBi dLen (fCons (fVar 4) fNil))) [s0, .val (.int m), slotD b, slotD c, .val (.lst ((on ++ fr).map .int)), .no] = .ok (!(((difN (on ++ fr) : Nat) : Int) == (((on ++ fr).length : Nat) : Int))) := by
  refine test_o (bin_o (len_setV rfl (by simp; omega)) (len_l rfl) ?_)
  rw [ne_i, List.length_map]
theorem told_dup {m : Nat} (m0 : 1 ≤ m) (m1 : m ≤ 5) {b c : D} {on fr : List Int} (h : g_rising_settings cl [b, .int m] = .ok (.new (on.map .int))) (hf : FreeIs cl m c fr) (hl : on.length + fr.length ≤ 4000) (hd : ¬ (on ++ fr).Nodup) (y : Addr) : g_Saying___init cl y [.int m, b, c] = .exc (cl.at_ "BadRows") none := by
  have t := told_tst (m := m) (b := b) (c := c) hl (.val (.slf y (cl.at_ "Saying") ["_many", "_on", "_free"] [.int m, .lst (on.map .int), .lst (fr.map .int)]))
  have e1 : (!(((difN (on ++ fr) : Nat) : Int) == (((on ++ fr).length : Nat) : Int))) = true := by
    have := difN_dup hd
    simp only [Bool.not_eq_true', beq_eq_false_iff_ne, ne_eq]
    omega
  rw [e1] at t
  have e := init_told m0 m1 h hf hl y
  rw [seq_x (g := gIf _ _ _) (e2 := _) (c := cl.at_ "BadRows") ((if_t t).trans rfl)] at e
  show (match b_Saying___init cl y (startI y (cl.at_ "Saying") 6 [.int m, b, c]) with | .nx es => _ | .exc _ c' fs => _ | _ => _) = _
  rw [startI_eq, e]
theorem made {m : Nat} (m0 : 1 ≤ m) (m1 : m ≤ 5) {b c : D} {on fr : List Int} (h : g_rising_settings cl [b, .int m] = .ok (.new (on.map .int))) (hf : FreeIs cl m c fr) (hl : on.length + fr.length ≤ 4000) (hd : (on ++ fr).Nodup) (y : Addr) : g_Saying___init cl y [.int m, b, c] = .ok (.val (sayD cl m on fr)) := by
  have t := told_tst (m := m) (b := b) (c := c) hl (.val (.slf y (cl.at_ "Saying") ["_many", "_on", "_free"] [.int m, .lst (on.map .int), .lst (fr.map .int)]))
  rw [difN_nodup hd] at t
  have e1 : (!((((on ++ fr).length : Nat) : Int) == (((on ++ fr).length : Nat) : Int))) = false := by simp
  rw [e1] at t
  have e := init_told m0 m1 h hf hl y
  rw [seq_n (if_f t)] at e
  have hsrc : fIt false (fCall0 (g_all_settings cl) (fCons (fVar 1) fNil)) [.val (.slf y (cl.at_ "Saying") ["_many", "_on", "_free"] [.int m, .lst (on.map .int), .lst (fr.map .int)]), .val (.int m), slotD b, slotD c, .val (.lst ((on ++ fr).map .int)), .no] = .ok (rgD 0 (2 ^ m)) := by
    unfold fIt
    rw [call_n (cons_o rfl nil_o) (all_settings_eq m1), O.bind_ok]
    show O.of (some (((List.range (2 ^ m)).map fun i => D.int (i : Nat)).map R.val)) = _
    rw [List.map_map, rgD]
    simp only [Int.zero_add]
    rfl
  have hlc : fLc (fIt false (fCall0 (g_all_settings cl) (fCons (fVar 1) fNil))) [5] (.nm 5) (fTest (fBin dNin (fVar 5) (fVar 4))) (fVar 5) [.val (.slf y (cl.at_ "Saying") ["_many", "_on", "_free"] [.int m, .lst (on.map .int), .lst (fr.map .int)]), .val (.int m), slotD b, slotD c, .val (.lst ((on ++ fr).map .int)), .no] = .ok (.new ((offs m (on ++ fr)).map fun i => .int (i : Nat))) :=
    lc_o hsrc (Nat.le_trans (pow_le m1) (by decide)) fun i hi => ⟨_, rfl, test_o (bin_o rfl rfl (nin_ints _ i)), fun _ => rfl⟩
  have h3 : noInsL [D.int (m : Int), .lst (on.map .int), .lst (fr.map .int)] = true := by
    show (noIns (.int (m : Int)) && (noInsL (on.map .int) && (noInsL (fr.map .int) && noInsL []))) = true
    rw [noInsL_ints, noInsL_ints]; rfl
  have hfl : gFld y (cl.at_ "Saying") "_off" (fLc (fIt false (fCall0 (g_all_settings cl) (fCons (fVar 1) fNil))) [5] (.nm 5) (fTest (fBin dNin (fVar 5) (fVar 4))) (fVar 5)) [.val (.slf y (cl.at_ "Saying") ["_many", "_on", "_free"] [.int m, .lst (on.map .int), .lst (fr.map .int)]), .val (.int m), slotD b, slotD c, .val (.lst ((on ++ fr).map .int)), .no] = .nx _ :=
    fld_v hlc rfl rfl (by decide) (by decide) (noInsL_nats _) h3 (tail_ok (a := .int m) (noInsL_ints _) rfl)
  rw [hfl] at e
  show (match b_Saying___init cl y (startI y (cl.at_ "Saying") 6 [.int m, b, c]) with | .nx es => endI y es | .exc _ c' fs => _ | _ => _) = _
  rw [startI_eq, e]
  show endI y _ = _
  unfold endI
  show (if y = y then _ else _) = _
  rw [if_pos rfl]; rfl
/-- the maker, by what it does at every place -/
theorem mk_of {ds : List D} {r : O R} (h : ∀ y, g_Saying___init cl y ds = r) : mk_Saying cl ds = r := by
  unfold mk_Saying
  rw [if_pos (fun y => by rw [h y, h 0]), h 0]
theorem hmk (ds : List D) (h : mk_Saying cl ds ≠ .no) (y : Addr) : g_Saying___init cl y ds = mk_Saying cl ds := by
  unfold mk_Saying at h ⊢
  split
  · rename_i z
    exact z y
  · rename_i z
    rw [if_neg z] at h
    exact absurd rfl h
end K02
namespace K02
open PySem PySem.Spec PyProof.Rows L2 Fw
variable {cl : Cl}
/-! ### words of refusals -/
/-- what is known of an error class -/
structure Kn (cl : Cl) (c : String) (b1 b2 b3 b4 b5 : Bool) : Prop where
  v : cl.kx (cl.at_ c) (.ty "ValueError") = some true
  k1 : cl.kx (cl.at_ c) (.cls (cl.at_ "BadCount")) = some b1
  k2 : cl.kx (cl.at_ c) (.cls (cl.at_ "BadRows")) = some b2
  k3 : cl.kx (cl.at_ c) (.cls (cl.at_ "BadTerm")) = some b3
  k4 : cl.kx (cl.at_ c) (.cls (cl.at_ "BadTelling")) = some b4
  k5 : cl.kx (cl.at_ c) (.cls (cl.at_ "BadNote")) = some b5
  x : cl.ex (cl.at_ c) (cl.at_ "TermError") = some true
theorem rep_b {s : List Nat} (hs : s.length ≤ 1000) (b : Bool) : dMulA (.val (.str s)) (.val (.int (if b then 1 else 0))) = some (.val (.str (if b then s else []))) := by
  cases b
  · show (if s.length ≤ 1000 ∧ -1000 ≤ (0 : Int) ∧ (0 : Int) ≤ 1000 then some (R.val (.str (repS s 0))) else none) = _
    rw [if_pos ⟨hs, by decide, by decide⟩]; rfl
  · show (if s.length ≤ 1000 ∧ -1000 ≤ (1 : Int) ∧ (1 : Int) ≤ 1000 then some (R.val (.str (repS s 1))) else none) = _
    rw [if_pos ⟨hs, by decide, by decide⟩]
    simp [repS]
def wCount : List Nat := [99, 111, 117, 110, 116, 32]
def wRows : List Nat := [114, 111, 119, 115, 32]
def wTerm : List Nat := [116, 101, 114, 109, 32]
def wTelling : List Nat := [116, 101, 108, 108, 105, 110, 103, 32]
def wNote : List Nat := [110, 111, 116, 101, 32]
def opt (b : Bool) (s : List Nat) : List Nat := if b then s else []
theorem opt_len (b : Bool) (s : List Nat) : (opt b s).length ≤ s.length := by cases b <;> simp [opt]
theorem isx_o {es : Fw.Env} {fa fb : Fw.Env → O R} {c : Addr} {t : D} {b : Bool} {r : R} (ha : fa es = .ok r) (hr : r.fz.dat = .exn c [] []) (hb : fb es = .ok (.val t)) (h : cl.kx c t = some b) : fBi (dIsX cl) (fCons fa (fCons fb fNil)) es = .ok (.val (.bl b)) := by
  refine bi_o (rs := [r.fz, .val t]) ?_ ?_
  · unfold fCons; rw [ha, O.bind_ok]
    show ((fb es).bind _).bind _ = _
    rw [hb]; rfl
  · show (match isX cl r.fz.dat t with | some k => some (R.val (.bl k)) | none => _) = _
    rw [hr]
    show (match cl.kx c t with | some k => some (R.val (.bl k)) | none => _) = _
    rw [h]
theorem int_b {es : Fw.Env} {f : Fw.Env → O R} {b : Bool} (h : f es = .ok (.val (.bl b))) : fBi dInt (fCons f fNil) es = .ok (.val (.int (if b then 1 else 0))) := bi_o (cons_o h nil_o) rfl
theorem mul_b {es : Fw.Env} {f : Fw.Env → O R} {b : Bool} {s : List Nat} (hs : s.length ≤ 1000) (h : f es = .ok (.val (.bl b))) : fBin dMulA (fC (.str s)) (fBi dInt (fCons f fNil)) es = .ok (.val (.str (opt b s))) := bin_o rfl (int_b h) (rep_b hs b)
theorem word_exn {c : String} {b1 b2 b3 b4 b5 : Bool} (K : Kn cl c b1 b2 b3 b4 b5) : g_law_word cl [.exn (cl.at_ c) [] []] = .ok (.val (.str ((((opt b1 wCount ++ opt b2 wRows) ++ opt b3 wTerm) ++ opt b4 wTelling) ++ opt b5 wNote))) := by
  refine congrArg fin (?_ : b_law_word cl [.brw (.exn (cl.at_ c) [] []), .no] = .rt _)
  unfold b_law_word
  have hv : ∀ s : Sl, fVar 0 [.brw (.exn (cl.at_ c) [] []), s] = .ok (.brw (.exn (cl.at_ c) [] [])) := fun s => rfl
  have l1 := opt_len b1 wCount
  have l2 := opt_len b2 wRows
  have l3 := opt_len b3 wTerm
  have l4 := opt_len b4 wTelling
  have l5 := opt_len b5 wNote
  have w1 : wCount.length = 6 := rfl
  have w2 : wRows.length = 5 := rfl
  have w3 : wTerm.length = 5 := rfl
  have w4 : wTelling.length = 8 := rfl
  have w5 : wNote.length = 5 := rfl
  have t1 : fTest (fBin dIs (fVar 0) (fC .non)) [.brw (.exn (cl.at_ c) [] []), .no] = .ok false := test_o (bin_g (ra := .brw (.exn (cl.at_ c) [] [])) (rb := .val .non) (hv _) rfl rfl)
  have t2 := not_o (k := true) (test_o (isx_o (cl := cl) (fb := fC (.ty "ValueError")) (hv .no) rfl rfl K.v))
  rw [seq_n (if_f ((or_f t1).trans t2))]
  have s1 : gSet 1 true (fBin dAdd (fBin dMulA (fC (.str [99, 111, 117, 110, 116, 32])) (fBi dInt (fCons (fBi (dIsX cl) (fCons (fVar 0) (fCons (fC (.cls (cl.at_ "BadCount"))) fNil))) fNil))) (fBin dMulA (fC (.str [114, 111, 119, 115, 32])) (fBi dInt (fCons (fBi (dIsX cl) (fCons (fVar 0) (fCons (fC (.cls (cl.at_ "BadRows"))) fNil))) fNil)))) [.brw (.exn (cl.at_ c) [] []), .no]
      = .nx [.brw (.exn (cl.at_ c) [] []), .val (.str (opt b1 wCount ++ opt b2 wRows))] :=
    set_v (bin_o (mul_b (by decide) (isx_o (hv .no) rfl rfl K.k1)) (mul_b (by decide) (isx_o (hv .no) rfl rfl K.k2)) (add_s (le100k (show (opt b1 wCount).length + (opt b2 wRows).length ≤ 50 by omega))))
  rw [seq_n s1]
  have s2 : gSet 1 true (fBin dAdd (fBin dAdd (fVar 1) (fBin dMulA (fC (.str [116, 101, 114, 109, 32])) (fBi dInt (fCons (fBi (dIsX cl) (fCons (fVar 0) (fCons (fC (.cls (cl.at_ "BadTerm"))) fNil))) fNil)))) (fBin dMulA (fC (.str [116, 101, 108, 108, 105, 110, 103, 32])) (fBi dInt (fCons (fBi (dIsX cl) (fCons (fVar 0) (fCons (fC (.cls (cl.at_ "BadTelling"))) fNil))) fNil)))) [.brw (.exn (cl.at_ c) [] []), .val (.str (opt b1 wCount ++ opt b2 wRows))]
      = .nx [.brw (.exn (cl.at_ c) [] []), .val (.str (((opt b1 wCount ++ opt b2 wRows) ++ opt b3 wTerm) ++ opt b4 wTelling))] :=
    set_v (bin_o (bin_o rfl (mul_b (by decide) (isx_o (hv _) rfl rfl K.k3)) (add_s (le100k (show (opt b1 wCount ++ opt b2 wRows).length + (opt b3 wTerm).length ≤ 50 by rw [List.length_append]; omega)))) (mul_b (by decide) (isx_o (hv _) rfl rfl K.k4)) (add_s (le100k (show ((opt b1 wCount ++ opt b2 wRows) ++ opt b3 wTerm).length + (opt b4 wTelling).length ≤ 50 by rw [List.length_append, List.length_append]; omega))))
  rw [seq_n s2]
  exact ret_v (bin_o rfl (mul_b (by decide) (isx_o (hv _) rfl rfl K.k5)) (add_s (le100k (show (((opt b1 wCount ++ opt b2 wRows) ++ opt b3 wTerm) ++ opt b4 wTelling).length + (opt b5 wNote).length ≤ 50 by rw [List.length_append, List.length_append, List.length_append]; omega))))
theorem word_none : g_law_word cl [.non] = .ok (.val (.str [110, 111, 110, 101])) := by
  refine congrArg fin (?_ : b_law_word cl [.val .non, .no] = .rt _)
  unfold b_law_word
  exact seq_r ((if_t (or_t (test_o (bin_o rfl rfl rfl)))).trans (ret_v rfl))
/-! ### caught -/
theorem args3 {a b c : D} {s t : Sl} : fCons (fVar 0) (fCons (fVar 1) (fCons (fVar 2) fNil)) [slotD a, slotD b, slotD c, s, t] = .ok [nrm a, nrm b, nrm c] := by
  have h0 : fVar 0 [slotD a, slotD b, slotD c, s, t] = .ok (nrm a) := slot_nrm rfl
  have h1 : fVar 1 [slotD a, slotD b, slotD c, s, t] = .ok (nrm b) := slot_nrm rfl
  have h2 : fVar 2 [slotD a, slotD b, slotD c, s, t] = .ok (nrm c) := slot_nrm rfl
  unfold fCons
  rw [h0, O.bind_ok]
  show (((fVar 1 _).bind fun a => ((fVar 2 _).bind fun a => (fNil _).bind fun r => O.ok (a.fz :: r)).bind fun r => O.ok (a.fz :: r))).bind _ = _
  rw [h1, O.bind_ok, h2, O.bind_ok, nil_o, O.bind_ok, O.bind_ok, O.bind_ok, nrm_fz, nrm_fz, nrm_fz]
theorem caught_x {a b c : D} {k : String} {b1 b2 b3 b4 b5 : Bool} (K : Kn cl k b1 b2 b3 b4 b5) (h : mk_Saying cl [a, b, c] = .exc (cl.at_ k) none) : g_law_caught cl [a, b, c] = .ok (.val (.str ((((opt b1 wCount ++ opt b2 wRows) ++ opt b3 wTerm) ++ opt b4 wTelling) ++ opt b5 wNote))) := by
  refine congrArg fin (?_ : b_law_caught cl [slotD a, slotD b, slotD c, .no, .no] = .rt _)
  unfold b_law_caught
  have s1 : gSet 3 true (fC .non) [slotD a, slotD b, slotD c, .no, .no] = .nx [slotD a, slotD b, slotD c, .val .non, .no] := set_v rfl
  rw [seq_n s1]
  have hm : fMake (mk_Saying cl) [] (fCons (fVar 0) (fCons (fVar 1) (fCons (fVar 2) fNil))) [slotD a, slotD b, slotD c, .val .non, .no] = .exc (cl.at_ k) none := by
    unfold fMake
    rw [args3, O.bind_ok]
    show (match mk_Saying cl [(nrm a).dat, (nrm b).dat, (nrm c).dat] with | .ok (.val d) => _ | .exc c fs => _ | _ => _) = _
    rw [nrm_dat, nrm_dat, nrm_dat, h]
  have s2 : gTry (fun c => cl.ex c (cl.at_ "TermError")) 4 (gExpr (fMake (mk_Saying cl) [] (fCons (fVar 0) (fCons (fVar 1) (fCons (fVar 2) fNil))))) (gSet 3 true (fVar 4)) [slotD a, slotD b, slotD c, .val .non, .no]
      = .nx [slotD a, slotD b, slotD c, .val (.exn (cl.at_ k) [] []), .no] := by
    unfold gTry gExpr
    rw [hm]
    show (match cl.ex (cl.at_ k) (cl.at_ "TermError") with | some true => _ | some false => _ | none => _) = _
    rw [K.x]
    rfl
  rw [seq_n s2]
  exact ret_v (call_o (cons_o rfl nil_o) (word_exn K))
theorem caught_none {a b c d : D} (h : mk_Saying cl [a, b, c] = .ok (.val d)) : g_law_caught cl [a, b, c] = .ok (.val (.str [110, 111, 110, 101])) := by
  refine congrArg fin (?_ : b_law_caught cl [slotD a, slotD b, slotD c, .no, .no] = .rt _)
  unfold b_law_caught
  have s1 : gSet 3 true (fC .non) [slotD a, slotD b, slotD c, .no, .no] = .nx [slotD a, slotD b, slotD c, .val .non, .no] := set_v rfl
  rw [seq_n s1]
  have hm : fMake (mk_Saying cl) [] (fCons (fVar 0) (fCons (fVar 1) (fCons (fVar 2) fNil))) [slotD a, slotD b, slotD c, .val .non, .no] = .ok (.val d) := by
    unfold fMake
    rw [args3, O.bind_ok]
    show (match mk_Saying cl [(nrm a).dat, (nrm b).dat, (nrm c).dat] with | .ok (.val d) => _ | .exc c fs => _ | _ => _) = _
    rw [nrm_dat, nrm_dat, nrm_dat, h]
  have s2 : gTry (fun c => cl.ex c (cl.at_ "TermError")) 4 (gExpr (fMake (mk_Saying cl) [] (fCons (fVar 0) (fCons (fVar 1) (fCons (fVar 2) fNil))))) (gSet 3 true (fVar 4)) [slotD a, slotD b, slotD c, .val .non, .no]
      = .nx [slotD a, slotD b, slotD c, .val .non, .no] := by
    unfold gTry gExpr
    rw [hm]; rfl
  rw [seq_n s2]
  exact ret_v (call_o (cons_o rfl nil_o) word_none)
/-- the three that are raised here -/
structure Kns (cl : Cl) : Prop where
  c : Kn cl "BadCount" true false false false false
  r : Kn cl "BadRows" false true false false false
  t : Kn cl "BadTerm" false false true false false
theorem caught_count {a b c : D} (K : Kns cl) (h : ∀ y, g_Saying___init cl y [a, b, c] = .exc (cl.at_ "BadCount") none) : g_law_caught cl [a, b, c] = .ok (.val (.str wCount)) := caught_x K.c (mk_of h)
theorem caught_rows {a b c : D} (K : Kns cl) (h : ∀ y, g_Saying___init cl y [a, b, c] = .exc (cl.at_ "BadRows") none) : g_law_caught cl [a, b, c] = .ok (.val (.str wRows)) := caught_x K.r (mk_of h)
end K02
namespace K02
open PySem PySem.Spec PyProof.Rows L2 Fw
variable {cl : Cl}
/-! ### odd lists -/
def oddA (m : Nat) (ns : List Int) : List D := [.non, .tup (ns.map .int), .int 5, .emp, .lst (ns.map .int ++ [.int ((2 ^ m : Nat) : Int)]), .lst (ns.map .int ++ [.int (-1)]), .lst (ns.map .int ++ [.non]), .lst (ns.map .int ++ [.bl true]), .lst (ns.map .int ++ [.str [48]])]
def oddB (ns : List Int) : List D := [.lst (ns.map .int ++ [.int 0, .int 0]), .lst (ns.map .int ++ [.int (10 ^ 30)]), .lst (ns.map .int ++ [.lst [.int 0]]), .lst [.lst (ns.map .int)], .bl true, .str [48]]
theorem odd_bad {m : Nat} (m1 : m ≤ 5) {ns : List Int} (h : GoodS m ns) (hl : ns.length ≤ 100) : ∀ x ∈ oddA m ns ++ oddB ns, g_rising_settings cl [x, .int m] = .exc (cl.at_ "BadRows") none := by
  have m2 : m ≤ 10 := by omega
  have pw := pow_le m1
  have big : BadS m (.int (10 ^ 30)) := fun z => by
    have := z.2
    have h32 : ((2 ^ m : Nat) : Int) ≤ 32 := by exact_mod_cast pw
    have : (10 ^ 30 : Int) < 32 := Int.lt_of_lt_of_le this h32
    exact absurd this (by decide)
  intro x hx
  simp only [oddA, oddB, List.mem_append, List.mem_cons, List.not_mem_nil, or_false] at hx
  rcases hx with (rfl | rfl | rfl | rfl | rfl | rfl | rfl | rfl | rfl) | (rfl | rfl | rfl | rfl | rfl | rfl)
  · exact rows_kind rfl (by decide)
  · exact rows_kind rfl (by decide)
  · exact rows_kind rfl (by decide)
  · exact rows_kind rfl (by decide)
  · exact rows_bad m2 h (x := .int ((2 ^ m : Nat) : Int)) (fun z => by have := z.2; omega) []
  · exact rows_bad m2 h (x := .int (-1)) (fun z => by have := z.1; omega) []
  · exact rows_bad m2 h (x := .non) ⟨_, rfl, by decide⟩ []
  · exact rows_bad m2 h (x := .bl true) ⟨_, rfl, by decide⟩ []
  · exact rows_bad m2 h (x := .str [48]) ⟨_, rfl, by decide⟩ []
  · have e : ns.map D.int ++ [.int 0, .int 0] = (ns ++ [0, 0]).map D.int := by simp
    rw [e]
    refine rows_dup m2 (fun n hn => ?_) (fun z => ?_) (by simp; omega)
    · rcases List.mem_append.mp hn with hn | hn
      · exact h n hn
      · have : n = 0 := by simpa using hn
        subst this
        have : 0 < 2 ^ m := Nat.pow_pos (by decide)
        omega
    · have := (List.nodup_append.mp z).2.1
      simp at this
  · exact rows_bad m2 h (x := .int (10 ^ 30)) big []
  · exact rows_bad m2 h (x := .lst [.int 0]) ⟨_, rfl, by decide⟩ []
  · exact rows_bad (ns := []) m2 (fun n hn => by cases hn) (x := .lst (ns.map .int)) ⟨_, rfl, by decide⟩ []
  · exact rows_kind rfl (by decide)
  · exact rows_kind rfl (by decide)
theorem add_l {es : Fw.Env} {fa fb : Fw.Env → O R} {xs ys : List D} (ha : fa es = .ok (.val (.lst xs))) (hb : fb es = .ok (.new ys)) (hl : xs.length + ys.length ≤ 100000) : fBin dAdd fa fb es = .ok (.new (xs ++ ys)) := by
  refine bin_g ha hb ?_
  show (if xs.length + ys.length ≤ 100000 then some (R.new (xs ++ ys)) else none) = _
  exact if_pos hl
theorem lst1 {es : Fw.Env} {fa : Fw.Env → O R} {x : D} (h : fa es = .ok (.val x)) : fLst (fCons fa fNil) es = .ok (.new [x]) := lst_o (cons_o h nil_o) rfl (by simp)
theorem lst1n {es : Fw.Env} {fa : Fw.Env → O R} {xs : List D} (h : fa es = .ok (.new xs)) : fLst (fCons fa fNil) es = .ok (.new [.lst xs]) := lst_o (cons_n h nil_o) rfl (by simp)
theorem pow_o : dPow (.val (.int 10)) (.val (.int 30)) = some (.val (.int (10 ^ 30))) := by
  show (if shlC 10 30 = true then some (R.val (.int (10 ^ (30 : Int).toNat))) else none) = _
  rw [if_pos (by decide)]; rfl
theorem odd_eq {m : Nat} (m1 : m ≤ 5) {ns : List Int} (hl : ns.length ≤ 100) (d : Nat) : ∃ x ∈ oddA m ns ++ oddB ns, g_law_odd_list cl [.int m, .lst (ns.map .int), .int d] = .ok (.val x) := by
  have hj2 : d % 15 < 15 := Nat.mod_lt _ (by decide)
  have hjl : d % 15 < (oddA m ns ++ oddB ns).length := hj2
  refine ⟨(oddA m ns ++ oddB ns)[d % 15], List.getElem_mem hjl, ?_⟩
  refine congrArg fin (?_ : b_law_odd_list cl [.val (.int m), .val (.lst (ns.map .int)), .val (.int d), .no, .no] = .rt _)
  unfold b_law_odd_list
  have big : ∀ {k : Nat}, k ≤ 10 → (ns.map D.int).length + k ≤ 100000 := fun {k} hk => by rw [List.length_map]; omega
  have s1 : gSet 3 true (fBin dShl (fC (.int 1)) (fVar 0)) [.val (.int m), .val (.lst (ns.map .int)), .val (.int d), .no, .no] = .nx [.val (.int m), .val (.lst (ns.map .int)), .val (.int d), .val (.int ((2 ^ m : Nat) : Int)), .no] :=
    set_v (bin_o rfl rfl (shl_o (by omega)))
  rw [seq_n s1]
  have v1 : ∀ s : Sl, fVar 1 [.val (.int m), .val (.lst (ns.map .int)), .val (.int d), .val (.int ((2 ^ m : Nat) : Int)), s] = .ok (.val (.lst (ns.map .int))) := fun s => rfl
  have ad : ∀ {s : Sl} {f : Fw.Env → O R} {x : D}, f [.val (.int m), .val (.lst (ns.map .int)), .val (.int d), .val (.int ((2 ^ m : Nat) : Int)), s] = .ok (.val x) → fBin dAdd (fVar 1) (fLst (fCons f fNil)) [.val (.int m), .val (.lst (ns.map .int)), .val (.int d), .val (.int ((2 ^ m : Nat) : Int)), s] = .ok (.new (ns.map .int ++ [x])) :=
    fun {s f x} h => add_l (v1 s) (lst1 h) (big (k := 1) (by decide))
  have tu : fBi dTupOf (fCons (fVar 1) fNil) [.val (.int m), .val (.lst (ns.map .int)), .val (.int d), .val (.int ((2 ^ m : Nat) : Int)), .no] = .ok (.val (.tup (ns.map .int))) := bi_o (cons_o rfl nil_o) rfl
  have s2 := set_n (i := 4) (lst_o (cons_o (fa := fC .non) rfl (cons_o tu (cons_o (fa := fC (.int 5)) rfl (cons_o (fa := fC .emp) rfl (cons_n (ad (f := fVar 3) rfl) (cons_n (ad (f := fNeg (fC (.int 1))) rfl) (cons_n (ad (f := fC .non) rfl) (cons_n (ad (f := fC (.bl true)) rfl) (cons_n (ad (f := fC (.str [48])) rfl) nil_o))))))))) (ds := oddA m ns) rfl (by simp [oddA]))
  rw [seq_n s2]
  show gSeq _ _ [.val (.int m), .val (.lst (ns.map .int)), .val (.int d), .val (.int ((2 ^ m : Nat) : Int)), .val (.lst (oddA m ns))] = _
  have a2 : fBin dAdd (fVar 1) (fLst (fCons (fC (.int 0)) (fCons (fC (.int 0)) fNil))) [.val (.int m), .val (.lst (ns.map .int)), .val (.int d), .val (.int ((2 ^ m : Nat) : Int)), .val (.lst (oddA m ns))] = .ok (.new (ns.map .int ++ [.int 0, .int 0])) := add_l (v1 _) (lst2 rfl rfl) (big (by decide))
  have lB := lst_o (cons_n a2 (cons_n (ad (f := fBin dPow (fC (.int 10)) (fC (.int 30))) (bin_o rfl rfl pow_o)) (cons_n (add_l (v1 _) (lst1n (lst1 (fa := fC (.int 0)) rfl)) (big (by decide))) (cons_n (lst1 (v1 _)) (cons_o (fa := fC (.bl true)) rfl (cons_o (fa := fC (.str [48])) rfl nil_o)))))) (ds := oddB ns) rfl (by simp [oddB])
  have s3 := set_n (i := 4) (add_l (fa := fVar 4) rfl lB (by simp [oddA, oddB]))
  rw [seq_n s3]
  show gRet _ [.val (.int m), .val (.lst (ns.map .int)), .val (.int d), .val (.int ((2 ^ m : Nat) : Int)), .val (.lst (oddA m ns ++ oddB ns))] = _
  refine ret_v (bin_o rfl (bin_o rfl rfl (mod_i (by decide))) ?_)
  show (atI (oddA m ns ++ oddB ns) ((d : Int) % 15)).map R.val = _
  have e : (d : Int) % 15 = ((d % 15 : Nat) : Int) := by omega
  rw [e, Fw.atI_nat, List.getElem?_eq_getElem hjl]; rfl
end K02
namespace K02
open PySem PySem.Spec PyProof.Rows L2 Fw
variable {cl : Cl}
/-! ### refusals -/
/-- the rows of a saying -/
structure Rows (m : Nat) (on fr : List Int) : Prop where
  m0 : 1 ≤ m
  m1 : m ≤ 5
  gon : GoodS m on
  gfr : GoodS m fr
  nd : (on ++ fr).Nodup
  lo : on.length ≤ 32
  lf : fr.length ≤ 32
theorem sort_perm (ns : List Int) : (sortI ns).Perm ns := sortB_perm leI ns
theorem sort_good {m : Nat} {ns : List Int} (h : GoodS m ns) : GoodS m (sortI ns) := fun n hn => h n ((sort_perm ns).mem_iff.mp hn)
theorem eq_s {s t : List Nat} (hs : (s.all fun c => decide (c < 1114112)) = true) (ht : (t.all fun c => decide (c < 1114112)) = true) : dEq (.val (.str s)) (.val (.str t)) = some (.val (.bl (s == t))) := by
  show (if shp 60 (.str s) && shp 60 (.str t) then some (R.val (.bl (deq (.str s) (.str t)))) else none) = _
  have h1 : shp 60 (.str s) = true := hs
  have h2 : shp 60 (.str t) = true := ht
  rw [h1, h2]; rfl
theorem is_rows {es : Fw.Env} {f : Fw.Env → O R} (h : f es = .ok (.val (.str wRows))) : fBin dEq f (fC (.str [114, 111, 119, 115, 32])) es = .ok (.val (.bl true)) := bin_o h rfl (by rw [eq_s (by decide) (by decide)]; rfl)
theorem is_count_w {es : Fw.Env} {f : Fw.Env → O R} (h : f es = .ok (.val (.str wCount))) : fBin dEq f (fC (.str [99, 111, 117, 110, 116, 32])) es = .ok (.val (.bl true)) := bin_o h rfl (by rw [eq_s (by decide) (by decide)]; rfl)
theorem callF_o {g : List D → O R} {fr : Fw.Env → O (List R)} {es : Fw.Env} {rs : List R} {d : D} (h1 : fr es = .ok rs) (hv : rs.all isVal = true) (hg : g (rs.map R.dat) = .ok (.val d)) : fCallF g fr es = .ok (.val d) := by
  unfold fCallF
  rw [h1, O.bind_ok, if_pos hv, hg]
theorem orv_f {es : Fw.Env} {fa fb : Fw.Env → O R} (h : fa es = .ok (.val (.bl false))) : fOrV fa fb es = fb es := by unfold fOrV; rw [h]; rfl
theorem orv_t {es : Fw.Env} {fa fb : Fw.Env → O R} (h : fa es = .ok (.val (.bl true))) : fOrV fa fb es = .ok (.val (.bl true)) := by unfold fOrV; rw [h]; rfl
/-- numbers of lamps that are none -/
def oddC : List D := [.int 0, .int 6, .int (-1), .bl true, .non, .str [50], .lst [.int 2], .int (10 ^ 30)]
theorem oddC_no : ∀ x ∈ oddC, g_is_count cl [x] = .ok (.val (.bl false)) := by
  intro x hx
  simp only [oddC, List.mem_cons, List.not_mem_nil, or_false] at hx
  rcases hx with rfl | rfl | rfl | rfl | rfl | rfl | rfl | rfl
  · rw [count_int]; rfl
  · rw [count_int]; rfl
  · rw [count_int]; rfl
  · exact count_other rfl (by decide)
  · exact count_other rfl (by decide)
  · exact count_other rfl (by decide)
  · exact count_other rfl (by decide)
  · rw [count_int]; rfl
theorem refused_eq (K : Kns cl) {m : Nat} {on fr : List Int} (R0 : Rows m on fr) (d : Nat) : g_law_refused cl [.int m, .lst (on.map .int), .lst (fr.map .int), .int d] = .ok (.val (.bl true)) := by
  obtain ⟨m0, m1, go, gf, nd, lo, lf⟩ := R0
  have m2 : m ≤ 10 := by omega
  have ndo : on.Nodup := (List.nodup_append.mp nd).1
  have ndf : fr.Nodup := (List.nodup_append.mp nd).2.1
  have ron := rows_good (cl := cl) m2 go ndo (by omega)
  refine congrArg fin (?_ : b_law_refused cl [.val (.int m), .val (.lst (on.map .int)), .val (.lst (fr.map .int)), .val (.int d), .no, .no, .no] = .rt _)
  unfold b_law_refused
  have s1 : gSet 4 true (fBin dMod (fVar 3) (fC (.int 6))) [.val (.int m), .val (.lst (on.map .int)), .val (.lst (fr.map .int)), .val (.int d), .no, .no, .no] = .nx [.val (.int m), .val (.lst (on.map .int)), .val (.lst (fr.map .int)), .val (.int d), .val (.int ((d % 6 : Nat) : Int)), .no, .no] :=
    set_v (bin_o rfl rfl (by rw [mod_i (by decide)]; rfl))
  have s2 : gSet 5 true (fBin dDiv (fVar 3) (fC (.int 6))) [.val (.int m), .val (.lst (on.map .int)), .val (.lst (fr.map .int)), .val (.int d), .val (.int ((d % 6 : Nat) : Int)), .no, .no] = .nx [.val (.int m), .val (.lst (on.map .int)), .val (.lst (fr.map .int)), .val (.int d), .val (.int ((d % 6 : Nat) : Int)), .val (.int ((d / 6 : Nat) : Int)), .no] :=
    set_v (bin_o rfl rfl (by rw [div_i (by decide)]; rfl))
  rw [seq_n s1, seq_n s2]
  generalize hE : ([.val (.int m), .val (.lst (on.map .int)), .val (.lst (fr.map .int)), .val (.int d), .val (.int ((d % 6 : Nat) : Int)), .val (.int ((d / 6 : Nat) : Int)), .no] : Fw.Env) = E
  have v0 : fVar 0 E = .ok (.val (.int m)) := by rw [← hE]; rfl
  have v1 : fVar 1 E = .ok (.val (.lst (on.map .int))) := by rw [← hE]; rfl
  have v2 : fVar 2 E = .ok (.val (.lst (fr.map .int))) := by rw [← hE]; rfl
  have v4 : fVar 4 E = .ok (.val (.int ((d % 6 : Nat) : Int))) := by rw [← hE]; rfl
  have v5 : fVar 5 E = .ok (.val (.int ((d / 6 : Nat) : Int))) := by rw [← hE]; rfl
  have t0 : fTest (fBin dEq (fVar 4) (fC (.int 0))) E = .ok (((d % 6 : Nat) : Int) == 0) := test_o (bin_o v4 rfl (eq_i _ _))
  have t1 : fTest (fBin dLt (fVar 4) (fC (.int 3))) E = .ok (decide (((d % 6 : Nat) : Int) < 3)) := test_o (bin_o v4 rfl (lt_i _ _))
  have t2 : fTest (fBin dLt (fVar 4) (fC (.int 5))) E = .ok (decide (((d % 6 : Nat) : Int) < 5)) := test_o (bin_o v4 rfl (lt_i _ _))
  by_cases w0 : d % 6 = 0
  · have e0 : (((d % 6 : Nat) : Int) == 0) = true := by
      rw [beq_iff_eq]; omega
    rw [e0] at t0
    refine seq_r ((if_t t0).trans ?_)
    have hl := lst_o (es := E) (cons_o (fa := fC (.int 0)) rfl (cons_o (fa := fC (.int 6)) rfl (cons_o (fa := fNeg (fC (.int 1))) rfl (cons_o (fa := fC (.bl true)) rfl (cons_o (fa := fC .non) rfl (cons_o (fa := fC (.str [50])) rfl (cons_n (lst1 (fa := fC (.int 2)) rfl) (cons_o (fa := fBin dPow (fC (.int 10)) (fC (.int 30))) (bin_o rfl rfl pow_o) nil_o)))))))) (ds := oddC) rfl (by simp [oddC])
    obtain ⟨j, hj⟩ := of_nat (i := ((d / 6 : Nat) : Int) % 8) (by omega)
    have hj8 : j < oddC.length := by show j < 8; omega
    have hx := oddC_no (cl := cl) oddC[j] (List.getElem_mem hj8)
    have h6 : fBin dIx (fLst (fCons (fC (.int 0)) (fCons (fC (.int 6)) (fCons (fNeg (fC (.int 1))) (fCons (fC (.bl true)) (fCons (fC .non) (fCons (fC (.str [50])) (fCons (fLst (fCons (fC (.int 2)) fNil)) (fCons (fBin dPow (fC (.int 10)) (fC (.int 30))) fNil))))))))) (fBin dMod (fVar 5) (fC (.int 8))) E = .ok (.val oddC[j]) := by
      refine bin_g hl (bin_o v5 rfl (mod_i (by decide))) ?_
      show (atI oddC (((d / 6 : Nat) : Int) % 8)).map R.val = _
      rw [hj, Fw.atI_nat, List.getElem?_eq_getElem hj8]; rfl
    rw [seq_n (set_v h6)]
    generalize oddC[j] = x at hx
    have u0 : fVar 0 (E.set 6 (.val x)) = .ok (.val (.int m)) := by rw [← hE]; rfl
    have u1 : fVar 1 (E.set 6 (.val x)) = .ok (.val (.lst (on.map .int))) := by rw [← hE]; rfl
    have u2 : fVar 2 (E.set 6 (.val x)) = .ok (.val (.lst (fr.map .int))) := by rw [← hE]; rfl
    have u5 : fVar 5 (E.set 6 (.val x)) = .ok (.val (.int ((d / 6 : Nat) : Int))) := by rw [← hE]; rfl
    have u6 : fVar 6 (E.set 6 (.val x)) = .ok (.val x) := by rw [← hE]; rfl
    have harg : ∃ b, fIf (fTest (fBin dEq (fBin dMod (fVar 5) (fC (.int 3))) (fC (.int 0)))) (fCallF (g_law_odd_list cl) (fCons (fVar 0) (fCons (fVar 1) (fCons (fBin dDiv (fVar 5) (fC (.int 8))) fNil)))) (fVar 1) (E.set 6 (.val x)) = .ok (.val b) := by
      rw [ifv_o (test_o (bin_o (bin_o u5 rfl (mod_i (by decide))) rfl (eq_i _ _)))]
      split
      · obtain ⟨x2, _, hx2⟩ := odd_eq (cl := cl) m1 (ns := on) (by omega) (d / 6 / 8)
        refine ⟨x2, callF_o (cons_o u0 (cons_o u1 (cons_o (a := .int ((d / 6 / 8 : Nat) : Int)) (bin_o u5 rfl ?_) nil_o))) rfl hx2⟩
        rw [div_i (by decide)]; rfl
      · exact ⟨_, u1⟩
    obtain ⟨b, hb⟩ := harg
    exact ret_v (is_count_w (call_o (cons_o u6 (cons_o hb (cons_o u2 nil_o))) (caught_count K fun z => not_count hx z)))
  · have e0 : (((d % 6 : Nat) : Int) == 0) = false := by
      rw [beq_eq_false_iff_ne]; omega
    rw [e0] at t0
    rw [seq_n (if_f t0)]
    by_cases w1 : d % 6 < 3
    · rw [decide_eq_true (by omega)] at t1
      refine seq_r ((if_t t1).trans ?_)
      obtain ⟨x, hx, hxe⟩ := odd_eq (cl := cl) m1 (ns := on) (by omega) (d / 6)
      have hodd : fCallF (g_law_odd_list cl) (fCons (fVar 0) (fCons (fVar 1) (fCons (fVar 5) fNil))) E = .ok (.val x) := callF_o (cons_o v0 (cons_o v1 (cons_o v5 nil_o))) rfl hxe
      have h3 : ∃ y, fBin dIx (fLst (fCons (fVar 2) (fCons (fC .non) (fCons (fC (.int 5)) fNil)))) (fBin dMod (fBin dDiv (fVar 5) (fC (.int 90))) (fC (.int 3))) E = .ok (.val y) := by
        have hl := lst_o (cons_o v2 (cons_o (fa := fC .non) rfl (cons_o (fa := fC (.int 5)) rfl nil_o))) (ds := [.lst (fr.map .int), .non, .int 5]) rfl (by simp)
        obtain ⟨j, hj⟩ := of_nat (i := ((d / 6 : Nat) : Int) / 90 % 3) (by omega)
        have hj3 : j < 3 := by omega
        refine ⟨([.lst (fr.map .int), .non, .int 5] : List D)[j], bin_g hl (bin_o (bin_o v5 rfl (div_i (by decide))) rfl (mod_i (by decide))) ?_⟩
        show (atI ([.lst (fr.map .int), .non, .int 5] : List D) (((d / 6 : Nat) : Int) / 90 % 3)).map R.val = _
        rw [hj, Fw.atI_nat, List.getElem?_eq_getElem (by simpa using hj3)]; rfl
      obtain ⟨y, hy⟩ := h3
      exact ret_v (is_rows (call_o (cons_o v0 (cons_o hodd (cons_o hy nil_o))) (caught_rows K fun z => on_bad m0 m1 (odd_bad m1 go (by omega) x hx) z)))
    · rw [decide_eq_false (by omega)] at t1
      rw [seq_n (if_f t1)]
      by_cases w2 : d % 6 < 5
      · rw [decide_eq_true (by omega)] at t2
        refine seq_r ((if_t t2).trans ?_)
        obtain ⟨x, hx, hxe⟩ := odd_eq (cl := cl) m1 (ns := fr) (by omega) (d / 6)
        have hodd : fCallF (g_law_odd_list cl) (fCons (fVar 0) (fCons (fVar 2) (fCons (fVar 5) fNil))) E = .ok (.val x) := callF_o (cons_o v0 (cons_o v2 (cons_o v5 nil_o))) rfl hxe
        rw [seq_n (set_v hodd)]
        have u0 : fVar 0 (E.set 6 (.val x)) = .ok (.val (.int m)) := by rw [← hE]; rfl
        have u1 : fVar 1 (E.set 6 (.val x)) = .ok (.val (.lst (on.map .int))) := by rw [← hE]; rfl
        have u6 : fVar 6 (E.set 6 (.val x)) = .ok (.val x) := by rw [← hE]; rfl
        refine ret_v ?_
        have hn : fBin dIs (fVar 6) (fC .non) (E.set 6 (.val x)) = .ok (.val (.bl (isNonD x))) := by
          refine bin_o u6 rfl ?_
          show (isB (.val x) (.val .non)).map _ = _
          unfold isB
          cases x <;> rfl
        cases hz : isNonD x with
        | true => rw [hz] at hn; exact orv_t hn
        | false =>
          rw [hz] at hn
          rw [orv_f hn]
          exact is_rows (call_o (cons_o u0 (cons_o u1 (cons_o u6 nil_o))) (caught_rows K fun z => free_bad m0 m1 ron hz (odd_bad m1 gf (by omega) x hx) z))
      · rw [decide_eq_false (by omega)] at t2
        rw [seq_n (if_f t2)]
        refine ret_v ?_
        have shi : ∀ ns : List Int, shp 60 (.lst (ns.map .int)) = true := fun ns => by
          show (ns.map D.int).all (shp 59) = true
          rw [List.all_eq_true]
          intro x hx
          obtain ⟨n, _, rfl⟩ := List.mem_map.mp hx
          rfl
        have heq : fBin dEq (fVar 1) (fLst fNil) E = .ok (.val (.bl (deqL (on.map .int) []))) := by
          refine bin_g v1 (rb := .new []) rfl ?_
          show (if shp 60 (.lst (on.map .int)) && shp 60 (.lst []) then some (R.val (.bl (deqL (on.map .int) []))) else none) = _
          rw [shi on]; rfl
        cases hon : on with
        | nil => rw [hon] at heq; exact orv_t heq
        | cons o0 os =>
          rw [hon] at heq
          rw [orv_f heq]
          have hp : 0 < on.length := by rw [hon]; simp
          obtain ⟨j, hj⟩ := of_nat (i := ((d / 6 : Nat) : Int) % ((on.length : Nat) : Int)) (Int.emod_nonneg _ (by omega))
          have hjl : j < on.length := by
            have := Int.emod_lt_of_pos ((d / 6 : Nat) : Int) (b := ((on.length : Nat) : Int)) (by omega)
            omega
          have hix : fBin dIx (fVar 1) (fBin dMod (fVar 5) (fBi dLen (fCons (fVar 1) fNil))) E = .ok (.val (.int on[j])) := by
            refine bin_o v1 (bin_o v5 (len_l v1) (by rw [List.length_map, mod_i (by omega), hj])) ?_
            show (atI (on.map D.int) (j : Int)).map R.val = _
            rw [Fw.atI_nat, List.getElem?_map, List.getElem?_eq_getElem hjl]; rfl
          have hadd : fBin dAdd (fVar 2) (fLst (fCons (fBin dIx (fVar 1) (fBin dMod (fVar 5) (fBi dLen (fCons (fVar 1) fNil)))) fNil)) E = .ok (.new ((fr ++ [on[j]]).map .int)) := by
            rw [List.map_append]
            exact add_l v2 (lst1 hix) (by simp; omega)
          have hmem : on[j] ∈ on := List.getElem_mem hjl
          have hnf : on[j] ∉ fr := fun z => (List.nodup_append.mp nd).2.2 _ hmem _ z rfl
          have gfx : GoodS m (fr ++ [on[j]]) := fun n hn => by
            rcases List.mem_append.mp hn with hn | hn
            · exact gf n hn
            · rw [List.mem_singleton] at hn; subst hn; exact go _ hmem
          have ndx : (fr ++ [on[j]]).Nodup := List.nodup_append.mpr ⟨ndf, by simp, fun a ha b hb z => by
            rw [List.mem_singleton] at hb; subst hb; subst z; exact hnf ha⟩
          have rfx := rows_good (cl := cl) m2 gfx ndx (by simp; omega)
          refine is_rows (call_o (cons_o v0 (cons_o v1 (cons_n hadd nil_o))) (caught_rows K fun z => told_dup m0 m1 ron (Or.inr ⟨rfl, rfx⟩) ?_ ?_ z))
          · rw [(sort_perm on).length_eq, (sort_perm _).length_eq]; simp; omega
          · intro hnd
            have := (List.nodup_append.mp hnd).2.2 on[j] ((sort_perm on).mem_iff.mpr hmem) on[j] ((sort_perm _).mem_iff.mpr (by simp))
            exact this rfl
end K02
namespace K02
open PySem PySem.Spec PyProof.Rows L2 Fw
variable {cl : Cl}
/-! ### the rows of a cell -/
structure Upto (i : Nat) (on fr : List Int) : Prop where
  nd : (on ++ fr).Nodup
  lt : ∀ n ∈ on ++ fr, 0 ≤ n ∧ n < (i : Int)
  lo : on.length ≤ i
  lf : fr.length ≤ i
theorem upto_on {i : Nat} {on fr : List Int} (h : Upto i on fr) : Upto (i + 1) (on ++ [(i : Int)]) fr := by
  have hn : (i : Int) ∉ on ++ fr := fun z => by have := (h.lt _ z).2; omega
  have hp : (on ++ [(i : Int)] ++ fr).Perm ((i : Int) :: (on ++ fr)) := by
    rw [List.append_assoc]
    exact List.perm_middle
  refine ⟨hp.nodup_iff.mpr (List.nodup_cons.mpr ⟨hn, h.nd⟩), fun n hm => ?_, by have := h.lo; simp; omega, by have := h.lf; omega⟩
  rcases List.mem_cons.mp (hp.mem_iff.mp hm) with rfl | hm
  · omega
  · have := h.lt n hm; omega
theorem upto_fr {i : Nat} {on fr : List Int} (h : Upto i on fr) : Upto (i + 1) on (fr ++ [(i : Int)]) := by
  have hn : (i : Int) ∉ on ++ fr := fun z => by have := (h.lt _ z).2; omega
  have hp : (on ++ (fr ++ [(i : Int)])).Perm ((i : Int) :: (on ++ fr)) := by
    rw [← List.append_assoc]
    exact List.perm_append_singleton _ _
  refine ⟨hp.nodup_iff.mpr (List.nodup_cons.mpr ⟨hn, h.nd⟩), fun n hm => ?_, by have := h.lo; omega, by have := h.lf; simp; omega⟩
  rcases List.mem_cons.mp (hp.mem_iff.mp hm) with rfl | hm
  · omega
  · have := h.lt n hm; omega
theorem upto_no {i : Nat} {on fr : List Int} (h : Upto i on fr) : Upto (i + 1) on fr := ⟨h.nd, fun n hm => by have := h.lt n hm; omega, by have := h.lo; omega, by have := h.lf; omega⟩
theorem app_o {es : Fw.Env} {i : Nat} {f : Fw.Env → O R} {xs : List D} {d : D} (he : es[i]? = some (.own xs)) (h : f es = .ok (.val d)) (hl : xs.length < 90000) : gApp i f es = .nx (es.set i (.own (xs ++ [d]))) := by
  unfold gApp
  rw [he]
  show (f es).out es _ = _
  rw [h, O.out_ok]
  exact if_pos hl
theorem ge_i (x y : Int) : dGe (.val (.int x)) (.val (.int y)) = some (.val (.bl (decide (y ≤ x)))) := rfl
theorem mul_i {x y : Int} (h : -(2 ^ 64) < x ∧ x < 2 ^ 64) : dMulA (.val (.int x)) (.val (.int y)) = some (.val (.int (x * y))) := by
  show (if mulC x y = true then some (R.val (.int (x * y))) else none) = _
  rw [if_pos (mulC_l h.1 h.2)]
theorem sum_o {es : Fw.Env} {f : Fw.Env → O R} {ns : List Int} (h : f es = .ok (.new (ns.map .int))) : fBi dSum (fCons f fNil) es = .ok (.val (.int ns.sum)) := by
  refine bi_o (cons_n h nil_o) ?_
  show (match some (ns.map D.int) with | some xs => (intsOf xs).map fun (ns : List Int) => R.val (.int ns.sum) | none => none) = _
  show (intsOf (ns.map D.int)).map _ = _
  rw [ints_of]; rfl
def rowsBody (cl : Cl) : Fw.Env → Out := (gSeq (gSet 9 true (fBin dMod (fCall0 (g_law_spread cl) (fCons (fBin dAdd (fVar 3) (fBin dMulA (fC (.int 7)) (fVar 8))) (fCons (fVar 8) fNil))) (fC (.int 12))))
    (gSeq (gSet 10 true (fBin dMod (fBi dSum (fCons (fLc (fRg1 (fCons (fVar 5) fNil)) [15] (.nm 15) fYes (fBin dAnd (fBin dShr (fVar 8) (fVar 15)) (fC (.int 1)))) fNil)) (fC (.int 2))))
    (gSeq (gAsg (.tp [11, 12]) (fBin dIx (fLst (fCons (fTup (fCons (fC (.int 6)) (fCons (fC (.int 8)) fNil))) (fCons (fTup (fCons (fC (.int 3)) (fCons (fC (.int 5)) fNil))) (fCons (fTup (fCons (fC (.int 9)) (fCons (fC (.int 9)) fNil))) (fCons (fTup (fCons (fBin dMulA (fC (.int 12)) (fVar 10)) (fCons (fBin dMulA (fC (.int 12)) (fVar 10)) fNil))) fNil))))) (fBin dMod (fBin dDiv (fVar 3) (fC (.int 5))) (fC (.int 4)))))
    (gSeq (gSet 13 true (fBin dAdd (fBi dInt (fCons (fBin dGe (fVar 9) (fVar 11)) fNil)) (fBi dInt (fCons (fBin dGe (fVar 9) (fVar 12)) fNil))))
    (gSeq (gIf (fTest (fBin dEq (fBin dMod (fVar 0) (fC (.int 2))) (fC (.int 1)))) (gSeq (gSet 13 true (fBin dMod (fVar 4) (fC (.int 3))))
    (gSet 4 true (fBin dDiv (fVar 4) (fC (.int 3))))) gNext)
    (gIf (fTest (fBin dEq (fVar 13) (fC (.int 0)))) (gApp 6 (fVar 8)) (gIf (fTest (fBin dEq (fVar 13) (fC (.int 1)))) (gApp 7 (fVar 8)) gNext)))))))
theorem rows_step {c k d left q : Int} {m i : Nat} {on fr : List Int} (m1 : m ≤ 5) (hi : i < 32) (hd : 0 ≤ d) (U : Upto i on fr) (x9 x10 x11 x12 x13 x14 x15 : Sl) :
    ∃ left' on' fr' y9 y10 y11 y12 y13, Upto (i + 1) on' fr' ∧ rowsBody cl [.val (.int c), .val (.int k), .val (.int q), .val (.int d), .val (.int left), .val (.int m), .own (on.map .int), .own (fr.map .int), .val (.int i), x9, x10, x11, x12, x13, x14, x15]
      = .nx [.val (.int c), .val (.int k), .val (.int q), .val (.int d), .val (.int left'), .val (.int m), .own (on'.map .int), .own (fr'.map .int), .val (.int i), y9, y10, y11, y12, y13, x14, x15] := by
  have lo := U.lo
  have lf := U.lf
  unfold rowsBody
  obtain ⟨sp, hsp⟩ := spr_nat (cl := cl) (d + 7 * (i : Int)) i (by omega) (by omega)
  have s9 : gSet 9 true (fBin dMod (fCall0 (g_law_spread cl) (fCons (fBin dAdd (fVar 3) (fBin dMulA (fC (.int 7)) (fVar 8))) (fCons (fVar 8) fNil))) (fC (.int 12))) [.val (.int c), .val (.int k), .val (.int q), .val (.int d), .val (.int left), .val (.int m), .own (on.map .int), .own (fr.map .int), .val (.int i), x9, x10, x11, x12, x13, x14, x15]
      = .nx [.val (.int c), .val (.int k), .val (.int q), .val (.int d), .val (.int left), .val (.int m), .own (on.map .int), .own (fr.map .int), .val (.int i), .val (.int ((sp : Int) % 12)), x10, x11, x12, x13, x14, x15] :=
    set_v (bin_o (call_o (cons_o (bin_o rfl (bin_o rfl rfl (mul_i ⟨by decide, by decide⟩)) (add_i _ _)) (cons_o rfl nil_o)) hsp) rfl (mod_i (by decide)))
  rw [seq_n s9]
  obtain ⟨bs, hbs⟩ : ∃ bs : List Int, bs = (List.range m).map fun j => ((i / 2 ^ j % 2 : Nat) : Int) := ⟨_, rfl⟩
  have hlc : fLc (fRg1 (fCons (fVar 5) fNil)) [15] (.nm 15) fYes (fBin dAnd (fBin dShr (fVar 8) (fVar 15)) (fC (.int 1))) [.val (.int c), .val (.int k), .val (.int q), .val (.int d), .val (.int left), .val (.int m), .own (on.map .int), .own (fr.map .int), .val (.int i), .val (.int ((sp : Int) % 12)), x10, x11, x12, x13, x14, x15] = .ok (.new (bs.map .int)) := by
    have h := lc_o (es := [.val (.int c), .val (.int k), .val (.int q), .val (.int d), .val (.int left), .val (.int m), .own (on.map .int), .own (fr.map .int), .val (.int i), .val (.int ((sp : Int) % 12)), x10, x11, x12, x13, x14, x15]) (src := fRg1 (fCons (fVar 5) fNil)) (vs := [15]) (t := .nm 15) (cond := fYes) (elt := fBin dAnd (fBin dShr (fVar 8) (fVar 15)) (fC (.int 1))) (n := m) (p := fun _ => true) (f := fun j => .int ((i / 2 ^ j % 2 : Nat) : Int)) (rg_o (fa := fVar 5) (n := m) rfl (by omega)) (by omega) (fun j hj => ⟨_, rfl, rfl, fun _ => bin_o (bin_o rfl rfl (show dShr (.val (.int (i : Nat))) (.val (.int (j : Nat))) = some (.val (.int ((i / 2 ^ j : Nat) : Int))) from by
        show (if shrC (i : Int) (j : Int) = true then some (R.val (.int ((i : Int) / 2 ^ (j : Int).toNat))) else none) = _
        rw [if_pos (by simp [shrC]), Int.toNat_natCast, shr_nat])) rfl (by
        show some (R.val (.int (Builtin.bitAnd ((i / 2 ^ j : Nat) : Int) 1))) = _
        rw [bit1])⟩)
    have hf : (List.range m).filter (fun _ => true) = List.range m := List.filter_eq_self.mpr fun _ _ => rfl
    rw [hf] at h
    rw [h, hbs, List.map_map]; rfl
  have s10 := set_v (i := 10) (fz := true) (bin_o (sum_o hlc) (fb := fC (.int 2)) rfl (mod_i (by decide)))
  rw [seq_n s10]
  show ∃ left' on' fr' y9 y10 y11 y12 y13, _ ∧ gSeq _ _ [.val (.int c), .val (.int k), .val (.int q), .val (.int d), .val (.int left), .val (.int m), .own (on.map .int), .own (fr.map .int), .val (.int i), .val (.int ((sp : Int) % 12)), .val (.int (bs.sum % 2)), x11, x12, x13, x14, x15] = _
  have hix : ∃ a b : Int, fBin dIx (fLst (fCons (fTup (fCons (fC (.int 6)) (fCons (fC (.int 8)) fNil))) (fCons (fTup (fCons (fC (.int 3)) (fCons (fC (.int 5)) fNil))) (fCons (fTup (fCons (fC (.int 9)) (fCons (fC (.int 9)) fNil))) (fCons (fTup (fCons (fBin dMulA (fC (.int 12)) (fVar 10)) (fCons (fBin dMulA (fC (.int 12)) (fVar 10)) fNil))) fNil))))) (fBin dMod (fBin dDiv (fVar 3) (fC (.int 5))) (fC (.int 4)))
      [.val (.int c), .val (.int k), .val (.int q), .val (.int d), .val (.int left), .val (.int m), .own (on.map .int), .own (fr.map .int), .val (.int i), .val (.int ((sp : Int) % 12)), .val (.int (bs.sum % 2)), x11, x12, x13, x14, x15] = .ok (.val (.tup [.int a, .int b])) := by
    have m12 : ∀ {es : Fw.Env}, fVar 10 es = .ok (.val (.int (bs.sum % 2))) → fBin dMulA (fC (.int 12)) (fVar 10) es = .ok (.val (.int (12 * (bs.sum % 2)))) := fun h => bin_o rfl h (mul_i ⟨by decide, by decide⟩)
    have hl := lst_o (cons_o (tup2 (fa := fC (.int 6)) (fb := fC (.int 8)) rfl rfl) (cons_o (tup2 (fa := fC (.int 3)) (fb := fC (.int 5)) rfl rfl) (cons_o (tup2 (fa := fC (.int 9)) (fb := fC (.int 9)) rfl rfl) (cons_o (tup2 (m12 (es := [.val (.int c), .val (.int k), .val (.int q), .val (.int d), .val (.int left), .val (.int m), .own (on.map .int), .own (fr.map .int), .val (.int i), .val (.int ((sp : Int) % 12)), .val (.int (bs.sum % 2)), x11, x12, x13, x14, x15]) rfl) (m12 rfl)) nil_o)))) (ds := [.tup [.int 6, .int 8], .tup [.int 3, .int 5], .tup [.int 9, .int 9], .tup [.int (12 * (bs.sum % 2)), .int (12 * (bs.sum % 2))]]) rfl (by simp)
    obtain ⟨j, hj⟩ := of_nat (i := d / 5 % 4) (by omega)
    have hj4 : j = 0 ∨ j = 1 ∨ j = 2 ∨ j = 3 := by omega
    have hat : ∃ a b : Int, atI ([.tup [.int 6, .int 8], .tup [.int 3, .int 5], .tup [.int 9, .int 9], .tup [.int (12 * (bs.sum % 2)), .int (12 * (bs.sum % 2))]] : List D) (j : Int) = some (.tup [.int a, .int b]) := by
      rcases hj4 with rfl | rfl | rfl | rfl
      · exact ⟨6, 8, by rw [Fw.atI_nat]; rfl⟩
      · exact ⟨3, 5, by rw [Fw.atI_nat]; rfl⟩
      · exact ⟨9, 9, by rw [Fw.atI_nat]; rfl⟩
      · exact ⟨_, _, by rw [Fw.atI_nat]; rfl⟩
    obtain ⟨a, b, hat⟩ := hat
    refine ⟨a, b, bin_g hl (bin_o (bin_o rfl rfl (div_i (by decide))) rfl (mod_i (by decide))) ?_⟩
    show (atI ([.tup [.int 6, .int 8], .tup [.int 3, .int 5], .tup [.int 9, .int 9], .tup [.int (12 * (bs.sum % 2)), .int (12 * (bs.sum % 2))]] : List D) (d / 5 % 4)).map R.val = _
    rw [hj, hat]; rfl
  obtain ⟨la, lb, hix⟩ := hix
  rw [seq_n (asg_v hix rfl)]
  show ∃ left' on' fr' y9 y10 y11 y12 y13, _ ∧ gSeq _ _ [.val (.int c), .val (.int k), .val (.int q), .val (.int d), .val (.int left), .val (.int m), .own (on.map .int), .own (fr.map .int), .val (.int i), .val (.int ((sp : Int) % 12)), .val (.int (bs.sum % 2)), .val (.int la), .val (.int lb), x13, x14, x15] = _
  have s13 : gSet 13 true (fBin dAdd (fBi dInt (fCons (fBin dGe (fVar 9) (fVar 11)) fNil)) (fBi dInt (fCons (fBin dGe (fVar 9) (fVar 12)) fNil))) [.val (.int c), .val (.int k), .val (.int q), .val (.int d), .val (.int left), .val (.int m), .own (on.map .int), .own (fr.map .int), .val (.int i), .val (.int ((sp : Int) % 12)), .val (.int (bs.sum % 2)), .val (.int la), .val (.int lb), x13, x14, x15] = .nx _ :=
    set_v (bin_o (int_b (bin_o rfl rfl (ge_i _ _))) (int_b (bin_o rfl rfl (ge_i _ _))) (add_i _ _))
  rw [seq_n s13]
  generalize ((if decide (la ≤ (sp : Int) % 12) = true then (1 : Int) else 0) + if decide (lb ≤ (sp : Int) % 12) = true then (1 : Int) else 0) = so
  show ∃ left' on' fr' y9 y10 y11 y12 y13, _ ∧ gSeq _ _ [.val (.int c), .val (.int k), .val (.int q), .val (.int d), .val (.int left), .val (.int m), .own (on.map .int), .own (fr.map .int), .val (.int i), .val (.int ((sp : Int) % 12)), .val (.int (bs.sum % 2)), .val (.int la), .val (.int lb), .val (.int so), x14, x15] = _
  -- the cell's own digits
  have hodd : ∃ left' so', gIf (fTest (fBin dEq (fBin dMod (fVar 0) (fC (.int 2))) (fC (.int 1)))) (gSeq (gSet 13 true (fBin dMod (fVar 4) (fC (.int 3)))) (gSet 4 true (fBin dDiv (fVar 4) (fC (.int 3))))) gNext [.val (.int c), .val (.int k), .val (.int q), .val (.int d), .val (.int left), .val (.int m), .own (on.map .int), .own (fr.map .int), .val (.int i), .val (.int ((sp : Int) % 12)), .val (.int (bs.sum % 2)), .val (.int la), .val (.int lb), .val (.int so), x14, x15]
      = .nx [.val (.int c), .val (.int k), .val (.int q), .val (.int d), .val (.int left'), .val (.int m), .own (on.map .int), .own (fr.map .int), .val (.int i), .val (.int ((sp : Int) % 12)), .val (.int (bs.sum % 2)), .val (.int la), .val (.int lb), .val (.int so'), x14, x15] := by
    have t : fTest (fBin dEq (fBin dMod (fVar 0) (fC (.int 2))) (fC (.int 1))) [.val (.int c), .val (.int k), .val (.int q), .val (.int d), .val (.int left), .val (.int m), .own (on.map .int), .own (fr.map .int), .val (.int i), .val (.int ((sp : Int) % 12)), .val (.int (bs.sum % 2)), .val (.int la), .val (.int lb), .val (.int so), x14, x15] = .ok (c % 2 == 1) := test_o (bin_o (bin_o rfl rfl (mod_i (by decide))) rfl (eq_i _ _))
    cases hc : (c % 2 == 1) with
    | true =>
      rw [hc] at t
      refine ⟨left / 3, left % 3, (if_t t).trans ?_⟩
      rw [seq_n (set_v (bin_o rfl rfl (mod_i (by decide))))]
      exact set_v (bin_o rfl rfl (div_i (by decide)))
    | false =>
      rw [hc] at t
      exact ⟨left, so, if_f t⟩
  obtain ⟨left', so', hodd⟩ := hodd
  rw [seq_n hodd]
  have t0 : fTest (fBin dEq (fVar 13) (fC (.int 0))) [.val (.int c), .val (.int k), .val (.int q), .val (.int d), .val (.int left'), .val (.int m), .own (on.map .int), .own (fr.map .int), .val (.int i), .val (.int ((sp : Int) % 12)), .val (.int (bs.sum % 2)), .val (.int la), .val (.int lb), .val (.int so'), x14, x15] = .ok (so' == 0) := test_o (bin_o rfl rfl (eq_i _ _))
  have t1 : fTest (fBin dEq (fVar 13) (fC (.int 1))) [.val (.int c), .val (.int k), .val (.int q), .val (.int d), .val (.int left'), .val (.int m), .own (on.map .int), .own (fr.map .int), .val (.int i), .val (.int ((sp : Int) % 12)), .val (.int (bs.sum % 2)), .val (.int la), .val (.int lb), .val (.int so'), x14, x15] = .ok (so' == 1) := test_o (bin_o rfl rfl (eq_i _ _))
  cases h0 : (so' == 0) with
  | true =>
    rw [h0] at t0
    refine ⟨left', on ++ [(i : Int)], fr, .val (.int ((sp : Int) % 12)), .val (.int (bs.sum % 2)), .val (.int la), .val (.int lb), .val (.int so'), upto_on U, (if_t t0).trans ?_⟩
    rw [app_o (xs := on.map .int) (d := .int (i : Int)) rfl rfl (by simp; omega), List.map_append]
    rfl
  | false =>
    rw [h0] at t0
    have e2 : gIf (fTest (fBin dEq (fVar 13) (fC (.int 0)))) (gApp 6 (fVar 8)) (gIf (fTest (fBin dEq (fVar 13) (fC (.int 1)))) (gApp 7 (fVar 8)) gNext) [.val (.int c), .val (.int k), .val (.int q), .val (.int d), .val (.int left'), .val (.int m), .own (on.map .int), .own (fr.map .int), .val (.int i), .val (.int ((sp : Int) % 12)), .val (.int (bs.sum % 2)), .val (.int la), .val (.int lb), .val (.int so'), x14, x15]
        = gIf (fTest (fBin dEq (fVar 13) (fC (.int 1)))) (gApp 7 (fVar 8)) gNext [.val (.int c), .val (.int k), .val (.int q), .val (.int d), .val (.int left'), .val (.int m), .own (on.map .int), .own (fr.map .int), .val (.int i), .val (.int ((sp : Int) % 12)), .val (.int (bs.sum % 2)), .val (.int la), .val (.int lb), .val (.int so'), x14, x15] := by
      rw [if_o t0, if_neg Bool.false_ne_true]
    cases h1 : (so' == 1) with
    | true =>
      rw [h1] at t1
      refine ⟨left', on, fr ++ [(i : Int)], .val (.int ((sp : Int) % 12)), .val (.int (bs.sum % 2)), .val (.int la), .val (.int lb), .val (.int so'), upto_fr U, e2.trans ((if_t t1).trans ?_)⟩
      rw [app_o (xs := fr.map .int) (d := .int (i : Int)) rfl rfl (by simp; omega), List.map_append]
      rfl
    | false =>
      rw [h1] at t1
      exact ⟨left', on, fr, .val (.int ((sp : Int) % 12)), .val (.int (bs.sum % 2)), .val (.int la), .val (.int lb), .val (.int so'), upto_no U, e2.trans (if_f t1)⟩
end K02
namespace K02
open PySem PySem.Spec PyProof.Rows L2 Fw
variable {cl : Cl}
theorem slb_take {es : Fw.Env} {fa fb : Fw.Env → O R} {xs : List D} {k : Nat} (ha : fa es = .ok (.bor xs)) (hb : fb es = .ok (.val (.int k))) : fSl fa fNoPart (fPart fb) es = .ok (.new (xs.take k)) := by
  unfold fSl fNoPart fPart; rw [ha, O.bind_ok, O.bind_ok, hb, O.bind_ok, O.bind_ok]
  show O.ok (R.new (cutL xs none (some (k : Int)))) = _
  rw [cut_take]
theorem slb_drop {es : Fw.Env} {fa fb : Fw.Env → O R} {xs : List D} {k : Nat} (ha : fa es = .ok (.bor xs)) (hb : fb es = .ok (.val (.int k))) : fSl fa (fPart fb) fNoPart es = .ok (.new (xs.drop k)) := by
  unfold fSl fNoPart fPart; rw [ha, O.bind_ok, hb, O.bind_ok, O.bind_ok, O.bind_ok]
  show O.ok (R.new (cutL xs (some (k : Int)) none)) = _
  rw [cut_drop]
/-- a list from a place on, then up to it -/
def rot {α : Type} (k : Nat) (xs : List α) : List α := xs.drop k ++ xs.take k
theorem rot_perm {α : Type} (k : Nat) (xs : List α) : (rot k xs).Perm xs := by
  have h : (xs.drop k ++ xs.take k).Perm (xs.take k ++ xs.drop k) := List.perm_append_comm
  rw [List.take_append_drop] at h
  exact h
theorem rot_o {es : Fw.Env} {i : Nat} {fb : Fw.Env → O R} {ns : List Int} {k : Nat} (ha : fVar i es = .ok (.bor (ns.map .int))) (hb : fb es = .ok (.val (.int k))) (hl : ns.length ≤ 100) : fBin dAdd (fSl (fVar i) (fPart fb) fNoPart) (fSl (fVar i) fNoPart (fPart fb)) es = .ok (.new ((rot k ns).map .int)) := by
  refine bin_g (slb_drop ha hb) (slb_take ha hb) ?_
  show (if ((ns.map D.int).drop k).length + ((ns.map D.int).take k).length ≤ 100000 then some (R.new ((ns.map D.int).drop k ++ (ns.map D.int).take k)) else none) = _
  rw [if_pos (by simp; omega), ← List.map_drop, ← List.map_take, ← List.map_append]; rfl
theorem rows_eqM (c k : Int) (q : Nat) (q0 : 1 ≤ q) (q5 : q ≤ 5) (k0 : 0 ≤ k) (k1 : k < 100) : ∃ m on fr, Rows m on fr ∧ g_law_rows cl [.int c, .int k, .int q] = .ok (.val (.tup [.int m, .lst (on.map .int), .lst (fr.map .int)])) := by
  obtain ⟨d1, h1⟩ := spr_nat (cl := cl) c k k0 k1
  obtain ⟨d, h2⟩ := spr_nat (cl := cl) (d1 : Int) 1 (by decide) (by decide)
  obtain ⟨l, hl⟩ : ∃ l : Int, l = if (c % 2 == 1) = true then c / 2 else (d : Int) := ⟨_, rfl⟩
  obtain ⟨m, hm⟩ := of_nat (i := 1 + l % q) (by have := Int.emod_nonneg l (show (q : Int) ≠ 0 by omega); omega)
  have lq0 := Int.emod_nonneg l (show (q : Int) ≠ 0 by omega)
  have lq1 := Int.emod_lt_of_pos l (show (0 : Int) < q by omega)
  have m0 : 1 ≤ m := by omega
  have m1 : m ≤ 5 := by omega
  have pw := pow_le m1
  have s3 : gSet 3 true (fCall0 (g_law_spread cl) (fCons (fCall0 (g_law_spread cl) (fCons (fVar 0) (fCons (fVar 1) fNil))) (fCons (fC (.int 1)) fNil))) [.val (.int c), .val (.int k), .val (.int q), .no, .no, .no, .no, .no, .no, .no, .no, .no, .no, .no, .no, .no]
      = .nx [.val (.int c), .val (.int k), .val (.int q), .val (.int d), .no, .no, .no, .no, .no, .no, .no, .no, .no, .no, .no, .no] :=
    set_v (call_o (cons_o (call_o (cons_o rfl (cons_o rfl nil_o)) h1) (cons_o rfl nil_o)) h2)
  have s4 : gSet 4 true (fIf (fTest (fBin dEq (fBin dMod (fVar 0) (fC (.int 2))) (fC (.int 1)))) (fBin dDiv (fVar 0) (fC (.int 2))) (fVar 3)) [.val (.int c), .val (.int k), .val (.int q), .val (.int d), .no, .no, .no, .no, .no, .no, .no, .no, .no, .no, .no, .no]
      = .nx [.val (.int c), .val (.int k), .val (.int q), .val (.int d), .val (.int l), .no, .no, .no, .no, .no, .no, .no, .no, .no, .no, .no] := by
    refine set_v ?_
    rw [ifv_o (test_o (bin_o (bin_o rfl rfl (mod_i (by decide))) rfl (eq_i _ _))), hl]
    by_cases h : (c % 2 == 1) = true
    · rw [if_pos h, if_pos h]
      exact bin_o rfl rfl (div_i (by decide))
    · rw [if_neg h, if_neg h]; rfl
  have s5 : gSet 5 true (fBin dAdd (fC (.int 1)) (fBin dMod (fVar 4) (fVar 2))) [.val (.int c), .val (.int k), .val (.int q), .val (.int d), .val (.int l), .no, .no, .no, .no, .no, .no, .no, .no, .no, .no, .no]
      = .nx [.val (.int c), .val (.int k), .val (.int q), .val (.int d), .val (.int l), .val (.int m), .no, .no, .no, .no, .no, .no, .no, .no, .no, .no] :=
    set_v (bin_o rfl (bin_o rfl rfl (mod_i (by omega))) (by rw [add_i, hm]))
  have s4' : gSet 4 true (fBin dDiv (fVar 4) (fVar 2)) [.val (.int c), .val (.int k), .val (.int q), .val (.int d), .val (.int l), .val (.int m), .no, .no, .no, .no, .no, .no, .no, .no, .no, .no]
      = .nx [.val (.int c), .val (.int k), .val (.int q), .val (.int d), .val (.int (l / q)), .val (.int m), .no, .no, .no, .no, .no, .no, .no, .no, .no, .no] := set_v (bin_o rfl rfl (div_i (by omega)))
  have s6 : gSet 6 false (fLst fNil) [.val (.int c), .val (.int k), .val (.int q), .val (.int d), .val (.int (l / q)), .val (.int m), .no, .no, .no, .no, .no, .no, .no, .no, .no, .no]
      = .nx [.val (.int c), .val (.int k), .val (.int q), .val (.int d), .val (.int (l / q)), .val (.int m), .own [], .no, .no, .no, .no, .no, .no, .no, .no, .no] := set_own rfl
  have s7 : gSet 7 false (fLst fNil) [.val (.int c), .val (.int k), .val (.int q), .val (.int d), .val (.int (l / q)), .val (.int m), .own [], .no, .no, .no, .no, .no, .no, .no, .no, .no]
      = .nx [.val (.int c), .val (.int k), .val (.int q), .val (.int d), .val (.int (l / q)), .val (.int m), .own [], .own [], .no, .no, .no, .no, .no, .no, .no, .no] := set_own rfl
  obtain ⟨e2, hf, l', on, fr, y8, y9, y10, y11, y12, y13, y14, y15, he, U⟩ := forL_rg (t := .nm 8) (n := 2 ^ m) (body := rowsBody cl) (es := [.val (.int c), .val (.int k), .val (.int q), .val (.int d), .val (.int (l / q)), .val (.int m), .own [], .own [], .no, .no, .no, .no, .no, .no, .no, .no])
    (I := fun i es => ∃ (l' : Int) (on fr : List Int) (y8 y9 y10 y11 y12 y13 y14 y15 : Sl), es = [.val (.int c), .val (.int k), .val (.int q), .val (.int d), .val (.int l'), .val (.int m), .own (on.map .int), .own (fr.map .int), y8, y9, y10, y11, y12, y13, y14, y15] ∧ Upto i on fr)
    (fun i hi es ⟨l', on, fr, y8, y9, y10, y11, y12, y13, y14, y15, he, U⟩ => by
      subst he
      obtain ⟨l2, on2, fr2, z9, z10, z11, z12, z13, U2, e⟩ := rows_step (cl := cl) (c := c) (k := k) (d := d) (left := l') (q := (q : Int)) m1 (by omega) (by omega) U y9 y10 y11 y12 y13 y14 y15
      exact ⟨_, rfl, _, e, l2, on2, fr2, _, _, _, _, _, _, _, _, rfl, U2⟩) ⟨l / q, [], [], _, _, _, _, _, _, _, _, rfl, ⟨List.nodup_nil, fun n hn => (by cases hn), by simp, by simp⟩⟩
  subst he
  obtain ⟨a, ha⟩ := of_nat (i := l' % 32) (by omega)
  have lo := U.lo
  have lf := U.lf
  refine ⟨m, rot a on, rot a fr, ?_, ?_⟩
  · refine ⟨m0, m1, fun n hn => ?_, fun n hn => ?_, ?_, by rw [(rot_perm a on).length_eq]; omega, by rw [(rot_perm a fr).length_eq]; omega⟩
    · exact U.lt n (List.mem_append_left _ ((rot_perm a on).mem_iff.mp hn))
    · exact U.lt n (List.mem_append_right _ ((rot_perm a fr).mem_iff.mp hn))
    · exact ((rot_perm a on).append (rot_perm a fr)).nodup_iff.mpr U.nd
  · refine congrArg fin (?_ : b_law_rows cl [.val (.int c), .val (.int k), .val (.int q), .no, .no, .no, .no, .no, .no, .no, .no, .no, .no, .no, .no, .no] = .rt _)
    unfold b_law_rows
    rw [seq_n s3, seq_n s4, seq_n s5, seq_n s4', seq_n s6, seq_n s7]
    have hsrc : fRg1 (fCons (fBin dShl (fC (.int 1)) (fVar 5)) fNil) [.val (.int c), .val (.int k), .val (.int q), .val (.int d), .val (.int (l / q)), .val (.int m), .own [], .own [], .no, .no, .no, .no, .no, .no, .no, .no] = .ok (rgD 0 (2 ^ m)) := rg_o (bin_o rfl rfl (shl_o (by omega))) (by omega)
    show gSeq (gFor (fRg1 (fCons (fBin dShl (fC (.int 1)) (fVar 5)) fNil)) (.nm 8) (rowsBody cl)) _ _ = _
    rw [seq_n ((for_o hsrc).trans hf)]
    have s14 : gSet 14 true (fBin dMod (fVar 4) (fC (.int 32))) [.val (.int c), .val (.int k), .val (.int q), .val (.int d), .val (.int l'), .val (.int m), .own (on.map .int), .own (fr.map .int), y8, y9, y10, y11, y12, y13, y14, y15]
        = .nx [.val (.int c), .val (.int k), .val (.int q), .val (.int d), .val (.int l'), .val (.int m), .own (on.map .int), .own (fr.map .int), y8, y9, y10, y11, y12, y13, .val (.int a), y15] := set_v (bin_o rfl rfl (by rw [mod_i (by decide), ha]))
    rw [seq_n s14]
    refine ret_v ?_
    unfold fTup
    rw [cons_o rfl (cons_n (rot_o (ns := on) (k := a) rfl rfl (by omega)) (cons_n (rot_o (ns := fr) (k := a) rfl rfl (by omega)) nil_o)), O.bind_ok]
    rfl
theorem rows_eq (c k : Int) (k0 : 0 ≤ k) (k1 : k < 100) : ∃ m on fr, Rows m on fr ∧ g_law_rows cl [.int c, .int k, .int 5] = .ok (.val (.tup [.int m, .lst (on.map .int), .lst (fr.map .int)])) := rows_eqM c k 5 (by omega) (by omega) k0 k1
end K02
namespace K02
open PySem PySem.Spec PyProof.Rows L2 Fw
variable {cl : Cl}
/-! ### told right -/
/-- a saying of these rows -/
def Say (cl : Cl) (m : Nat) (on fr : List Int) : D := sayD cl m (sortI on) (sortI fr)
theorem offs_sort (m : Nat) (on fr : List Int) : offs m (sortI on ++ sortI fr) = offs m (on ++ fr) := by
  unfold offs
  congr 1
  funext i
  unfold outOf
  congr 1
  rw [Bool.eq_iff_iff, List.any_eq_true, List.any_eq_true]
  constructor
  · rintro ⟨x, hx, e⟩
    refine ⟨x, ?_, e⟩
    rcases List.mem_append.mp hx with h | h
    · exact List.mem_append_left _ ((sort_perm on).mem_iff.mp h)
    · exact List.mem_append_right _ ((sort_perm fr).mem_iff.mp h)
  · rintro ⟨x, hx, e⟩
    refine ⟨x, ?_, e⟩
    rcases List.mem_append.mp hx with h | h
    · exact List.mem_append_left _ ((sort_perm on).mem_iff.mpr h)
    · exact List.mem_append_right _ ((sort_perm fr).mem_iff.mpr h)
theorem made_eq {m : Nat} {on fr : List Int} (R0 : Rows m on fr) : mk_Saying cl [.int m, .lst (on.map .int), .lst (fr.map .int)] = .ok (.val (Say cl m on fr)) := by
  obtain ⟨m0, m1, go, gf, nd, lo, lf⟩ := R0
  have ron := rows_good (cl := cl) (m := m) (by omega) go (List.nodup_append.mp nd).1 (by omega)
  have rfr := rows_good (cl := cl) (m := m) (by omega) gf (List.nodup_append.mp nd).2.1 (by omega)
  refine mk_of fun y => made m0 m1 ron (Or.inr ⟨rfl, rfr⟩) ?_ ?_ y
  · rw [(sort_perm on).length_eq, (sort_perm fr).length_eq]; omega
  · exact ((sort_perm on).append (sort_perm fr)).nodup_iff.mpr nd
theorem made_none {m : Nat} {on fr : List Int} (R0 : Rows m on fr) : mk_Saying cl [.int m, .lst (on.map .int), .non] = .ok (.val (Say cl m on [])) := by
  obtain ⟨m0, m1, go, gf, nd, lo, lf⟩ := R0
  have ron := rows_good (cl := cl) (m := m) (by omega) go (List.nodup_append.mp nd).1 (by omega)
  refine mk_of fun y => made m0 m1 ron (Or.inl ⟨rfl, rfl⟩) ?_ ?_ y
  · rw [(sort_perm on).length_eq]; simp; omega
  · rw [List.append_nil]
    exact (sort_perm on).nodup_iff.mpr (List.nodup_append.mp nd).1
/-- a field of it, told as a new list -/
theorem fld_list {f : Str} {xs : List D} {m : Nat} {on fr : List Int} (h : fldN f ["_many", "_on", "_free", "_off"] [.int m, .lst (on.map .int), .lst (fr.map .int), .lst ((offs m (on ++ fr)).map fun i => .int (i : Nat))] = some (.lst xs)) :
    fBi dList (fCons (fFld f (cl.at_ "Saying") (fVar 0)) fNil) [.brw (sayD cl m on fr)] = .ok (.new xs) ∨ xs.all flat = false := by
  cases hf : xs.all flat with
  | false => exact Or.inr rfl
  | true =>
    left
    have h1 : fFld f (cl.at_ "Saying") (fVar 0) [.brw (sayD cl m on fr)] = .ok (.brw (.lst xs)) := by
      show O.of (if cl.at_ "Saying" = cl.at_ "Saying" then (fldN f ["_many", "_on", "_free", "_off"] _).map nrm else none) = _
      rw [if_pos rfl, h]; rfl
    refine bi_o (rs := [.brw (.lst xs)]) ?_ ?_
    · unfold fCons; rw [h1]; rfl
    · show (if xs.all flat = true then some xs else none).map R.new = _
      rw [if_pos hf]; rfl
theorem flat_nats (ns : List Nat) : (ns.map fun i => D.int (i : Nat)).all flat = true := by
  rw [List.all_eq_true]
  intro d hd
  obtain ⟨n, _, rfl⟩ := List.mem_map.mp hd
  rfl
theorem on_eq (m : Nat) (on fr : List Int) : g_Saying_on cl [sayD cl m on fr] = .ok (.new (on.map .int)) := by
  refine congrArg fin (?_ : b_Saying_on cl [.brw (sayD cl m on fr)] = .rt _)
  unfold b_Saying_on
  rcases fld_list (cl := cl) (f := "_on") (m := m) (on := on) (fr := fr) rfl with h | h
  · exact ret_n h
  · rw [flat_ints] at h; cases h
theorem free_eq (m : Nat) (on fr : List Int) : g_Saying_free cl [sayD cl m on fr] = .ok (.new (fr.map .int)) := by
  refine congrArg fin (?_ : b_Saying_free cl [.brw (sayD cl m on fr)] = .rt _)
  unfold b_Saying_free
  rcases fld_list (cl := cl) (f := "_free") (m := m) (on := on) (fr := fr) rfl with h | h
  · exact ret_n h
  · rw [flat_ints] at h; cases h
theorem off_eq (m : Nat) (on fr : List Int) : g_Saying_off cl [sayD cl m on fr] = .ok (.new ((offs m (on ++ fr)).map fun i => .int (i : Nat))) := by
  refine congrArg fin (?_ : b_Saying_off cl [.brw (sayD cl m on fr)] = .rt _)
  unfold b_Saying_off
  rcases fld_list (cl := cl) (f := "_off") (m := m) (on := on) (fr := fr) rfl with h | h
  · exact ret_n h
  · rw [flat_nats] at h; cases h
theorem many_eq (m : Nat) (on fr : List Int) : g_Saying_many cl [sayD cl m on fr] = .ok (.val (.int m)) := by
  refine congrArg fin (?_ : b_Saying_many cl [.brw (sayD cl m on fr)] = .rt _)
  unfold b_Saying_many
  refine ret_v ?_
  show O.of (if cl.at_ "Saying" = cl.at_ "Saying" then _ else _) = _
  rw [if_pos rfl]; rfl
/-- a method that gives a new list -/
theorem meth_n {g : List D → O R} {fo : Fw.Env → O R} {es : Fw.Env} {n : Str} {m : Nat} {on fr : List Int} {xs : List D} {r : R} (ho : fo es = .ok r) (hr : r.dat = sayD cl m on fr) (hn : n ∉ (["_many", "_on", "_free", "_off"] : List Str)) (hg : g [sayD cl m on fr] = .ok (.new xs)) : fMeth (cl.at_ "Saying") n g fo fNil es = .ok (.new xs) := by
  unfold fMeth
  rw [ho, O.bind_ok, hr]
  have hi : insOf (cl.at_ "Saying") n (sayD cl m on fr) = true := by
    show (decide (cl.at_ "Saying" = cl.at_ "Saying") && !(["_many", "_on", "_free", "_off"] : List Str).contains n) = true
    rw [decide_eq_true rfl]
    simpa using hn
  rw [if_pos hi, nil_o, O.bind_ok]
  show (match g [sayD cl m on fr] with | .ok (.val d) => _ | .ok (.new xs) => O.ok (R.new xs) | .exc c fs => _ | _ => _) = _
  rw [hg]
theorem meth_v {g : List D → O R} {fo : Fw.Env → O R} {es : Fw.Env} {n : Str} {m : Nat} {on fr : List Int} {d : D} {r : R} (ho : fo es = .ok r) (hr : r.dat = sayD cl m on fr) (hn : n ∉ (["_many", "_on", "_free", "_off"] : List Str)) (hg : g [sayD cl m on fr] = .ok (.val d)) : fMeth (cl.at_ "Saying") n g fo fNil es = .ok (.val d) := by
  unfold fMeth
  rw [ho, O.bind_ok, hr]
  have hi : insOf (cl.at_ "Saying") n (sayD cl m on fr) = true := by
    show (decide (cl.at_ "Saying" = cl.at_ "Saying") && !(["_many", "_on", "_free", "_off"] : List Str).contains n) = true
    rw [decide_eq_true rfl]
    simpa using hn
  rw [if_pos hi, nil_o, O.bind_ok]
  show (match g [sayD cl m on fr] with | .ok (.val d) => O.ok (R.val d) | .ok (.new xs) => _ | .exc c fs => _ | _ => _) = _
  rw [hg]
end K02
namespace K02
open PySem PySem.Spec PyProof.Rows L2 Fw
variable {cl : Cl}
theorem deqL_int : ∀ l : List Int, deqL (l.map D.int) (l.map D.int) = true
  | [] => rfl
  | x :: l => by
    rw [List.map_cons, deqL, deqL_int l]
    simp [deq]
theorem shp_ints (k : Nat) (l : List Int) : (l.map D.int).all (shp k) = true := by
  rw [List.all_eq_true]
  intro x hx
  obtain ⟨n, _, rfl⟩ := List.mem_map.mp hx
  cases k <;> rfl
theorem shp_nats (k : Nat) (l : List Nat) : (l.map fun i => D.int (i : Nat)).all (shp k) = true := by
  rw [List.all_eq_true]
  intro x hx
  obtain ⟨n, _, rfl⟩ := List.mem_map.mp hx
  cases k <;> rfl
theorem nin_brw (told : List Int) (i : Nat) : dNin (.val (.int i)) (.brw (.lst (told.map .int))) = some (.val (.bl (outOf told i))) := nin_ints told i
theorem out_app (on fr : List Int) (i : Nat) : outOf (on ++ fr) i = (outOf on i && outOf fr i) := by
  unfold outOf
  rw [List.any_append, Bool.not_or]
theorem and_o {es : Fw.Env} {f g : Fw.Env → O Bool} {a b : Bool} (h1 : f es = .ok a) (h2 : g es = .ok b) : fAnd f g es = .ok (a && b) := by
  unfold fAnd
  rw [h1, O.bind_ok]
  cases a
  · rfl
  · rw [if_pos rfl, h2]; rfl
theorem offs_len (m : Nat) (m1 : m ≤ 5) (l : List Int) : (offs m l).length ≤ 32 := by
  unfold offs
  exact Nat.le_trans (List.length_filter_le _ _) (by rw [List.length_range]; exact pow_le m1)
theorem sorted_brw {es : Fw.Env} {i : Nat} {ns : List Int} (h : fVar i es = .ok (.brw (.lst (ns.map .int)))) (hl : ns.length < 64) : fBi dSortedL (fCons (fVar i) fNil) es = .ok (.new ((sortI ns).map .int)) := by
  refine bi_o (rs := [.brw (.lst (ns.map .int))]) ?_ ?_
  · unfold fCons; rw [h]; rfl
  · show (match intsOf (ns.map D.int) with | some ns => if ns.length < 64 then some (R.new ((sortI ns).map .int)) else none | none => _) = _
    rw [ints_of]
    exact if_pos hl
theorem bin_b {es : Fw.Env} {fa fb : Fw.Env → O R} {d : R → R → Option R} {a b c : R} (ha : fa es = .ok a) (hb : fb es = .ok b) (h1 : a.fz = a) (h2 : b.fz = b) (hc : d a b = some c) : fBin d fa fb es = .ok c := bin_g ha hb (by rw [h1, h2]; exact hc)
theorem cons2_o {es : Fw.Env} {fa : Fw.Env → O R} {fr : Fw.Env → O (List (List D))} {xs : List D} {xss : List (List D)} (ha : fa es = .ok (.new xs)) (hr : fr es = .ok xss) : fCons2 fa fr es = .ok (xs :: xss) := by
  unfold fCons2; rw [ha, O.bind_ok]
  show (fr es).bind _ = _
  rw [hr]; rfl
theorem told_eq {m : Nat} {on fr : List Int} (m1 : m ≤ 5) (lo : on.length ≤ 32) (lf : fr.length ≤ 32) : g_law_told_right cl [Say cl m on fr, .int m, .lst (on.map .int), .lst (fr.map .int)] = .ok (.val (.bl true)) := by
  refine congrArg fin (?_ : b_law_told_right cl [.brw (Say cl m on fr), .val (.int m), .brw (.lst (on.map .int)), .brw (.lst (fr.map .int)), .no, .no, .no, .no, .no] = .rt _)
  unfold b_law_told_right
  have pw := pow_le m1
  have hlc : fLc (fRg1 (fCons (fBin dShl (fC (.int 1)) (fVar 1)) fNil)) [8] (.nm 8) (fAnd (fTest (fBin dNin (fVar 8) (fVar 2))) (fTest (fBin dNin (fVar 8) (fVar 3)))) (fVar 8) [.brw (Say cl m on fr), .val (.int m), .brw (.lst (on.map .int)), .brw (.lst (fr.map .int)), .no, .no, .no, .no, .no] = .ok (.new ((offs m (on ++ fr)).map fun i => .int (i : Nat))) := by
    have h := lc_o (src := fRg1 (fCons (fBin dShl (fC (.int 1)) (fVar 1)) fNil)) (vs := [8]) (t := .nm 8) (cond := fAnd (fTest (fBin dNin (fVar 8) (fVar 2))) (fTest (fBin dNin (fVar 8) (fVar 3)))) (elt := fVar 8) (n := 2 ^ m) (p := outOf (on ++ fr)) (f := fun i => .int (i : Nat))
      (es := [.brw (Say cl m on fr), .val (.int m), .brw (.lst (on.map .int)), .brw (.lst (fr.map .int)), .no, .no, .no, .no, .no]) (rg_o (bin_o rfl rfl (shl_o (by omega))) (by omega)) (by omega) fun i hi => ⟨_, rfl, by
        rw [out_app]
        exact and_o (test_o (bin_b rfl rfl rfl rfl (nin_brw on i))) (test_o (bin_b rfl rfl rfl rfl (nin_brw fr i))), fun _ => rfl⟩
    exact h
  rw [seq_n (set_n hlc)]
  show gSeq _ _ [.brw (Say cl m on fr), .val (.int m), .brw (.lst (on.map .int)), .brw (.lst (fr.map .int)), .val (.lst ((offs m (on ++ fr)).map fun i => .int (i : Nat))), .no, .no, .no, .no] = _
  have lO := offs_len m m1 (on ++ fr)
  obtain ⟨e2, hf, _⟩ := forL_rg (t := .nm 5) (n := 2) (es := [.brw (Say cl m on fr), .val (.int m), .brw (.lst (on.map .int)), .brw (.lst (fr.map .int)), .val (.lst ((offs m (on ++ fr)).map fun i => .int (i : Nat))), .no, .no, .no, .no])
    (body := (gSeq (gOwn2 6 (fCons2 (fMeth (cl.at_ "Saying") "on" (g_Saying_on cl) (fVar 0) fNil) (fCons2 (fMeth (cl.at_ "Saying") "free" (g_Saying_free cl) (fVar 0) fNil) (fCons2 (fMeth (cl.at_ "Saying") "off" (g_Saying_off cl) (fVar 0) fNil) fNil2))))
    (gSeq (gIf (fOr (fTest (fBin dNe (fMeth (cl.at_ "Saying") "many" (g_Saying_many cl) (fVar 0) fNil) (fVar 1))) (fTest (fNe2 6 (fLst (fCons (fBi dSortedL (fCons (fVar 2) fNil)) (fCons (fBi dSortedL (fCons (fVar 3) fNil)) (fCons (fVar 4) fNil))))))) (gRet (fC (.bl false))) gNext)
    (gForApp2 6 7))))
    (I := fun _ es => ∃ s5, es = [.brw (Say cl m on fr), .val (.int m), .brw (.lst (on.map .int)), .brw (.lst (fr.map .int)), .val (.lst ((offs m (on ++ fr)).map fun i => .int (i : Nat))), s5, .no, .no, .no])
    (fun i hi es ⟨s5, he⟩ => by
      subst he
      refine ⟨_, rfl, [.brw (Say cl m on fr), .val (.int m), .brw (.lst (on.map .int)), .brw (.lst (fr.map .int)), .val (.lst ((offs m (on ++ fr)).map fun i => .int (i : Nat))), .val (.int i), .no, .no, .no], ?_, _, rfl⟩
      show gSeq _ _ [.brw (Say cl m on fr), .val (.int m), .brw (.lst (on.map .int)), .brw (.lst (fr.map .int)), .val (.lst ((offs m (on ++ fr)).map fun i => .int (i : Nat))), .val (.int i), .no, .no, .no] = _
      have h1 : fMeth (cl.at_ "Saying") "on" (g_Saying_on cl) (fVar 0) fNil [.brw (Say cl m on fr), .val (.int m), .brw (.lst (on.map .int)), .brw (.lst (fr.map .int)), .val (.lst ((offs m (on ++ fr)).map fun i => .int (i : Nat))), .val (.int i), .no, .no, .no] = .ok (.new ((sortI on).map .int)) := meth_n (r := .brw (Say cl m on fr)) rfl rfl (by decide) (on_eq m _ _)
      have h2 : fMeth (cl.at_ "Saying") "free" (g_Saying_free cl) (fVar 0) fNil [.brw (Say cl m on fr), .val (.int m), .brw (.lst (on.map .int)), .brw (.lst (fr.map .int)), .val (.lst ((offs m (on ++ fr)).map fun i => .int (i : Nat))), .val (.int i), .no, .no, .no] = .ok (.new ((sortI fr).map .int)) := meth_n (r := .brw (Say cl m on fr)) rfl rfl (by decide) (free_eq m _ _)
      have h3 : fMeth (cl.at_ "Saying") "off" (g_Saying_off cl) (fVar 0) fNil [.brw (Say cl m on fr), .val (.int m), .brw (.lst (on.map .int)), .brw (.lst (fr.map .int)), .val (.lst ((offs m (on ++ fr)).map fun i => .int (i : Nat))), .val (.int i), .no, .no, .no] = .ok (.new ((offs m (on ++ fr)).map fun i => .int (i : Nat))) := by
        have := meth_n (cl := cl) (n := "off") (g := g_Saying_off cl) (fo := fVar 0) (es := [.brw (Say cl m on fr), .val (.int m), .brw (.lst (on.map .int)), .brw (.lst (fr.map .int)), .val (.lst ((offs m (on ++ fr)).map fun i => .int (i : Nat))), .val (.int i), .no, .no, .no]) (r := .brw (Say cl m on fr)) rfl rfl (by decide) (off_eq m (sortI on) (sortI fr))
        rw [offs_sort] at this
        exact this
      have ho : gOwn2 6 (fCons2 (fMeth (cl.at_ "Saying") "on" (g_Saying_on cl) (fVar 0) fNil) (fCons2 (fMeth (cl.at_ "Saying") "free" (g_Saying_free cl) (fVar 0) fNil) (fCons2 (fMeth (cl.at_ "Saying") "off" (g_Saying_off cl) (fVar 0) fNil) fNil2))) [.brw (Say cl m on fr), .val (.int m), .brw (.lst (on.map .int)), .brw (.lst (fr.map .int)), .val (.lst ((offs m (on ++ fr)).map fun i => .int (i : Nat))), .val (.int i), .no, .no, .no]
          = .nx [.brw (Say cl m on fr), .val (.int m), .brw (.lst (on.map .int)), .brw (.lst (fr.map .int)), .val (.lst ((offs m (on ++ fr)).map fun i => .int (i : Nat))), .val (.int i), .own2 [(sortI on).map .int, (sortI fr).map .int, (offs m (on ++ fr)).map fun i => .int (i : Nat)], .no, .no] := by
        unfold gOwn2
        rw [cons2_o h1 (cons2_o h2 (cons2_o h3 rfl)), O.out_ok]
        exact if_neg (by
          intro z
          rcases z with z | z
          · exact absurd z (by simp [has2])
          · exact absurd z (by simp))
      rw [seq_n ho]
      have t1 : fTest (fBin dNe (fMeth (cl.at_ "Saying") "many" (g_Saying_many cl) (fVar 0) fNil) (fVar 1)) [.brw (Say cl m on fr), .val (.int m), .brw (.lst (on.map .int)), .brw (.lst (fr.map .int)), .val (.lst ((offs m (on ++ fr)).map fun i => .int (i : Nat))), .val (.int i), .own2 [(sortI on).map .int, (sortI fr).map .int, (offs m (on ++ fr)).map fun i => .int (i : Nat)], .no, .no] = .ok false := by
        refine test_o (bin_o (meth_v (r := .brw (Say cl m on fr)) rfl rfl (by decide) (many_eq m _ _)) rfl ?_)
        rw [ne_i]; simp
      have hL : fLst (fCons (fBi dSortedL (fCons (fVar 2) fNil)) (fCons (fBi dSortedL (fCons (fVar 3) fNil)) (fCons (fVar 4) fNil))) [.brw (Say cl m on fr), .val (.int m), .brw (.lst (on.map .int)), .brw (.lst (fr.map .int)), .val (.lst ((offs m (on ++ fr)).map fun i => .int (i : Nat))), .val (.int i), .own2 [(sortI on).map .int, (sortI fr).map .int, (offs m (on ++ fr)).map fun i => .int (i : Nat)], .no, .no] = .ok (.new [.lst ((sortI on).map .int), .lst ((sortI fr).map .int), .lst ((offs m (on ++ fr)).map fun i => .int (i : Nat))]) :=
        lst_o (cons_n (sorted_brw rfl (by omega)) (cons_n (sorted_brw rfl (by omega)) (cons_o rfl nil_o))) rfl (by simp)
      have t2 : fTest (fNe2 6 (fLst (fCons (fBi dSortedL (fCons (fVar 2) fNil)) (fCons (fBi dSortedL (fCons (fVar 3) fNil)) (fCons (fVar 4) fNil))))) [.brw (Say cl m on fr), .val (.int m), .brw (.lst (on.map .int)), .brw (.lst (fr.map .int)), .val (.lst ((offs m (on ++ fr)).map fun i => .int (i : Nat))), .val (.int i), .own2 [(sortI on).map .int, (sortI fr).map .int, (offs m (on ++ fr)).map fun i => .int (i : Nat)], .no, .no] = .ok false := by
        refine test_o ?_
        show ((fLst _ _).bind fun r => O.of (dNe (.val (.lst ([(sortI on).map .int, (sortI fr).map .int, (offs m (on ++ fr)).map fun i => .int (i : Nat)].map D.lst))) r.fz)) = _
        rw [hL, O.bind_ok]
        show O.of (if shp 60 (.lst [.lst ((sortI on).map .int), .lst ((sortI fr).map .int), .lst ((offs m (on ++ fr)).map fun i => .int (i : Nat))]) && shp 60 (.lst [.lst ((sortI on).map .int), .lst ((sortI fr).map .int), .lst ((offs m (on ++ fr)).map fun i => .int (i : Nat))]) then some (R.val (.bl (!deq (.lst [.lst ((sortI on).map .int), .lst ((sortI fr).map .int), .lst ((offs m (on ++ fr)).map fun i => .int (i : Nat))]) (.lst [.lst ((sortI on).map .int), .lst ((sortI fr).map .int), .lst ((offs m (on ++ fr)).map fun i => .int (i : Nat))])))) else none) = _
        have hs : shp 60 (.lst [.lst ((sortI on).map .int), .lst ((sortI fr).map .int), .lst ((offs m (on ++ fr)).map fun i => .int (i : Nat))]) = true := by
          show (((sortI on).map D.int).all (shp 58) && (((sortI fr).map D.int).all (shp 58) && (((offs m (on ++ fr)).map fun i => D.int (i : Nat)).all (shp 58) && true))) = true
          rw [shp_ints, shp_ints, shp_nats]; rfl
        have hq : deq (.lst [.lst ((sortI on).map .int), .lst ((sortI fr).map .int), .lst ((offs m (on ++ fr)).map fun i => .int (i : Nat))]) (.lst [.lst ((sortI on).map .int), .lst ((sortI fr).map .int), .lst ((offs m (on ++ fr)).map fun i => .int (i : Nat))]) = true := by
          show (deqL ((sortI on).map D.int) ((sortI on).map D.int) && (deqL ((sortI fr).map D.int) ((sortI fr).map D.int) && (deqL ((offs m (on ++ fr)).map fun i => D.int (i : Nat)) ((offs m (on ++ fr)).map fun i => D.int (i : Nat)) && true))) = true
          rw [deqL_int, deqL_int, deqL_ints]; rfl
        rw [hs, hq]; rfl
      rw [seq_n (if_f ((or_f t1).trans t2))]
      show (if _ then Out.nx _ else .no) = _
      rw [if_pos ⟨by simp, by simp [has2], by simp [(sort_perm on).length_eq, (sort_perm fr).length_eq]; omega⟩]
      rfl) ⟨_, rfl⟩
  rw [seq_n ((for_o (rg_o (n := 2) rfl (by decide))).trans hf)]
  rfl
end K02
namespace K02
open PySem PySem.Spec PyProof.Rows L2 Fw
variable {cl : Cl}
/-! ### is_good -/
theorem ty_o2 {es : Fw.Env} {fa : Fw.Env → O R} {x : D} {n : String} (h : fa es = .ok (.val x)) (e : tyD2 x = some n) : fBi dType (fCons fa fNil) es = .ok (.val (.ty n)) := by
  refine bi_o (cons_o h nil_o) ?_
  show (tyD2 x).map _ = _
  rw [e]; rfl
theorem inT_pb : inT [45, 48, 49] = pb := by
  funext c
  unfold inT pb
  rw [Bool.eq_iff_iff]
  simp
  omega
theorem term_str {w : List Nat} {n : Nat} (hw : w.length ≤ 10) : g_is_term cl [.str w, .int n] = .ok (.val (.bl (decide (w.length = n) && w.all pb))) := by
  have g1 : w.length ≤ 100000 := small rfl hw
  have t1 : fTest (fBin dNis (fBi dType (fCons (fVar 0) fNil)) (fC (.ty "str"))) [.val (.str w), .val (.int n)] = .ok false := test_o (bin_o (ty_o2 rfl rfl) rfl (by rw [nis_ty2]; simp))
  have t2 : fTest (fBin dNe (fBi dLen (fCons (fVar 0) fNil)) (fVar 1)) [.val (.str w), .val (.int n)] = .ok (!(((w.length : Nat) : Int) == (n : Int))) := test_o (bin_o (len_o rfl g1) rfl (ne_i _ _))
  refine congrArg fin (?_ : b_is_term cl [.val (.str w), .val (.int n)] = .rt _)
  unfold b_is_term
  by_cases h : w.length = n
  · have hh : (!(((w.length : Nat) : Int) == (n : Int))) = false := by simp [h]
    rw [hh] at t2
    rw [seq_n (if_f ((or_f t1).trans t2)), decide_eq_true h, Bool.true_and, ← inT_pb]
    exact ret_v rfl
  · have hh : (!(((w.length : Nat) : Int) == (n : Int))) = true := by
      simp; omega
    rw [hh] at t2
    rw [decide_eq_false h, Bool.false_and]
    exact seq_r ((if_t ((or_f t1).trans t2)).trans (ret_v rfl))
theorem term_other {x : D} {n : String} {k : Int} (e : tyD2 x = some n) (hn : n ≠ "str") : g_is_term cl [x, .int k] = .ok (.val (.bl false)) := by
  refine congrArg fin (?_ : b_is_term cl [slotD x, .val (.int k)] = .rt _)
  unfold b_is_term
  have t : fTest (fBin dNis (fBi dType (fCons (fVar 0) fNil)) (fC (.ty "str"))) [slotD x, .val (.int k)] = .ok true := by
    refine test_o (bin_o (ty_n (var_slot x _) e) rfl ?_)
    rw [nis_ty2, decide_eq_false hn]; rfl
  exact seq_r ((if_t (or_t t)).trans (ret_v rfl))
theorem fld_many (m : Nat) (on fr : List Int) (es : Fw.Env) (s : Sl) : fFld "_many" (cl.at_ "Saying") (fVar 0) (.brw (sayD cl m on fr) :: es) = .ok (.val (.int m)) := by
  show O.of (if cl.at_ "Saying" = cl.at_ "Saying" then _ else _) = _
  rw [if_pos rfl]; rfl
theorem fld_off (m : Nat) (on fr : List Int) (es : Fw.Env) : fFld "_off" (cl.at_ "Saying") (fVar 0) (.brw (sayD cl m on fr) :: es) = .ok (.brw (.lst ((offs m (on ++ fr)).map fun i => .int (i : Nat)))) := by
  show O.of (if cl.at_ "Saying" = cl.at_ "Saying" then _ else _) = _
  rw [if_pos rfl]; rfl
theorem good_bad {m : Nat} {on fr : List Int} {x : D} (h : g_is_term cl [x, .int m] = .ok (.val (.bl false))) : g_Saying_is_good cl [sayD cl m on fr, x] = .exc (cl.at_ "BadTerm") none := by
  refine congrArg finX (?_ : b_Saying_is_good cl [.brw (sayD cl m on fr), slotD x, .no] = .exc [.brw (sayD cl m on fr), slotD x, .no] (cl.at_ "BadTerm") none)
  unfold b_Saying_is_good
  have ha : fCons (fVar 1) (fCons (fFld "_many" (cl.at_ "Saying") (fVar 0)) fNil) [.brw (sayD cl m on fr), slotD x, .no] = .ok [nrm x, .val (.int m)] := by
    have hv : fVar 1 [.brw (sayD cl m on fr), slotD x, .no] = .ok (nrm x) := slot_nrm rfl
    unfold fCons
    rw [hv, O.bind_ok, fld_many m on fr _ .no, O.bind_ok, nil_o, O.bind_ok, O.bind_ok, nrm_fz]; rfl
  have hc : fCall0 (g_is_term cl) (fCons (fVar 1) (fCons (fFld "_many" (cl.at_ "Saying") (fVar 0)) fNil)) [.brw (sayD cl m on fr), slotD x, .no] = .ok (.val (.bl false)) := call_o ha (by
    show g_is_term cl [(nrm x).dat, .int m] = _
    rw [nrm_dat]; exact h)
  refine seq_x ?_
  rw [if_t (not_o (k := false) (test_o hc))]; rfl
/-- the loop over the off settings -/
theorem good_loop {s : List Nat} (hs : Sg s) (L : Sl) : ∀ (l : List Nat) (z : Sl), (forL (.nm 2) (gIf (fTest (fCall0 (g_has cl) (fCons (fVar 1) (fCons (fVar 2) fNil)))) (gRet (fC (.bl false))) gNext) ((l.map fun i => D.int (i : Nat)).map nrm) [L, .val (.str s), z]).seq (gRet (fC (.bl true))) = .rt (.val (.bl (!(l.any fun n => agB n 0 s))))
  | [], z => rfl
  | n :: l, z => by
    have ih := good_loop hs L l (.val (.int n))
    have t : fTest (fCall0 (g_has cl) (fCons (fVar 1) (fCons (fVar 2) fNil))) [L, .val (.str s), .val (.int n)] = .ok (agB n 0 s) := test_o (call_o (cons_o rfl (cons_o rfl nil_o)) (has_eq s hs n))
    show (forL _ _ (.val (.int n) :: ((l.map fun i => D.int (i : Nat)).map nrm)) [L, .val (.str s), z]).seq _ = _
    rw [forL]
    show (match gIf _ _ _ [L, .val (.str s), .val (.int n)] with | .nx e2 => _ | .ct e2 => _ | .br e2 => _ | .rt r => Out.rt r | .exc es c fs => _ | .no => _ : Out).seq _ = _
    cases h : agB n 0 s with
    | true =>
      rw [h] at t
      rw [if_t t, List.any_cons, h]; rfl
    | false =>
      rw [h] at t
      rw [if_f t, List.any_cons, h, Bool.false_or]
      exact ih
theorem good_eq {m : Nat} {on fr : List Int} {s : List Nat} (hs : Tm m s) (m1 : m ≤ 5) : g_Saying_is_good cl [sayD cl m on fr, .str s] = .ok (.val (.bl (!((offs m (on ++ fr)).any fun n => agB n 0 s)))) := by
  refine congrArg finX (?_ : b_Saying_is_good cl [.brw (sayD cl m on fr), .val (.str s), .no] = .rt _)
  unfold b_Saying_is_good
  have hc : fCall0 (g_is_term cl) (fCons (fVar 1) (fCons (fFld "_many" (cl.at_ "Saying") (fVar 0)) fNil)) [.brw (sayD cl m on fr), .val (.str s), .no] = .ok (.val (.bl true)) := call_o (cons_o rfl (cons_o (fld_many m on fr _ .no) nil_o)) (by
    show g_is_term cl [.str s, .int (m : Int)] = _
    rw [term_str (by rw [hs.1]; omega), all_pb hs.2, decide_eq_true hs.1]; rfl)
  rw [seq_n (if_f (not_o (k := true) (test_o hc)))]
  have hsrc : fIt true (fFld "_off" (cl.at_ "Saying") (fVar 0)) [.brw (sayD cl m on fr), .val (.str s), .no] = .ok (((offs m (on ++ fr)).map fun i => D.int (i : Nat)).map nrm) := by
    unfold fIt
    rw [fld_off, O.bind_ok]; rfl
  show (gFor _ _ _ _).seq _ = _
  rw [for_o hsrc]
  exact good_loop hs.2 _ _ _
end K02
namespace K02
open PySem PySem.Spec PyProof.Rows L2 Fw
variable {cl : Cl}
/-! ### good right -/
/-- a drawn term -/
theorem drawn {gs : List D → O R} {es : Fw.Env} {i j l n : Nat} {dd : Int} (n1 : n ≤ 5) (hgs : ∀ k : Nat, k < 5 → ∃ m : Nat, gs [.int dd, .int k] = .ok (.val (.int m))) (h1 : fVar i es = .ok (.val (.int n)))
    (hd : ∀ k : Nat, fVar j ((wipeE es [l]).set l (.val (.int k))) = .ok (.val (.int dd))) (hl : ∀ k : Nat, fVar l ((wipeE es [l]).set l (.val (.int k))) = .ok (.val (.int k))) :
    ∃ s, Tm n s ∧ fM1 dJoin (fC (.str [])) (fLc (fRg1 (fCons (fVar i) fNil)) [l] (.nm l) fYes (fBin dIx (fC (.str [48, 49, 45])) (fBin dMod (fBin dDiv (fCall0 gs (fCons (fVar j) (fCons (fVar l) fNil))) (fC (.int 9))) (fC (.int 3))))) es = .ok (.val (.str s)) := by
  have hsp : ∀ k : Nat, ∃ m : Nat, k < n → gs [.int dd, .int k] = .ok (.val (.int m)) := fun k => by
    by_cases h : k < n
    · obtain ⟨m, h2⟩ := hgs k (by omega)
      exact ⟨m, fun _ => h2⟩
    · exact ⟨0, fun h2 => absurd h2 h⟩
  let M : Nat → Nat := fun k => Classical.choose (hsp k)
  have hM : ∀ k, k < n → gs [.int dd, .int k] = .ok (.val (.int (M k))) := fun k hk => Classical.choose_spec (hsp k) hk
  have hC : ∀ k : Nat, ∃ c, atI [48, 49, 45] ((M k : Int) / 9 % 3) = some c ∧ (c = 48 ∨ c = 49 ∨ c = 45) := fun k => sign3 (by omega) (by omega)
  let C : Nat → Nat := fun k => Classical.choose (hC k)
  have hC1 : ∀ k, atI [48, 49, 45] ((M k : Int) / 9 % 3) = some (C k) := fun k => (Classical.choose_spec (hC k)).1
  have hC2 : ∀ k, C k = 48 ∨ C k = 49 ∨ C k = 45 := fun k => (Classical.choose_spec (hC k)).2
  have g5 : [48, 49, 45].length ≤ 100000 := le100k (by decide)
  refine ⟨(List.range n).map C, ⟨by simp, fun e he => by
    obtain ⟨k, _, rfl⟩ := List.mem_map.mp he
    exact hC2 k⟩, ?_⟩
  have hlc := lc_o (es := es) (src := fRg1 (fCons (fVar i) fNil)) (vs := [l]) (t := .nm l) (cond := fYes) (elt := (fBin dIx (fC (.str [48, 49, 45])) (fBin dMod (fBin dDiv (fCall0 gs (fCons (fVar j) (fCons (fVar l) fNil))) (fC (.int 9))) (fC (.int 3))))) (n := n) (p := fun _ => true) (f := fun k => .str [C k])
    (rg_o h1 (by omega)) (by omega) (fun k hk => ⟨(wipeE es [l]).set l (.val (.int k)), rfl, rfl, fun _ => bin_o rfl (bin_o (bin_o (call_o (cons_o (hd k) (cons_o (hl k) nil_o)) (hM k hk)) rfl (div_i (by decide))) rfl (mod_i (by decide))) (ix_s g5 (hC1 k))⟩)
  have hf : (List.range n).filter (fun _ => true) = List.range n := List.filter_eq_self.mpr fun _ _ => rfl
  rw [hf] at hlc
  have hm : (List.range n).map (fun k => D.str [C k]) = ((List.range n).map C).map fun c => D.str [c] := by simp
  unfold fM1
  rw [fc_o, O.bind_ok, hlc, hm]
  show O.of (dJoin [] (.val (.lst (((List.range n).map C).map fun c => D.str [c])))) = _
  rw [join_eq (by simp; omega)]; rfl
theorem lcL_list {t : Tg} {cond : Fw.Env → O Bool} {elt : Fw.Env → O R} {es : Fw.Env} (f : Nat → D) : ∀ ns : List Nat, (∀ i ∈ ns, ∃ e1, stTg t (.val (.int (i : Nat))) es = some e1 ∧ cond e1 = .ok true ∧ elt e1 = .ok (.val (f i))) → lcL t cond elt es (ns.map fun i => .val (.int (i : Nat))) = .ok (ns.map f)
  | [], _ => rfl
  | n :: ns, h => by
    obtain ⟨e1, h1, h2, h3⟩ := h n (by simp)
    have ih := lcL_list (t := t) (cond := cond) (elt := elt) (es := es) f ns fun i hi => h i (by simp [hi])
    rw [List.map_cons, lcL, h1]
    simp only [h2, noX, O.bind_ok, if_true, h3, R.fz, R.sto, ih]
    rfl
theorem bls_of (l : List Nat) (p : Nat → Bool) : blsOf (l.map fun n => D.bl (p n)) = some (l.map p) := by
  induction l with
  | nil => rfl
  | cons n l ih => rw [List.map_cons, blsOf, ih]; rfl
theorem isx_bool (b : Bool) : dIsX cl [.val (.bl b), .val (.ty "bool")] = some (.val (.bl true)) := isi_o b
theorem eq_b (a b : Bool) : dEq (.val (.bl a)) (.val (.bl b)) = some (.val (.bl (a == b))) := by
  cases a <;> cases b <;> rfl
theorem meth1 {g : List D → O R} {es : Fw.Env} {n : Str} {m : Nat} {on fr : List Int} {x : D} {fo fa : Fw.Env → O R} {r : R} {o : O R} (ho : fo es = .ok r) (hr : r.dat = sayD cl m on fr) (hn : n ∉ (["_many", "_on", "_free", "_off"] : List Str)) (ha : fCons fa fNil es = .ok [nrm x])
    (hg : (match g [sayD cl m on fr, x] with | .ok (.val d) => O.ok (R.val d) | .ok (.new xs) => .ok (.new xs) | .exc c fs => .exc c fs | _ => .no) = o) : fMeth (cl.at_ "Saying") n g fo (fCons fa fNil) es = o := by
  unfold fMeth
  rw [ho, O.bind_ok, hr]
  have hi : insOf (cl.at_ "Saying") n (sayD cl m on fr) = true := by
    show (decide (cl.at_ "Saying" = cl.at_ "Saying") && !(["_many", "_on", "_free", "_off"] : List Str).contains n) = true
    rw [decide_eq_true rfl]
    simpa using hn
  rw [if_pos hi, ha, O.bind_ok]
  show (match g [sayD cl m on fr, (nrm x).dat] with | .ok (.val d) => O.ok (R.val d) | .ok (.new xs) => .ok (.new xs) | .exc c fs => .exc c fs | _ => .no) = o
  rw [nrm_dat]
  exact hg
/-- things that are no terms -/
def oddT (m : Nat) : List D := [.str (List.replicate (m + 1) 48), .str (List.replicate (m - 1) 48), .str (List.replicate m 50), .non, .int 5, .lst [.str [48]], .bl true, .str (List.replicate m 32)]
theorem rep_one (c n : Nat) : repS [c] (n : Int) = List.replicate n c := by
  unfold repS
  rw [Int.toNat_natCast]
  induction n with
  | zero => rfl
  | succ n ih => rw [List.replicate_succ, List.flatten_cons, ih, List.replicate_succ]; rfl
theorem oddT_no {m : Nat} (m0 : 1 ≤ m) (m1 : m ≤ 5) : ∀ x ∈ oddT m, g_is_term cl [x, .int m] = .ok (.val (.bl false)) := by
  have st : ∀ {w : List Nat}, w.length ≤ 10 → (w.length ≠ m ∨ w.all pb = false) → g_is_term cl [.str w, .int m] = .ok (.val (.bl false)) := fun {w} h1 h2 => by
    rw [term_str h1]
    rcases h2 with h2 | h2
    · rw [decide_eq_false h2]; rfl
    · rw [h2, Bool.and_false]
  have rp : ∀ {c : Nat}, pb c = false → (List.replicate m c).all pb = false := fun {c} h => by
    obtain ⟨k, rfl⟩ : ∃ k, m = k + 1 := ⟨m - 1, by omega⟩
    rw [List.replicate_succ, List.all_cons, h]; rfl
  intro x hx
  simp only [oddT, List.mem_cons, List.not_mem_nil, or_false] at hx
  rcases hx with rfl | rfl | rfl | rfl | rfl | rfl | rfl | rfl
  · exact st (by simp; omega) (Or.inl (by simp))
  · exact st (by simp; omega) (Or.inl (by simp; omega))
  · exact st (by simp; omega) (Or.inr (rp rfl))
  · exact term_other rfl (by decide)
  · exact term_other rfl (by decide)
  · exact term_other rfl (by decide)
  · exact term_other rfl (by decide)
  · exact st (by simp; omega) (Or.inr (rp rfl))
end K02
namespace K02
open PySem PySem.Spec PyProof.Rows L2 Fw
variable {cl : Cl}
theorem any_o {es : Fw.Env} {f : Fw.Env → O R} {l : List Nat} {p : Nat → Bool} (h : f es = .ok (.new (l.map fun n => .bl (p n)))) : fBi dAny (fCons f fNil) es = .ok (.val (.bl (l.any p))) := by
  refine bi_o (cons_n h nil_o) ?_
  show (blsOf (l.map fun n => D.bl (p n))).map (fun (ns : List Bool) => R.val (.bl (ns.any id))) = _
  rw [bls_of]
  show some (R.val (.bl ((l.map p).any id))) = _
  rw [List.any_map]; rfl
theorem mul_s {c n : Nat} (hn : n ≤ 1000) : dMulA (.val (.str [c])) (.val (.int (n : Nat))) = some (.val (.str (List.replicate n c))) := by
  show (if [c].length ≤ 1000 ∧ -1000 ≤ (n : Int) ∧ (n : Int) ≤ 1000 then some (R.val (.str (repS [c] (n : Int)))) else none) = _
  rw [if_pos ⟨by simp, by omega, by omega⟩, rep_one]
theorem sub_i (x y : Int) : dSub (.val (.int x)) (.val (.int y)) = some (.val (.int (x - y))) := rfl
def goodBody (cl : Cl) : Fw.Env → Out := (gSeq (gSet 5 true (fCall0 (g_law_spread cl) (fCons (fVar 3) (fCons (fVar 4) fNil))))
    (gSeq (gSet 6 true (fM1 dJoin (fC (.str [])) (fLc (fRg1 (fCons (fVar 1) fNil)) [10] (.nm 10) fYes (fBin dIx (fC (.str [48, 49, 45])) (fBin dMod (fBin dDiv (fCall0 (g_law_spread cl) (fCons (fVar 5) (fCons (fVar 10) fNil))) (fC (.int 9))) (fC (.int 3)))))))
    (gSeq (gSet 7 true (fMeth (cl.at_ "Saying") "is_good" (g_Saying_is_good cl) (fVar 0) (fCons (fVar 6) fNil)))
    (gIf (fOr (fNot (fTest (fBi (dIsX cl) (fCons (fVar 7) (fCons (fC (.ty "bool")) fNil))))) (fTest (fBin dEq (fVar 7) (fBi dAny (fCons (fLc (fIt false (fVar 2)) [11] (.nm 11) fYes (fCall0 (g_law_agrees cl) (fCons (fVar 6) (fCons (fVar 11) fNil)))) fNil))))) (gRet (fC (.bl false))) gNext))))
theorem good_step {m : Nat} {on fr : List Int} (m1 : m ≤ 5) (d i : Nat) (hi : i < 4) (x5 x6 x7 x8 x9 x10 x11 : Sl) : ∃ y5 y6 y7, goodBody cl [.brw (Say cl m on fr), .val (.int m), .brw (.lst ((offs m (on ++ fr)).map fun i => .int (i : Nat))), .val (.int d), .val (.int i), x5, x6, x7, x8, x9, x10, x11]
    = .nx [.brw (Say cl m on fr), .val (.int m), .brw (.lst ((offs m (on ++ fr)).map fun i => .int (i : Nat))), .val (.int d), .val (.int i), y5, y6, y7, x8, x9, x10, x11] := by
  obtain ⟨a, ha⟩ := spr_nat (cl := cl) (d : Int) i (by omega) (by omega)
  have lO := offs_len m m1 (on ++ fr)
  unfold goodBody
  have s5 : gSet 5 true (fCall0 (g_law_spread cl) (fCons (fVar 3) (fCons (fVar 4) fNil))) [.brw (Say cl m on fr), .val (.int m), .brw (.lst ((offs m (on ++ fr)).map fun i => .int (i : Nat))), .val (.int d), .val (.int i), x5, x6, x7, x8, x9, x10, x11]
      = .nx [.brw (Say cl m on fr), .val (.int m), .brw (.lst ((offs m (on ++ fr)).map fun i => .int (i : Nat))), .val (.int d), .val (.int i), .val (.int a), x6, x7, x8, x9, x10, x11] := set_v (call_o (cons_o rfl (cons_o rfl nil_o)) ha)
  rw [seq_n s5]
  obtain ⟨s, hs, hj⟩ := drawn (gs := g_law_spread cl) (es := [.brw (Say cl m on fr), .val (.int m), .brw (.lst ((offs m (on ++ fr)).map fun i => .int (i : Nat))), .val (.int d), .val (.int i), .val (.int a), x6, x7, x8, x9, x10, x11]) (i := 1) (j := 5) (l := 10) (n := m) (dd := (a : Int)) m1 (fun k hk => spr_nat (cl := cl) (a : Int) k (by omega) (by omega)) rfl (fun _ => rfl) (fun _ => rfl)
  rw [seq_n (set_v hj)]
  show ∃ y5 y6 y7, gSeq _ _ [.brw (Say cl m on fr), .val (.int m), .brw (.lst ((offs m (on ++ fr)).map fun i => .int (i : Nat))), .val (.int d), .val (.int i), .val (.int a), .val (.str s), x7, x8, x9, x10, x11] = _
  have hg := good_eq (cl := cl) (m := m) (on := sortI on) (fr := sortI fr) hs m1
  rw [offs_sort] at hg
  have s7 : gSet 7 true (fMeth (cl.at_ "Saying") "is_good" (g_Saying_is_good cl) (fVar 0) (fCons (fVar 6) fNil)) [.brw (Say cl m on fr), .val (.int m), .brw (.lst ((offs m (on ++ fr)).map fun i => .int (i : Nat))), .val (.int d), .val (.int i), .val (.int a), .val (.str s), x7, x8, x9, x10, x11]
      = .nx [.brw (Say cl m on fr), .val (.int m), .brw (.lst ((offs m (on ++ fr)).map fun i => .int (i : Nat))), .val (.int d), .val (.int i), .val (.int a), .val (.str s), .val (.bl (!((offs m (on ++ fr)).any fun n => agB n 0 s))), x8, x9, x10, x11] :=
    set_v (meth1 (x := .str s) (r := .brw (Say cl m on fr)) rfl rfl (by decide) rfl (by rw [hg]))
  rw [seq_n s7]
  have t1 := not_o (k := true) (test_o (bi_o (dd := dIsX cl) (cons_o (fa := fVar 7) (es := [.brw (Say cl m on fr), .val (.int m), .brw (.lst ((offs m (on ++ fr)).map fun i => .int (i : Nat))), .val (.int d), .val (.int i), .val (.int a), .val (.str s), .val (.bl (!((offs m (on ++ fr)).any fun n => agB n 0 s))), x8, x9, x10, x11]) rfl (cons_o (fa := fC (.ty "bool")) rfl nil_o)) (isx_bool _)))
  have hlc : fLc (fIt false (fVar 2)) [11] (.nm 11) fYes (fCall0 (g_law_agrees cl) (fCons (fVar 6) (fCons (fVar 11) fNil))) [.brw (Say cl m on fr), .val (.int m), .brw (.lst ((offs m (on ++ fr)).map fun i => .int (i : Nat))), .val (.int d), .val (.int i), .val (.int a), .val (.str s), .val (.bl (!((offs m (on ++ fr)).any fun n => agB n 0 s))), x8, x9, x10, x11] = .ok (.new ((offs m (on ++ fr)).map fun n => .bl (agB n 0 s))) := by
    have hsrc : fIt false (fVar 2) [.brw (Say cl m on fr), .val (.int m), .brw (.lst ((offs m (on ++ fr)).map fun i => .int (i : Nat))), .val (.int d), .val (.int i), .val (.int a), .val (.str s), .val (.bl (!((offs m (on ++ fr)).any fun n => agB n 0 s))), x8, x9, x10, x11] = .ok ((offs m (on ++ fr)).map fun i => .val (.int (i : Nat))) := by
      show O.of (some (((offs m (on ++ fr)).map fun i => D.int (i : Nat)).map nrm)) = _
      rw [List.map_map]; rfl
    unfold fLc
    rw [hsrc, O.bind_ok, if_pos (by rw [List.length_map]; omega)]
    rw [lcL_list (fun n => .bl (agB n 0 s)) (offs m (on ++ fr)) fun n hn => ⟨_, rfl, rfl, call_o (cons_o rfl (cons_o rfl nil_o)) (agrees_eq s hs.2 n)⟩]
    rfl
  have hany := any_o hlc
  generalize hB : ((offs m (on ++ fr)).any fun n => agB n 0 s) = B at *
  generalize hE : ([.brw (Say cl m on fr), .val (.int m), .brw (.lst ((offs m (on ++ fr)).map fun i => .int (i : Nat))), .val (.int d), .val (.int i), .val (.int a), .val (.str s), .val (.bl (!B)), x8, x9, x10, x11] : Fw.Env) = E at *
  have v7 : fVar 7 E = .ok (.val (.bl (!B))) := by rw [← hE]; rfl
  have t2 := test_o (bin_o (d := dEq) v7 hany (eq_b _ _))
  have e : ((!B) == B) = false := by cases B <;> rfl
  rw [e] at t2
  refine ⟨.val (.int a), .val (.str s), .val (.bl (!B)), ?_⟩
  rw [hE]
  exact if_f ((or_f t1).trans t2)
theorem meth_x {g : List D → O R} {es : Fw.Env} {c k : Addr} {n : Str} {fo : Fw.Env → O R} {fr : Fw.Env → O (List R)} {r : R} {rs : List R} (ho : fo es = .ok r) (hi : insOf c n r.dat = true) (ha : fr es = .ok rs) (hg : g (r.dat :: rs.map R.dat) = .exc k none) : fMeth c n g fo fr es = .exc k none := by
  unfold fMeth
  rw [ho, O.bind_ok, if_pos hi, ha, O.bind_ok, hg]
theorem q0 (x y : D) (hx : flat x = false) (hy : flat y = false) (a b : Int) : startE 12 [x, .int a, y, .int b] = [.brw x, .val (.int a), .brw y, .val (.int b), .no, .no, .no, .no, .no, .no, .no, .no] := by
  have sx : ∀ z : D, flat z = false → slotD z = .brw z := fun z h => by unfold slotD; rw [h]; rfl
  show [slotD x, slotD (.int a), slotD y, slotD (.int b)] ++ List.replicate 8 Sl.no = _
  rw [sx x hx, sx y hy]; rfl
theorem q1 {e : Fw.Env} {ds : List D} {r : R} (h0 : startE 12 ds = e) (h : b_law_good_right cl e = .rt r) : g_law_good_right cl ds = O.ok r := by
  show (match b_law_good_right cl (startE 12 ds) with | .nx _ => O.ok (R.val .non) | .rt r => O.ok r | _ => O.no) = _
  rw [h0, h]
theorem good_right_eq (K : Kns cl) {m : Nat} {on fr : List Int} (m0 : 1 ≤ m) (m1 : m ≤ 5) (d : Nat) : g_law_good_right cl [Say cl m on fr, .int m, .lst ((offs m (on ++ fr)).map fun i => .int (i : Nat)), .int d] = .ok (.val (.bl true)) := by
  refine q1 (q0 _ _ rfl rfl _ _) ?_
  unfold b_law_good_right
  obtain ⟨e2, hf, s4, s5, s6, s7, he⟩ := forL_rg (t := .nm 4) (n := 4) (body := goodBody cl) (es := [.brw (Say cl m on fr), .val (.int m), .brw (.lst ((offs m (on ++ fr)).map fun i => .int (i : Nat))), .val (.int d), .no, .no, .no, .no, .no, .no, .no, .no])
    (I := fun _ es => ∃ s4 s5 s6 s7, es = [.brw (Say cl m on fr), .val (.int m), .brw (.lst ((offs m (on ++ fr)).map fun i => .int (i : Nat))), .val (.int d), s4, s5, s6, s7, .no, .no, .no, .no])
    (fun i hi es ⟨s4, s5, s6, s7, he⟩ => by
      subst he
      obtain ⟨y5, y6, y7, e⟩ := good_step (cl := cl) (on := on) (fr := fr) m1 d i hi s5 s6 s7 .no .no .no .no
      exact ⟨_, rfl, _, e, _, _, _, _, rfl⟩) ⟨_, _, _, _, rfl⟩
  subst he
  show gSeq (gFor (fRg1 (fCons (fC (.int 4)) fNil)) (.nm 4) (goodBody cl)) _ _ = _
  rw [seq_n ((for_o (rg_o (n := 4) rfl (by decide))).trans hf)]
  have g8 : gSet 8 true (fC .non) [.brw (Say cl m on fr), .val (.int m), .brw (.lst ((offs m (on ++ fr)).map fun i => .int (i : Nat))), .val (.int d), s4, s5, s6, s7, .no, .no, .no, .no] = .nx [.brw (Say cl m on fr), .val (.int m), .brw (.lst ((offs m (on ++ fr)).map fun i => .int (i : Nat))), .val (.int d), s4, s5, s6, s7, .val .non, .no, .no, .no] := set_v rfl
  rw [seq_n g8]
  generalize hE : ([.brw (Say cl m on fr), .val (.int m), .brw (.lst ((offs m (on ++ fr)).map fun i => .int (i : Nat))), .val (.int d), s4, s5, s6, s7, .val .non, .no, .no, .no] : Fw.Env) = E
  have v0 : fVar 0 E = .ok (.brw (Say cl m on fr)) := by rw [← hE]; rfl
  have v1 : fVar 1 E = .ok (.val (.int m)) := by rw [← hE]; rfl
  have v3 : fVar 3 E = .ok (.val (.int d)) := by rw [← hE]; rfl
  have hL := lst_o (cons_o (bin_o (fa := fC (.str [48])) rfl (bin_o (d := dAdd) v1 (fb := fC (.int 1)) rfl (add_i _ _)) (mul_s (c := 48) (n := m + 1) (by omega))) (cons_o (bin_o (fa := fC (.str [48])) rfl (bin_o (d := dSub) v1 (fb := fC (.int 1)) rfl (by rw [sub_i, show (m : Int) - 1 = ((m - 1 : Nat) : Int) by omega])) (mul_s (c := 48) (n := m - 1) (by omega))) (cons_o (bin_o (fa := fC (.str [50])) rfl v1 (mul_s (c := 50) (by omega))) (cons_o (fa := fC .non) rfl (cons_o (fa := fC (.int 5)) rfl (cons_n (lst1 (fa := fC (.str [48])) rfl) (cons_o (fa := fC (.bl true)) rfl (cons_o (bin_o (fa := fC (.str [32])) rfl v1 (mul_s (c := 32) (by omega))) nil_o)))))))) (ds := oddT m) rfl (by simp [oddT])
  obtain ⟨j, hj⟩ := of_nat (i := (d : Int) % 8) (by omega)
  have hj8 : j < (oddT m).length := by show j < 8; omega
  have hx := oddT_no (cl := cl) m0 m1 (oddT m)[j] (List.getElem_mem hj8)
  have hix := bin_g (d := dIx) hL (bin_o v3 (fb := fC (.int 8)) rfl (mod_i (by decide))) (c := .val (oddT m)[j]) (by
    show (atI (oddT m) ((d : Int) % 8)).map R.val = _
    rw [hj, Fw.atI_nat, List.getElem?_eq_getElem hj8]; rfl)
  have hbad := good_bad (cl := cl) (m := m) (on := sortI on) (fr := sortI fr) hx
  have hme : fMeth (cl.at_ "Saying") "is_good" (g_Saying_is_good cl) (fVar 0) (fCons (fBin dIx (fLst (fCons (fBin dMulA (fC (.str [48])) (fBin dAdd (fVar 1) (fC (.int 1)))) (fCons (fBin dMulA (fC (.str [48])) (fBin dSub (fVar 1) (fC (.int 1)))) (fCons (fBin dMulA (fC (.str [50])) (fVar 1)) (fCons (fC .non) (fCons (fC (.int 5)) (fCons (fLst (fCons (fC (.str [48])) fNil)) (fCons (fC (.bl true)) (fCons (fBin dMulA (fC (.str [32])) (fVar 1)) fNil))))))))) (fBin dMod (fVar 3) (fC (.int 8)))) fNil) E = .exc (cl.at_ "BadTerm") none := by
    have hi : insOf (cl.at_ "Saying") "is_good" (R.brw (Say cl m on fr)).dat = true := by
      show (decide (cl.at_ "Saying" = cl.at_ "Saying") && !(["_many", "_on", "_free", "_off"] : List Str).contains "is_good") = true
      rw [decide_eq_true rfl]; rfl
    exact meth_x v0 hi (cons_o hix nil_o) hbad
  have htry : gTry (fun c => cl.ex c (cl.at_ "TermError")) 9 (gExpr (fMeth (cl.at_ "Saying") "is_good" (g_Saying_is_good cl) (fVar 0) (fCons (fBin dIx (fLst (fCons (fBin dMulA (fC (.str [48])) (fBin dAdd (fVar 1) (fC (.int 1)))) (fCons (fBin dMulA (fC (.str [48])) (fBin dSub (fVar 1) (fC (.int 1)))) (fCons (fBin dMulA (fC (.str [50])) (fVar 1)) (fCons (fC .non) (fCons (fC (.int 5)) (fCons (fLst (fCons (fC (.str [48])) fNil)) (fCons (fC (.bl true)) (fCons (fBin dMulA (fC (.str [32])) (fVar 1)) fNil))))))))) (fBin dMod (fVar 3) (fC (.int 8)))) fNil))) (gSet 8 true (fVar 9)) E
      = .nx [.brw (Say cl m on fr), .val (.int m), .brw (.lst ((offs m (on ++ fr)).map fun i => .int (i : Nat))), .val (.int d), s4, s5, s6, s7, .val (.exn (cl.at_ "BadTerm") [] []), .no, .no, .no] := by
    unfold gTry gExpr
    rw [hme]
    show (match cl.ex (cl.at_ "BadTerm") (cl.at_ "TermError") with | some true => _ | some false => _ | none => _) = _
    rw [K.t.x, ← hE]
    rfl
  rw [seq_n htry]
  refine ret_v (bin_o (call_o (cons_o rfl nil_o) (word_exn K.t)) rfl ?_)
  rw [eq_s (by decide) (by decide)]; rfl
end K02
namespace K02
open PySem PySem.Spec PyProof.Rows L2 Fw
variable {cl : Cl}
/-! ### the law -/
noncomputable def lawBody (cl : Cl) : Fw.Env → Out := (gSeq (gSet 3 true (fCall0 (g_law_spread cl) (fCons (fVar 2) (fCons (fBin dMod (fVar 1) (fC (.int 60))) fNil))))
    (gSeq (gAsg (.tp [4, 5, 6]) (fCall0 (g_law_rows cl) (fCons (fVar 2) (fCons (fBin dMod (fVar 1) (fC (.int 60))) (fCons (fC (.int 5)) fNil)))))
    (gSeq (gOwn2 7 (fCons2 (fBi dList (fCons (fVar 5) fNil)) (fCons2 (fBi dList (fCons (fVar 6) fNil)) fNil2)))
    (gSeq (gSet 8 true (fMake (mk_Saying cl) [] (fCons (fVar 4) (fCons (fIx2 7 0) (fCons (fIx2 7 1) fNil)))))
    (gSeq (gIf (fTest (fNe2 7 (fLst (fCons (fVar 5) (fCons (fVar 6) fNil))))) (gRet (fC (.bl false))) gNext)
    (gSeq (gApp2 7 0 (fC (.int 0)))
    (gSeq (gClr2 7 1)
    (gSeq (gIf (fOr (fNot (fTest (fCall0 (g_law_told_right cl) (fCons (fVar 8) (fCons (fVar 4) (fCons (fVar 5) (fCons (fVar 6) fNil))))))) (fNot (fTest (fCallF (g_law_refused cl) (fCons (fVar 4) (fCons (fVar 5) (fCons (fVar 6) (fCons (fBin dDiv (fVar 3) (fC (.int 7))) fNil)))))))) (gRet (fC (.bl false))) gNext)
    (gSeq (gSet 9 true (fLc (fRg1 (fCons (fBin dShl (fC (.int 1)) (fVar 4)) fNil)) [10] (.nm 10) (fAnd (fTest (fBin dNin (fVar 10) (fVar 5))) (fTest (fBin dNin (fVar 10) (fVar 6)))) (fVar 10)))
    (gSeq (gIf (fNot (fTest (fCall0 (g_law_good_right cl) (fCons (fVar 8) (fCons (fVar 4) (fCons (fVar 9) (fCons (fBin dDiv (fVar 3) (fC (.int 11))) fNil))))))) (gRet (fC (.bl false))) gNext)
    (gIf (fNot (fTest (fCall0 (g_law_told_right cl) (fCons (fMake (mk_Saying cl) [.non] (fCons (fVar 4) (fCons (fBi dList (fCons (fVar 5) fNil)) fNil))) (fCons (fVar 4) (fCons (fVar 5) (fCons (fLst fNil) fNil))))))) (gRet (fC (.bl false))) gNext)))))))))))
theorem list_v {es : Fw.Env} {f : Fw.Env → O R} {xs : List D} (h : f es = .ok (.val (.lst xs))) : fBi dList (fCons f fNil) es = .ok (.new xs) := bi_o (cons_o h nil_o) rfl
theorem make_v {mk : List D → O R} {dv : List D} {fr : Fw.Env → O (List R)} {es : Fw.Env} {rs : List R} {d : D} (h1 : fr es = .ok rs) (hg : mk (rs.map R.dat ++ dv) = .ok (.val d)) : fMake mk dv fr es = .ok (.val d) := by
  unfold fMake; rw [h1, O.bind_ok, hg]
theorem nin_val (told : List Int) (i : Nat) : dNin (.val (.int i)) (.val (.lst (told.map .int))) = some (.val (.bl (outOf told i))) := nin_ints told i
theorem off_o {E : Fw.Env} {m : Nat} (m1 : m ≤ 5) {on fr : List Int} {a b c v : Nat} (h4 : fVar a E = .ok (.val (.int m))) (hb : ∀ i : Nat, fVar b (E.set v (.val (.int i))) = .ok (.val (.lst (on.map .int)))) (hc : ∀ i : Nat, fVar c (E.set v (.val (.int i))) = .ok (.val (.lst (fr.map .int)))) (hv : v < E.length) :
    fLc (fRg1 (fCons (fBin dShl (fC (.int 1)) (fVar a)) fNil)) [v] (.nm v) (fAnd (fTest (fBin dNin (fVar v) (fVar b))) (fTest (fBin dNin (fVar v) (fVar c)))) (fVar v) E = .ok (.new ((offs m (on ++ fr)).map fun i => .int (i : Nat))) := by
  have pw := pow_le m1
  have hvv : ∀ i : Nat, fVar v (E.set v (.val (.int i))) = .ok (.val (.int i)) := fun i => by
    unfold fVar
    rw [List.getElem?_set_self hv]
  have hw : ∀ s : Sl, (wipeE E [v]).set v s = E.set v s := fun s => by
    rw [wipeE1, List.set_set]
  exact lc_o (src := fRg1 (fCons (fBin dShl (fC (.int 1)) (fVar a)) fNil)) (vs := [v]) (t := .nm v) (cond := fAnd (fTest (fBin dNin (fVar v) (fVar b))) (fTest (fBin dNin (fVar v) (fVar c)))) (elt := fVar v) (n := 2 ^ m) (p := outOf (on ++ fr)) (f := fun i => .int (i : Nat))
      (es := E) (rg_o (bin_o rfl h4 (shl_o (by omega))) (by omega)) (by omega) fun i hi => ⟨E.set v (.val (.int i)), congrArg some (hw _), by
        rw [out_app]
        exact and_o (test_o (bin_b (hvv i) (hb i) rfl rfl (nin_val on i))) (test_o (bin_b (hvv i) (hc i) rfl rfl (nin_val fr i))), fun _ => hvv i⟩
theorem eq2_t (on fr : List Int) : dNe (.val (.lst ([on.map D.int, fr.map D.int].map D.lst))) (.val (.lst [.lst (on.map .int), .lst (fr.map .int)])) = some (.val (.bl false)) := by
  show (if shp 60 (.lst [.lst (on.map .int), .lst (fr.map .int)]) && shp 60 (.lst [.lst (on.map .int), .lst (fr.map .int)]) then some (R.val (.bl (!deq (.lst [.lst (on.map .int), .lst (fr.map .int)]) (.lst [.lst (on.map .int), .lst (fr.map .int)])))) else none) = _
  have hs : shp 60 (.lst [.lst (on.map .int), .lst (fr.map .int)]) = true := by
    show ((on.map D.int).all (shp 58) && ((fr.map D.int).all (shp 58) && true)) = true
    rw [shp_ints, shp_ints]; rfl
  have hq : deq (.lst [.lst (on.map .int), .lst (fr.map .int)]) (.lst [.lst (on.map .int), .lst (fr.map .int)]) = true := by
    show (deqL (on.map D.int) (on.map D.int) && (deqL (fr.map D.int) (fr.map D.int) && true)) = true
    rw [deqL_int, deqL_int]; rfl
  rw [hs, hq]; rfl
theorem ne2_o {E : Fw.Env} {i : Nat} {xss : List (List D)} {fb : Fw.Env → O R} {r c : R} (h : E[i]? = some (.own2 xss)) (hb : fb E = .ok r) (hd : dNe (.val (.lst (xss.map .lst))) r.fz = some c) : fNe2 i fb E = .ok c := by
  unfold fNe2
  rw [h]
  show ((fb E).bind _) = _
  rw [hb, O.bind_ok, hd]; rfl
theorem law_body (K : Kns cl) {L : Sl} {k : Nat} {c : Int} {x3 x4 x5 x6 x7 x8 x9 : Sl} (h2 : has2 [L, x8, x9] = false) : ∃ y3 y4 y5 y6 y7 y8 y9, lawBody cl [L, .val (.int k), .val (.int c), x3, x4, x5, x6, x7, x8, x9, .no] = .nx [L, .val (.int k), .val (.int c), y3, y4, y5, y6, y7, y8, y9, .no] ∧ has2 [L, y8, y9] = false := by
  obtain ⟨d, hd⟩ := spr_nat (cl := cl) c ((k : Int) % 60) (by omega) (by omega)
  obtain ⟨m, on, fr, R0, hp⟩ := rows_eq (cl := cl) c ((k : Int) % 60) (by omega) (by omega)
  have m0 := R0.m0
  have m1 := R0.m1
  have lo := R0.lo
  have lf := R0.lf
  obtain ⟨d7, h7⟩ := of_nat (i := (d : Int) / 7) (by omega)
  obtain ⟨d11, h11⟩ := of_nat (i := (d : Int) / 11) (by omega)
  have m60 : ∀ E : Fw.Env, E[1]? = some (.val (.int k)) → fBin dMod (fVar 1) (fC (.int 60)) E = .ok (.val (.int ((k : Int) % 60))) := fun E h => bin_o (by unfold fVar; rw [h]) rfl (mod_i (by decide))
  unfold lawBody
  rw [seq_n (set_v (call_o (cons_o rfl (cons_o (m60 _ rfl) nil_o)) hd))]
  show ∃ y3 y4 y5 y6 y7 y8 y9, gSeq _ _ [L, .val (.int k), .val (.int c), .val (.int d), x4, x5, x6, x7, x8, x9, .no] = _ ∧ _
  rw [seq_n (asg_v (call_o (cons_o rfl (cons_o (m60 _ rfl) (cons_o rfl nil_o))) hp) rfl)]
  show ∃ y3 y4 y5 y6 y7 y8 y9, gSeq _ _ [L, .val (.int k), .val (.int c), .val (.int d), .val (.int m), .val (.lst (on.map .int)), .val (.lst (fr.map .int)), x7, x8, x9, .no] = _ ∧ _
  have ho : gOwn2 7 (fCons2 (fBi dList (fCons (fVar 5) fNil)) (fCons2 (fBi dList (fCons (fVar 6) fNil)) fNil2)) [L, .val (.int k), .val (.int c), .val (.int d), .val (.int m), .val (.lst (on.map .int)), .val (.lst (fr.map .int)), x7, x8, x9, .no]
      = .nx [L, .val (.int k), .val (.int c), .val (.int d), .val (.int m), .val (.lst (on.map .int)), .val (.lst (fr.map .int)), .own2 [on.map .int, fr.map .int], x8, x9, .no] := by
    unfold gOwn2
    rw [cons2_o (list_v rfl) (cons2_o (list_v rfl) rfl)]
    show (if _ then Out.no else Out.nx _) = _
    rw [if_neg]
    · rfl
    · have h2' : has2 [L, .val (.int k), .val (.int c), .val (.int d), .val (.int m), .val (.lst (on.map .int)), .val (.lst (fr.map .int)), .no, x8, x9, .no] = has2 [L, x8, x9] := by simp [has2]
      intro z
      rcases z with z | z
      · rw [show ([L, .val (.int k), .val (.int c), .val (.int d), .val (.int m), .val (.lst (on.map .int)), .val (.lst (fr.map .int)), x7, x8, x9, .no] : Fw.Env).set 7 .no = [L, .val (.int k), .val (.int c), .val (.int d), .val (.int m), .val (.lst (on.map .int)), .val (.lst (fr.map .int)), .no, x8, x9, .no] from rfl, h2', h2] at z
        cases z
      · simp at z
  rw [seq_n ho]
  rw [seq_n (set_v (make_v (rs := [.val (.int m), .bor (on.map .int), .bor (fr.map .int)]) rfl (made_eq R0)))]
  show ∃ y3 y4 y5 y6 y7 y8 y9, gSeq _ _ [L, .val (.int k), .val (.int c), .val (.int d), .val (.int m), .val (.lst (on.map .int)), .val (.lst (fr.map .int)), .own2 [on.map .int, fr.map .int], .val (Say cl m on fr), x9, .no] = _ ∧ _
  have t1 : fTest (fNe2 7 (fLst (fCons (fVar 5) (fCons (fVar 6) fNil)))) [L, .val (.int k), .val (.int c), .val (.int d), .val (.int m), .val (.lst (on.map .int)), .val (.lst (fr.map .int)), .own2 [on.map .int, fr.map .int], .val (Say cl m on fr), x9, .no] = .ok false := by
    exact test_o (ne2_o rfl (lst2 (fa := fVar 5) (fb := fVar 6) (x := .lst (on.map .int)) (y := .lst (fr.map .int)) rfl rfl) (eq2_t on fr))
  rw [seq_n (if_f t1)]
  have ha : gApp2 7 0 (fC (.int 0)) [L, .val (.int k), .val (.int c), .val (.int d), .val (.int m), .val (.lst (on.map .int)), .val (.lst (fr.map .int)), .own2 [on.map .int, fr.map .int], .val (Say cl m on fr), x9, .no]
      = .nx [L, .val (.int k), .val (.int c), .val (.int d), .val (.int m), .val (.lst (on.map .int)), .val (.lst (fr.map .int)), .own2 [on.map .int ++ [.int 0], fr.map .int], .val (Say cl m on fr), x9, .no] := by
    show (if (on.map D.int).length < 90000 then Out.nx _ else .no) = _
    rw [if_pos (by simp; omega)]; rfl
  rw [seq_n ha]
  have hc : gClr2 7 1 [L, .val (.int k), .val (.int c), .val (.int d), .val (.int m), .val (.lst (on.map .int)), .val (.lst (fr.map .int)), .own2 [on.map .int ++ [.int 0], fr.map .int], .val (Say cl m on fr), x9, .no]
      = .nx [L, .val (.int k), .val (.int c), .val (.int d), .val (.int m), .val (.lst (on.map .int)), .val (.lst (fr.map .int)), .own2 [on.map .int ++ [.int 0], []], .val (Say cl m on fr), x9, .no] := rfl
  rw [seq_n hc]
  generalize hs7 : (Sl.own2 [on.map D.int ++ [.int 0], []]) = s7
  have d7' : fBin dDiv (fVar 3) (fC (.int 7)) [L, .val (.int k), .val (.int c), .val (.int d), .val (.int m), .val (.lst (on.map .int)), .val (.lst (fr.map .int)), s7, .val (Say cl m on fr), x9, .no] = .ok (.val (.int d7)) := by
    rw [← h7]; exact bin_o rfl rfl (div_i (by decide))
  have t2 := not_o (k := true) (test_o (call_o (gg := g_law_told_right cl) (fr := fCons (fVar 8) (fCons (fVar 4) (fCons (fVar 5) (fCons (fVar 6) fNil)))) (es := [L, .val (.int k), .val (.int c), .val (.int d), .val (.int m), .val (.lst (on.map .int)), .val (.lst (fr.map .int)), s7, .val (Say cl m on fr), x9, .no]) (rs := [.val (Say cl m on fr), .val (.int m), .val (.lst (on.map .int)), .val (.lst (fr.map .int))]) rfl (told_eq (cl := cl) m1 lo lf)))
  have t3 := not_o (k := true) (test_o (callF_o (g := g_law_refused cl) (fr := fCons (fVar 4) (fCons (fVar 5) (fCons (fVar 6) (fCons (fBin dDiv (fVar 3) (fC (.int 7))) fNil)))) (rs := [.val (.int m), .val (.lst (on.map .int)), .val (.lst (fr.map .int)), .val (.int d7)]) (cons_o rfl (cons_o rfl (cons_o rfl (cons_o d7' nil_o)))) rfl (refused_eq K R0 d7)))
  rw [seq_n (if_f ((or_f t2).trans t3))]
  rw [seq_n (set_n (off_o (E := [L, .val (.int k), .val (.int c), .val (.int d), .val (.int m), .val (.lst (on.map .int)), .val (.lst (fr.map .int)), s7, .val (Say cl m on fr), x9, .no]) m1 rfl (fun _ => rfl) (fun _ => rfl) (by simp)))]
  show ∃ y3 y4 y5 y6 y7 y8 y9, gSeq _ _ [L, .val (.int k), .val (.int c), .val (.int d), .val (.int m), .val (.lst (on.map .int)), .val (.lst (fr.map .int)), s7, .val (Say cl m on fr), .val (.lst ((offs m (on ++ fr)).map fun i => .int (i : Nat))), .no] = _ ∧ _
  have d11' : fBin dDiv (fVar 3) (fC (.int 11)) [L, .val (.int k), .val (.int c), .val (.int d), .val (.int m), .val (.lst (on.map .int)), .val (.lst (fr.map .int)), s7, .val (Say cl m on fr), .val (.lst ((offs m (on ++ fr)).map fun i => .int (i : Nat))), .no] = .ok (.val (.int d11)) := by
    rw [← h11]; exact bin_o rfl rfl (div_i (by decide))
  have t4 := not_o (k := true) (test_o (call_o (gg := g_law_good_right cl) (fr := fCons (fVar 8) (fCons (fVar 4) (fCons (fVar 9) (fCons (fBin dDiv (fVar 3) (fC (.int 11))) fNil)))) (rs := [.val (Say cl m on fr), .val (.int m), .val (.lst ((offs m (on ++ fr)).map fun i => .int (i : Nat))), .val (.int d11)]) (cons_o rfl (cons_o rfl (cons_o rfl (cons_o d11' nil_o)))) (good_right_eq K (on := on) (fr := fr) m0 m1 d11)))
  rw [seq_n (if_f t4)]
  have hmk : fMake (mk_Saying cl) [.non] (fCons (fVar 4) (fCons (fBi dList (fCons (fVar 5) fNil)) fNil)) [L, .val (.int k), .val (.int c), .val (.int d), .val (.int m), .val (.lst (on.map .int)), .val (.lst (fr.map .int)), s7, .val (Say cl m on fr), .val (.lst ((offs m (on ++ fr)).map fun i => .int (i : Nat))), .no] = .ok (.val (Say cl m on [])) :=
    make_v (rs := [.val (.int m), .val (.lst (on.map .int))]) (cons_o rfl (cons_n (list_v rfl) nil_o)) (made_none R0)
  have t5 := not_o (k := true) (test_o (call_o (gg := g_law_told_right cl) (fr := fCons (fMake (mk_Saying cl) [.non] (fCons (fVar 4) (fCons (fBi dList (fCons (fVar 5) fNil)) fNil))) (fCons (fVar 4) (fCons (fVar 5) (fCons (fLst fNil) fNil)))) (rs := [.val (Say cl m on []), .val (.int m), .val (.lst (on.map .int)), .val (.lst (([] : List Int).map .int))]) (cons_o hmk (cons_o rfl (cons_o rfl (cons_n (fa := fLst fNil) (xs := []) rfl nil_o)))) (told_eq (cl := cl) (fr := []) m1 lo (by simp))))
  refine ⟨_, _, _, _, _, _, _, if_f t5, ?_⟩
  have : has2 [L] = false := by
    cases L <;> simp_all [has2]
  simpa [has2] using this
theorem law_eq (K : Kns cl) (ns : List Int) (hn : ns.length ≤ 1000) : g_law cl [.lst (ns.map .int)] = .ok (.val (.bl true)) := by
  refine congrArg fin (?_ : b_law cl [.brw (.lst (ns.map .int)), .no, .no, .no, .no, .no, .no, .no, .no, .no, .no] = .rt (.val (.bl true)))
  unfold b_law
  have hsrc : fEnum true (fCons (fBin dAdd (fVar 0) (fLst (fCons (fC (.int 0)) fNil))) fNil) [.brw (.lst (ns.map .int)), .no, .no, .no, .no, .no, .no, .no, .no, .no, .no] = .ok (enD 0 ((ns ++ [0]).map D.int)) := by
    have h1 : fBin dAdd (fVar 0) (fLst (fCons (fC (.int 0)) fNil)) [.brw (.lst (ns.map .int)), .no, .no, .no, .no, .no, .no, .no, .no, .no, .no] = .ok (.new ((ns ++ [0]).map D.int)) := by
      refine bin_g (ra := .brw (.lst (ns.map .int))) (rb := .new [.int 0]) rfl (lst_o (cons_o rfl nil_o) rfl (by simp)) ?_
      show (match (if (ns.map D.int).all flat then some (ns.map D.int) else none), some [D.int 0] with
        | some xs, some ys => if xs.length + ys.length ≤ 100000 then some (R.new (xs ++ ys)) else none
        | _, _ => none) = _
      rw [flat_ints]
      show (if _ then _ else _) = _
      rw [if_pos (by simp; omega)]
      simp
    unfold fEnum
    rw [cons_n h1 nil_o]; rfl
  obtain ⟨e2, h2, _⟩ := forL_en (t := .tp [1, 2]) (body := lawBody cl) (I := fun es => ∃ L x1 x2 x3 x4 x5 x6 x7 x8 x9, es = [L, x1, x2, x3, x4, x5, x6, x7, x8, x9, .no] ∧ has2 [L, x8, x9] = false) (fun k c es ⟨L, x1, x2, x3, x4, x5, x6, x7, x8, x9, h, hh⟩ => by
    subst h
    obtain ⟨y3, y4, y5, y6, y7, y8, y9, e, e3⟩ := law_body K (L := L) (k := k) (c := c) (x3 := x3) (x4 := x4) (x5 := x5) (x6 := x6) (x7 := x7) hh
    exact ⟨_, rfl, _, e, _, _, _, _, _, _, _, _, _, _, rfl, e3⟩) (ns ++ [0]) 0 [.brw (.lst (ns.map .int)), .no, .no, .no, .no, .no, .no, .no, .no, .no, .no] ⟨_, _, _, _, _, _, _, _, _, _, rfl, rfl⟩
  show gSeq (gFor (fEnum true (fCons (fBin dAdd (fVar 0) (fLst (fCons (fC (.int 0)) fNil))) fNil)) (.tp [1, 2]) (lawBody cl)) _ _ = _
  rw [seq_n ((for_o hsrc).trans h2)]
  rfl
end K02
namespace K03
open PySem PySem.Spec PyProof.Rows L2 Fw
open K02
noncomputable section
/- slots: 0 _law_many, 1 _law_found, 2 _law_lamp, 3 _law_term -/
def b_law_terms (cl : Cl) : Fw.Env → Out := (gSeq (gSet 1 true (fLst (fCons (fC (.str [])) fNil)))
    (gSeq (gFor (fRg1 (fCons (fVar 0) fNil)) (.nm 2) (gSet 1 true (fBin dAdd (fBin dAdd (fLc (fIt false (fVar 1)) [3] (.nm 3) fYes (fBin dAdd (fVar 3) (fC (.str [48])))) (fLc (fIt false (fVar 1)) [3] (.nm 3) fYes (fBin dAdd (fVar 3) (fC (.str [49]))))) (fLc (fIt false (fVar 1)) [3] (.nm 3) fYes (fBin dAdd (fVar 3) (fC (.str [45])))))))
    (gRetV 1)))
def g_law_terms (cl : Cl) : List D → O R := run0 4 (b_law_terms cl)
/- slots: 0 _law_many, 1 _law_on, 2 _law_free, 3 _law_off, 4 _law_term, 5 _law_good, 6 _law_found, 7 _law_shorter, 8 _law_one, 9 _law_lamp -/
def b_law_ends (cl : Cl) : Fw.Env → Out := (gSeq (gSet 3 true (fLc (fRg1 (fCons (fBin dShl (fC (.int 1)) (fVar 0)) fNil)) [8] (.nm 8) (fAnd (fTest (fBin dNin (fVar 8) (fVar 1))) (fTest (fBin dNin (fVar 8) (fVar 2)))) (fVar 8)))
    (gSeq (gSet 5 true (fLc (fIt false (fCall0 (g_law_terms cl) (fCons (fVar 0) fNil))) [4] (.nm 4) (fNot (fTest (fBi dAny (fCons (fLc (fIt false (fVar 3)) [8] (.nm 8) fYes (fCall0 (g_law_agrees cl) (fCons (fVar 4) (fCons (fVar 8) fNil)))) fNil)))) (fVar 4)))
    (gSeq (gSet 6 false (fLst fNil))
    (gSeq (gFor (fIt true (fVar 5)) (.nm 4) (gSeq (gSet 7 true (fLc (fRg1 (fCons (fVar 0) fNil)) [9] (.nm 9) (fTest (fBin dNe (fBin dIx (fVar 4) (fVar 9)) (fC (.str [45])))) (fBin dAdd (fBin dAdd (fSl (fVar 4) fNoPart (fPart (fVar 9))) (fC (.str [45]))) (fSl (fVar 4) (fPart (fBin dAdd (fVar 9) (fC (.int 1)))) fNoPart))))
    (gIf (fNot (fTest (fBi dAny (fCons (fLc (fIt false (fVar 7)) [8] (.nm 8) fYes (fBin dIn (fVar 8) (fVar 5))) fNil)))) (gApp 6 (fVar 4)) gNext)))
    (gRet (fBi dSortedN (fCons (fVar 6) fNil)))))))
def g_law_ends (cl : Cl) : List D → O R := run0 10 (b_law_ends cl)
/- slots: 0 term, 1 lamp -/
def b_freed (cl : Cl) : Fw.Env → Out := (gRet (fBin dAdd (fBin dAdd (fSl (fVar 0) fNoPart (fPart (fVar 1))) (fC (.str [45]))) (fSl (fVar 0) (fPart (fBin dAdd (fVar 1) (fC (.int 1)))) fNoPart)))
def g_freed (cl : Cl) : List D → O R := run0 2 (b_freed cl)
/- slots: 0 term, 1 lamp, 2 sign -/
def b_wider_terms (cl : Cl) : Fw.Env → Out := (gRet (fLc (fEnum false (fCons (fVar 0) fNil)) [1, 2] (.tp [1, 2]) (fTest (fBin dNe (fVar 2) (fC (.str [45])))) (fCall0 (g_freed cl) (fCons (fVar 0) (fCons (fVar 1) fNil)))))
def g_wider_terms (cl : Cl) : List D → O R := run0 3 (b_wider_terms cl)
/- slots: 0 saying, 1 term, 2 wider -/
def b_is_whole (cl : Cl) : Fw.Env → Out := (gSeq (gIf (fNot (fTest (fMeth (cl.at_ "Saying") "is_good" (g_Saying_is_good cl) (fVar 0) (fCons (fVar 1) fNil)))) (gRet (fC (.bl false))) gNext)
    (gRet (fNotV (fBi dAny (fCons (fLc (fIt false (fCall0 (g_wider_terms cl) (fCons (fVar 1) fNil))) [2] (.nm 2) fYes (fMeth (cl.at_ "Saying") "is_good" (g_Saying_is_good cl) (fVar 0) (fCons (fVar 2) fNil))) fNil)))))
def g_is_whole (cl : Cl) : List D → O R := runX 3 (b_is_whole cl)
/- slots: 0 _law_saying, 1 _law_many, 2 _law_draw_here, 3 _law_odd, 4 _law_caught, 5 e -/
def b_law_refused (cl : Cl) : Fw.Env → Out := (gSeq (gSet 3 true (fBin dIx (fLst (fCons (fBin dMulA (fC (.str [45])) (fBin dAdd (fVar 1) (fC (.int 1)))) (fCons (fBin dMulA (fC (.str [45])) (fBin dSub (fVar 1) (fC (.int 1)))) (fCons (fBin dMulA (fC (.str [120])) (fVar 1)) (fCons (fC .non) (fCons (fC (.int 5)) (fCons (fLst (fCons (fC (.str [45])) fNil)) (fCons (fC (.bl true)) (fCons (fBin dMulT (fTup (fCons (fC (.str [48])) fNil)) (fVar 1)) fNil))))))))) (fBin dMod (fVar 2) (fC (.int 8)))))
    (gSeq (gSet 4 true (fC .non))
    (gSeq (gTry (fun c => cl.ex c (cl.at_ "TermError")) 5 (gExpr (fCall (g_is_whole cl) (fCons (fVar 0) (fCons (fVar 3) fNil)))) (gSet 4 true (fVar 5)))
    (gRet (fBin dEq (fCall0 (g_law_word cl) (fCons (fVar 4) fNil)) (fC (.str [116, 101, 114, 109, 32])))))))
def g_law_refused (cl : Cl) : List D → O R := run0 6 (b_law_refused cl)
/- slots: 0 many, 1 terms, 2 _, 3 term, 4 sign -/
def b_all_terms (cl : Cl) : Fw.Env → Out := (gSeq (gSet 1 true (fLst (fCons (fC (.str [])) fNil)))
    (gSeq (gFor (fRg1 (fCons (fVar 0) fNil)) (.nm 2) (gSet 1 true (fLc2 (fIt false (fVar 1)) [3, 4] (.nm 3) (fIt true (fC (.str [45, 48, 49]))) [4] (.nm 4) (fBin dAdd (fVar 3) (fVar 4)))))
    (gRetV 1)))
def g_all_terms (cl : Cl) : List D → O R := run0 5 (b_all_terms cl)
/- slots: 0 saying, 1 term -/
def b_wholes (cl : Cl) : Fw.Env → Out := (gRet (fLc (fIt false (fCall0 (g_all_terms cl) (fCons (fMeth (cl.at_ "Saying") "many" (g_Saying_many cl) (fVar 0) fNil) fNil))) [1] (.nm 1) (fTest (fCall (g_is_whole cl) (fCons (fVar 0) (fCons (fVar 1) fNil)))) (fVar 1)))
def g_wholes (cl : Cl) : List D → O R := runX 2 (b_wholes cl)
/- slots: 0 _law_script, 1 _law_k, 2 _law_cell, 3 _law_draw_here, 4 _law_many, 5 _law_on, 6 _law_free, 7 _law_saying, 8 _law_ends_here, 9 _law_turn, 10 _law_found, 11 _law_some, 12 _law_term, 13 _law_told -/
def b_law (cl : Cl) : Fw.Env → Out := (gSeq (gFor (fEnum true (fCons (fBin dAdd (fVar 0) (fLst (fCons (fC (.int 0)) fNil))) fNil)) (.tp [1, 2]) (gSeq (gSet 3 true (fCall0 (g_law_spread cl) (fCons (fVar 2) (fCons (fBin dMod (fVar 1) (fC (.int 60))) fNil))))
    (gSeq (gAsg (.tp [4, 5, 6]) (fCall0 (g_law_rows cl) (fCons (fVar 2) (fCons (fBin dMod (fVar 1) (fC (.int 60))) (fCons (fIf (fTest (fBin dEq (fBin dMod (fVar 1) (fC (.int 8))) (fC (.int 7)))) (fC (.int 5)) (fC (.int 3))) fNil)))))
    (gSeq (gSet 7 true (fMake (mk_Saying cl) [] (fCons (fVar 4) (fCons (fVar 5) (fCons (fVar 6) fNil)))))
    (gSeq (gSet 8 true (fCall0 (g_law_ends cl) (fCons (fVar 4) (fCons (fVar 5) (fCons (fVar 6) fNil)))))
    (gSeq (gFor (fRg1 (fCons (fC (.int 2)) fNil)) (.nm 9) (gSeq (gSet 10 false (fCall (g_wholes cl) (fCons (fVar 7) fNil)))
    (gSeq (gIf (fOr (fNot (fTest (fBi (dIsX cl) (fCons (fVar 10) (fCons (fC (.ty "list")) fNil))))) (fTest (fBin dNe (fVar 10) (fVar 8)))) (gRet (fC (.bl false))) gNext)
    (gApp 10 (fC (.str []))))))
    (gSeq (gSet 11 true (fCall0 (g_law_terms cl) (fCons (fVar 4) fNil)))
    (gSeq (gIf (fTest (fBin dGt (fVar 4) (fC (.int 3)))) (gSet 11 true (fBin dAdd (fSl (fSl (fVar 11) (fPart (fBin dMod (fVar 3) (fC (.int 50)))) fNoPart) fNoPart (fPart (fC (.int 9)))) (fSl (fVar 8) fNoPart (fPart (fC (.int 5)))))) gNext)
    (gSeq (gFor (fIt true (fVar 11)) (.nm 12) (gSeq (gSet 13 true (fCall (g_is_whole cl) (fCons (fVar 7) (fCons (fVar 12) fNil))))
    (gIf (fOr (fNot (fTest (fBi (dIsX cl) (fCons (fVar 13) (fCons (fC (.ty "bool")) fNil))))) (fTest (fBin dNe (fVar 13) (fBin dIn (fVar 12) (fVar 8))))) (gRet (fC (.bl false))) gNext)))
    (gIf (fNot (fTest (fCall0 (g_law_refused cl) (fCons (fVar 7) (fCons (fVar 4) (fCons (fBin dDiv (fVar 3) (fC (.int 3))) fNil)))))) (gRet (fC (.bl false))) gNext))))))))))
    (gRet (fC (.bl true))))
def g_law (cl : Cl) : List D → O R := run0 14 (b_law cl)
end
end K03
namespace K03
open PySem PySem.Spec PyProof.Rows L2 Fw K02 Mt
variable {cl : Cl}
abbrev txs (l : List (List Nat)) : D := .lst (l.map .str)
/-! ### freed, wider terms -/
theorem freed_o {es : Fw.Env} {i j : Nat} {s : List Nat} {k : Nat} (hs : s.length ≤ 10) (h0 : fVar i es = .ok (.val (.str s))) (h1 : fVar j es = .ok (.val (.int k))) : fBin dAdd (fBin dAdd (fSl (fVar i) fNoPart (fPart (fVar j))) (fC (.str [45]))) (fSl (fVar i) (fPart (fBin dAdd (fVar j) (fC (.int 1)))) fNoPart) es = .ok (.val (.str (put s k 45))) := by
  refine bin_o (bin_o (slt h0 h1 (by omega)) rfl (add_s ?_)) (sld1 h0 (bin_o h1 rfl (add_i _ _)) (by omega)) ?_
  · simp; omega
  · rw [add_s (by simp; omega)]; rfl
theorem freed_eq {s : List Nat} {k : Nat} (hs : s.length ≤ 10) : g_freed cl [.str s, .int k] = .ok (.val (.str (put s k 45))) := by
  refine congrArg fin (?_ : b_freed cl [.val (.str s), .val (.int k)] = .rt _)
  unfold b_freed
  exact ret_v (freed_o hs rfl rfl)
theorem meth_good {m : Nat} {on fr : List Int} {s : List Nat} (hs : Tm m s) (m1 : m ≤ 5) {fo fa : Fw.Env → O R} {es : Fw.Env} {r : R} (ho : fo es = .ok r) (hr : r.dat = sayD cl m on fr) (ha : fa es = .ok (.val (.str s))) :
    fMeth (cl.at_ "Saying") "is_good" (g_Saying_is_good cl) fo (fCons fa fNil) es = .ok (.val (.bl (clean (offs m (on ++ fr)) s))) :=
  meth1 (cl := cl) (g := g_Saying_is_good cl) (n := "is_good") (m := m) (on := on) (fr := fr) (x := .str s) (es := es) (fo := fo) (fa := fa) (r := r) ho hr (by decide) (by simp [ha]) (by rw [good_eq hs m1]; rfl)
theorem meth_bad {m : Nat} {on fr : List Int} {x : D} {rx : R} (h : g_is_term cl [x, .int m] = .ok (.val (.bl false))) {fo fa : Fw.Env → O R} {es : Fw.Env} {r : R} (ho : fo es = .ok r) (hr : r.dat = sayD cl m on fr) (ha : fa es = .ok rx) (hx : rx.fz.dat = x) :
    fMeth (cl.at_ "Saying") "is_good" (g_Saying_is_good cl) fo (fCons fa fNil) es = .exc (cl.at_ "BadTerm") none := by
  refine meth_x (rs := [rx.fz]) ho ?_ (by simp [ha]) (by rw [hr]; simp only [List.map_cons, List.map_nil, hx]; exact good_bad h)
  rw [hr]
  show (decide (cl.at_ "Saying" = cl.at_ "Saying") && !(["_many", "_on", "_free", "_off"] : List Str).contains "is_good") = true
  rw [decide_eq_true rfl]; rfl
theorem enum_s (s : List Nat) : ∀ k, enD k (signsD s) = (List.range s.length).map fun i => R.val (.tup [.int ((k + i : Nat) : Int), .str [s.getD i 0]]) := by
  induction s with
  | nil => intro k; rfl
  | cons c s ih =>
    intro k
    show R.val (.tup [.int (k : Int), .str [c]]) :: enD (k + 1) (signsD s) = _
    rw [ih, List.length_cons, List.range_succ_eq_map, List.map_cons, List.map_map]
    congr 1
    apply List.map_congr_left
    intro i _
    simp only [Function.comp, List.getD_cons_succ]
    rw [show k + 1 + i = k + (i + 1) by omega]
theorem sgn_at {n : Nat} {s : List Nat} (hs : Tm n s) {i : Nat} (hi : i < s.length) : s.getD i 0 = 48 ∨ s.getD i 0 = 49 ∨ s.getD i 0 = 45 := getD_sg hs.2 hi
theorem wider_eq {n : Nat} {s : List Nat} (hs : Tm n s) (n1 : n ≤ 5) : g_wider_terms cl [.str s] = .ok (.new ((wids s).map .str)) := by
  refine congrArg fin (?_ : b_wider_terms cl [.val (.str s), .no, .no] = .rt _)
  unfold b_wider_terms
  refine ret_n ?_
  have hl := hs.1
  have h := lc_map (src := fEnum false (fCons (fVar 0) fNil)) (vs := [1, 2]) (t := .tp [1, 2]) (cond := fTest (fBin dNe (fVar 2) (fC (.str [45])))) (elt := fCall0 (g_freed cl) (fCons (fVar 0) (fCons (fVar 1) fNil))) (es := [.val (.str s), .no, .no])
    (r := fun i => R.val (.tup [.int ((i : Nat) : Int), .str [s.getD i 0]])) (xs := List.range s.length) (fun k => !([s.getD k 0] == [45])) (fun k => .str (put s k 45)) (by
      show O.of (some (enD 0 (signsD s))) = _
      rw [enum_s]; simp only [Nat.zero_add]; rfl) (by simp; omega) (fun i hi => ⟨_, rfl, test_o (bin_o rfl rfl (ne_one (sgn_at hs (List.mem_range.mp hi)) (by simp))), fun _ => ⟨_, call_o (cons_o rfl (cons_o rfl nil_o)) (freed_eq (by omega)), rfl⟩⟩)
  rw [h]
  unfold wids bars
  rw [List.map_map]; rfl
/-! ### whole terms -/
theorem it_strs {es : Fw.Env} {f : Fw.Env → O R} {l : List (List Nat)} {fz : Bool} (h : f es = .ok (.new (l.map .str)) ∨ f es = .ok (.val (txs l))) : fIt fz f es = .ok (l.map fun s => .val (.str s)) := by
  have e : (l.map D.str).map R.val = l.map fun s => R.val (.str s) := by rw [List.map_map]; rfl
  rcases h with h | h
  · unfold fIt; rw [h, O.bind_ok]
    show O.of (some ((l.map D.str).map R.val)) = _
    rw [e]; rfl
  · unfold fIt; rw [h, O.bind_ok]
    show O.of (some ((l.map D.str).map R.val)) = _
    rw [e]; rfl
theorem any_bl {α : Type} {es : Fw.Env} {f : Fw.Env → O R} {l : List α} {p : α → Bool} (h : f es = .ok (.new (l.map fun n => .bl (p n)))) : fBi dAny (fCons f fNil) es = .ok (.val (.bl (l.any p))) := by
  refine bi_o (cons_n h nil_o) ?_
  show (blsOf (l.map fun n => D.bl (p n))).map (fun (ns : List Bool) => R.val (.bl (ns.any id))) = _
  have : ∀ l : List α, blsOf (l.map fun n => D.bl (p n)) = some (l.map p) := fun l => by
    induction l with
    | nil => rfl
    | cons a l ih => simp [blsOf, ih]
  rw [this]
  show some (R.val (.bl ((l.map p).any id))) = _
  rw [List.any_map]; rfl
theorem filter_true {α : Type} (l : List α) : l.filter (fun _ => true) = l := List.filter_eq_self.mpr fun _ _ => rfl
theorem whole_b {m : Nat} {on fr : List Int} {s : List Nat} (hs : Tm m s) (m1 : m ≤ 5) {es : Fw.Env} (h0 : es = [.brw (sayD cl m on fr), .val (.str s), .no]) : b_is_whole cl es = .rt (.val (.bl (whole (offs m (on ++ fr)) s))) := by
  subst h0
  unfold b_is_whole
  have h1 := meth_good (cl := cl) (on := on) (fr := fr) hs m1 (fo := fVar 0) (fa := fVar 1) (es := [.brw (sayD cl m on fr), .val (.str s), .no]) (r := .brw (sayD cl m on fr)) rfl rfl rfl
  have hw : fCall0 (g_wider_terms cl) (fCons (fVar 1) fNil) [.brw (sayD cl m on fr), .val (.str s), .no] = .ok (.new ((wids s).map .str)) := call_n (cons_o rfl nil_o) (wider_eq hs m1)
  have wl : (wids s).length ≤ 90000 := by
    unfold wids bars
    rw [List.length_map]
    have := List.length_filter_le (fun k => !([s.getD k 0] == [45])) (List.range s.length)
    have hl := hs.1
    rw [List.length_range] at this
    omega
  have h2 := any_bl (p := clean (offs m (on ++ fr))) (l := wids s) (f := fLc (fIt false (fCall0 (g_wider_terms cl) (fCons (fVar 1) fNil))) [2] (.nm 2) fYes (fMeth (cl.at_ "Saying") "is_good" (g_Saying_is_good cl) (fVar 0) (fCons (fVar 2) fNil))) (es := [.brw (sayD cl m on fr), .val (.str s), .no]) (by
    rw [lc_map (r := fun s => .val (.str s)) (fun _ => true) (fun w => .bl (clean (offs m (on ++ fr)) w)) (it_strs (Or.inl hw)) wl fun w hw => ⟨_, rfl, rfl, fun _ => ⟨_, meth_good (wids_tm hs hw) m1 (r := .brw (sayD cl m on fr)) rfl rfl rfl, rfl⟩⟩, filter_true])
  unfold whole
  cases hc : clean (offs m (on ++ fr)) s with
  | false =>
    rw [hc] at h1
    simp [h1]
  | true =>
    rw [hc] at h1
    generalize (wids s).any (clean (offs m (on ++ fr))) = B at *
    simp [h1, h2]
theorem whole_eq {m : Nat} {on fr : List Int} {s : List Nat} (hs : Tm m s) (m1 : m ≤ 5) : g_is_whole cl [sayD cl m on fr, .str s] = .ok (.val (.bl (whole (offs m (on ++ fr)) s))) := by
  refine congrArg finX (?_ : b_is_whole cl [.brw (sayD cl m on fr), .val (.str s), .no] = .rt _)
  exact whole_b hs m1 rfl
theorem whole_bad {m : Nat} {on fr : List Int} {x : D} (h : g_is_term cl [x, .int m] = .ok (.val (.bl false))) : g_is_whole cl [sayD cl m on fr, x] = .exc (cl.at_ "BadTerm") none := by
  have h1 := meth_bad (cl := cl) (on := on) (fr := fr) h (fo := fVar 0) (fa := fVar 1) (es := [.brw (sayD cl m on fr), slotD x, .no]) (r := .brw (sayD cl m on fr)) (rx := nrm x) rfl rfl (slot_nrm rfl) (by simp)
  refine congrArg finX (?_ : b_is_whole cl [.brw (sayD cl m on fr), slotD x, .no] = .exc [.brw (sayD cl m on fr), slotD x, .no] (cl.at_ "BadTerm") none)
  unfold b_is_whole
  simp [h1]
end K03
namespace K03
open PySem PySem.Spec PyProof.Rows L2 Fw K02 Mt
variable {cl : Cl}
/-! ### all terms -/
theorem pow3_le {n : Nat} (h : n ≤ 5) : 3 ^ n ≤ 243 := Nat.pow_le_pow_right (by decide) h
theorem tm_len {n : Nat} {l : List (List Nat)} (h : ∀ t ∈ l, Tm n t) {t : List Nat} (ht : t ∈ l) : t.length = n := (h t ht).1
theorem rg_map {es : Fw.Env} {fa : Fw.Env → O R} {n : Nat} (h : fa es = .ok (.val (.int n))) (hn : n ≤ 1000) : fRg1 (fCons fa fNil) es = .ok ((List.range n).map fun i => .val (.int (i : Nat))) := by
  rw [rg_o h hn]
  unfold rgD
  simp only [Int.zero_add]
theorem all_step {i n : Nat} (hn : n ≤ 5) (hi : i < n) {s0 s2 s3 s4 : Sl} (h3 : noOwnS s0 = true) (h2 : noOwnS s2 = true) : fLc2 (fIt false (fVar 1)) [3, 4] (.nm 3) (fIt true (fC (.str [45, 48, 49]))) [4] (.nm 4) (fBin dAdd (fVar 3) (fVar 4)) [s0, .val (txs (allT i)), s2, s3, s4] = .ok (.new ((allT (i + 1)).map .str)) := by
  have hsrc : fIt false (fVar 1) [s0, .val (txs (allT i)), s2, s3, s4] = .ok ((allT i).map fun s => .val (.str s)) := it_strs (Or.inr rfl)
  unfold fLc2
  rw [hsrc, O.bind_ok]
  have go : ∀ ys : List (List Nat), (∀ t ∈ ys, t.length ≤ 10) → lcL2 (.nm 3) (fIt true (fC (.str [45, 48, 49]))) [4] (.nm 4) (fBin dAdd (fVar 3) (fVar 4)) (wipeE [s0, .val (txs (allT i)), s2, s3, s4] [3, 4]) (ys.map fun s => .val (.str s)) = .ok ((ys.flatMap fun t => [45, 48, 49].map fun c => t ++ [c]).map .str) := by
    intro ys
    induction ys with
    | nil => intro _; rfl
    | cons t ys ih =>
      intro hy
      have ht := hy t (by simp)
      have ih' := ih fun u hu => hy u (by simp [hu])
      have hst : stTg (.nm 3) (.val (.str t)) (wipeE [s0, .val (txs (allT i)), s2, s3, s4] [3, 4]) = some [s0, .val (txs (allT i)), s2, Sl.val (.str t), .no] := rfl
      rw [List.map_cons, lcL2, hst]
      have hno : ([s0, .val (txs (allT i)), s2, Sl.val (.str t), .no] : Fw.Env).all noOwnS = true := by
        show (noOwnS s0 && (true && (noOwnS s2 && true))) = true
        rw [h3, h2]; rfl
      simp only
      rw [if_pos hno]
      have hi : lcL (.nm 4) fYes (fBin dAdd (fVar 3) (fVar 4)) (wipeE [s0, .val (txs (allT i)), s2, Sl.val (.str t), .no] [4]) ([45, 48, 49].map fun c => R.val (.str [c])) = .ok ([45, 48, 49].map fun c => .str (t ++ [c])) := by
        rw [lcL_map (fun _ => true) (fun c => .str (t ++ [c])) [45, 48, 49] fun c hc => ⟨_, rfl, rfl, fun _ => ⟨_, bin_o rfl rfl (add_s (by simp; omega)), rfl⟩⟩, filter_true]
      show (noX (O.ok ([45, 48, 49].map fun c => R.val (.str [c])))).bind _ = _
      simp only [noX, O.bind_ok]
      rw [hi]
      simp only [noX, O.bind_ok]
      rw [ih']; rfl
  have hl := go (allT i) fun t ht => by have := (mem_allT.mp ht).1; omega
  rw [hl]
  simp only [noX, O.bind_ok]
  have e : ((allT i).flatMap fun t => [45, 48, 49].map fun c => t ++ [c]) = allT (i + 1) := rfl
  rw [e, if_pos]
  rw [List.length_map, len_allT]
  have := pow3_le (n := i + 1) (by omega)
  omega
theorem all_eq {n : Nat} (hn : n ≤ 5) : g_all_terms cl [.int n] = .ok (.new ((allT n).map .str)) ∨ g_all_terms cl [.int n] = .ok (.val (txs (allT n))) := by
  refine Or.inr ?_
  show run0 5 (b_all_terms cl) [.int n] = _
  refine run0_rt (e := [.val (.int n), .no, .no, .no, .no]) rfl ?_
  unfold b_all_terms
  have s1 : gSet 1 true (fLst (fCons (fC (.str [])) fNil)) [.val (.int n), .no, .no, .no, .no] = .nx [.val (.int n), .val (txs (allT 0)), .no, .no, .no] := set_n (lst1 rfl)
  rw [seq_n s1]
  obtain ⟨e2, h2, h3⟩ := forL_rg (t := .nm 2) (n := n) (body := gSet 1 true (fLc2 (fIt false (fVar 1)) [3, 4] (.nm 3) (fIt true (fC (.str [45, 48, 49]))) [4] (.nm 4) (fBin dAdd (fVar 3) (fVar 4)))) (es := [.val (.int n), .val (txs (allT 0)), .no, .no, .no])
    (I := fun i es => ∃ s2, noOwnS s2 = true ∧ es = [.val (.int n), .val (txs (allT i)), s2, .no, .no]) (fun i hi es ⟨s2, h2, he⟩ => by
      subst he
      exact ⟨_, rfl, _, set_n (all_step hn hi rfl rfl), .val (.int i), rfl, rfl⟩) ⟨.no, rfl, rfl⟩
  obtain ⟨s2, _, rfl⟩ := h3
  have hsrc : fRg1 (fCons (fVar 0) fNil) [.val (.int n), .val (txs (allT 0)), .no, .no, .no] = .ok (rgD 0 n) := rg_o rfl (by omega)
  rw [seq_n ((for_o hsrc).trans h2)]
  rfl
theorem it_all {es : Fw.Env} {n : Nat} (hn : n ≤ 5) {fr : Fw.Env → O (List R)} (h : fr es = .ok [.val (.int n)]) : fIt false (fCall0 (g_all_terms cl) fr) es = .ok ((allT n).map fun s => .val (.str s)) := by
  rcases all_eq (cl := cl) hn with e | e
  · exact it_strs (Or.inl (call_n h e))
  · exact it_strs (Or.inr (call_o h e))
def endsT (m : Nat) (on fr : List Int) : List (List Nat) := (allT m).filter (whole (offs m (on ++ fr)))
theorem ends_len {m : Nat} (m1 : m ≤ 5) (on fr : List Int) : (endsT m on fr).length ≤ 243 := by
  refine Nat.le_trans (List.length_filter_le _ _) ?_
  rw [len_allT]; exact pow3_le m1
theorem wholes_eq {m : Nat} {on fr : List Int} (m1 : m ≤ 5) : g_wholes cl [sayD cl m on fr] = .ok (.new ((endsT m on fr).map .str)) := by
  refine congrArg finX (?_ : b_wholes cl [.brw (sayD cl m on fr), .no] = .rt _)
  unfold b_wholes
  refine ret_n ?_
  have hm : fMeth (cl.at_ "Saying") "many" (g_Saying_many cl) (fVar 0) fNil [.brw (sayD cl m on fr), .no] = .ok (.val (.int m)) := meth_v (r := .brw (sayD cl m on fr)) rfl rfl (by decide) (many_eq m on fr)
  have hl := len_allT m
  have hp := pow3_le m1
  refine lc_map (r := fun s => .val (.str s)) (whole (offs m (on ++ fr))) (fun s => .str s) (it_all m1 (cons_o hm nil_o)) (by omega) fun t ht => ⟨_, rfl, ?_, fun _ => ⟨_, rfl, rfl⟩⟩
  exact test_o (call_val (rs := [.brw (sayD cl m on fr), .val (.str t)]) rfl (whole_eq (mem_allT.mp ht) m1))
/-! ### the law's own -/
theorem add_n {es : Fw.Env} {fa fb : Fw.Env → O R} {xs ys : List D} (ha : fa es = .ok (.new xs)) (hb : fb es = .ok (.new ys)) (hl : xs.length + ys.length ≤ 100000) : fBin dAdd fa fb es = .ok (.new (xs ++ ys)) := bin_g ha hb (by
  show (if xs.length + ys.length ≤ 100000 then some (R.new (xs ++ ys)) else none) = _
  rw [if_pos hl])
theorem law_terms_eq {n : Nat} (hn : n ≤ 5) : g_law_terms cl [.int n] = .ok (.val (txs (lawT n))) := by
  show run0 4 (b_law_terms cl) [.int n] = _
  refine run0_rt (e := [.val (.int n), .no, .no, .no]) rfl ?_
  unfold b_law_terms
  have s1 : gSet 1 true (fLst (fCons (fC (.str [])) fNil)) [.val (.int n), .no, .no, .no] = .nx [.val (.int n), .val (txs (lawT 0)), .no, .no] := set_n (lst1 rfl)
  rw [seq_n s1]
  obtain ⟨e2, h2, h3⟩ := forL_rg (t := .nm 2) (n := n) (body := gSet 1 true (fBin dAdd (fBin dAdd (fLc (fIt false (fVar 1)) [3] (.nm 3) fYes (fBin dAdd (fVar 3) (fC (.str [48])))) (fLc (fIt false (fVar 1)) [3] (.nm 3) fYes (fBin dAdd (fVar 3) (fC (.str [49]))))) (fLc (fIt false (fVar 1)) [3] (.nm 3) fYes (fBin dAdd (fVar 3) (fC (.str [45])))))) (es := [.val (.int n), .val (txs (lawT 0)), .no, .no])
    (I := fun i es => ∃ s2, es = [.val (.int n), .val (txs (lawT i)), s2, .no]) (fun i hi es ⟨s2, he⟩ => by
      subst he
      have hl : (lawT i).length ≤ 81 := by
        rw [len_lawT]
        exact Nat.le_trans (Nat.pow_le_pow_right (by decide) (show i ≤ 4 by omega)) (by decide)
      have c : ∀ c : Nat, fLc (fIt false (fVar 1)) [3] (.nm 3) fYes (fBin dAdd (fVar 3) (fC (.str [c]))) [.val (.int n), .val (txs (lawT i)), .val (.int i), .no] = .ok (.new (((lawT i).map (· ++ [c])).map .str)) := fun c => by
        rw [lc_map (r := fun s => .val (.str s)) (fun _ => true) (fun t => .str (t ++ [c])) (it_strs (Or.inr rfl)) (by omega) fun t ht => ⟨_, rfl, rfl, fun _ => ⟨_, bin_o rfl rfl (add_s (by have := (mem_lawT.mp ht).1; simp; omega)), rfl⟩⟩, filter_true, List.map_map]; rfl
      refine ⟨_, rfl, _, set_n (add_n (add_n (c 48) (c 49) (by simp; omega)) (c 45) (by simp; omega)), .val (.int i), ?_⟩
      show [Sl.val (.int n), .val (.lst _), .val (.int i), .no] = [Sl.val (.int n), .val (.lst ((lawT (i + 1)).map .str)), .val (.int i), .no]
      rw [lawT, List.map_append, List.map_append]) ⟨_, rfl⟩
  obtain ⟨s2, rfl⟩ := h3
  have hsrc : fRg1 (fCons (fVar 0) fNil) [.val (.int n), .val (txs (lawT 0)), .no, .no] = .ok (rgD 0 n) := rg_o rfl (by omega)
  rw [seq_n ((for_o hsrc).trans h2)]
  rfl
theorem off_b {E : Fw.Env} {m : Nat} (m1 : m ≤ 5) {on fr : List Int} {a b c v : Nat} (h4 : fVar a E = .ok (.val (.int m))) (hb : ∀ i : Nat, fVar b (E.set v (.val (.int i))) = .ok (.brw (.lst (on.map .int)))) (hc : ∀ i : Nat, fVar c (E.set v (.val (.int i))) = .ok (.brw (.lst (fr.map .int)))) (hv : v < E.length) :
    fLc (fRg1 (fCons (fBin dShl (fC (.int 1)) (fVar a)) fNil)) [v] (.nm v) (fAnd (fTest (fBin dNin (fVar v) (fVar b))) (fTest (fBin dNin (fVar v) (fVar c)))) (fVar v) E = .ok (.new ((offs m (on ++ fr)).map fun i => .int (i : Nat))) := by
  have pw := pow_le m1
  have hvv : ∀ i : Nat, fVar v (E.set v (.val (.int i))) = .ok (.val (.int i)) := fun i => by
    unfold fVar
    rw [List.getElem?_set_self hv]
  have hw : ∀ s : Sl, (wipeE E [v]).set v s = E.set v s := fun s => by
    rw [wipeE1, List.set_set]
  exact lc_o (src := fRg1 (fCons (fBin dShl (fC (.int 1)) (fVar a)) fNil)) (vs := [v]) (t := .nm v) (cond := fAnd (fTest (fBin dNin (fVar v) (fVar b))) (fTest (fBin dNin (fVar v) (fVar c)))) (elt := fVar v) (n := 2 ^ m) (p := outOf (on ++ fr)) (f := fun i => .int (i : Nat))
      (es := E) (rg_o (bin_o rfl h4 (shl_o (by omega))) (by omega)) (by omega) fun i hi => ⟨E.set v (.val (.int i)), congrArg some (hw _), by
        rw [out_app]
        exact and_o (test_o (bin_b (hvv i) (hb i) rfl rfl (nin_brw on i))) (test_o (bin_b (hvv i) (hc i) rfl rfl (nin_brw fr i))), fun _ => hvv i⟩
theorem it_nats {es : Fw.Env} {f : Fw.Env → O R} {l : List Nat} {fz : Bool} (h : f es = .ok (.val (.lst (l.map fun i => .int (i : Nat))))) : fIt fz f es = .ok (l.map fun i => .val (.int (i : Nat))) := by
  unfold fIt; rw [h, O.bind_ok]
  show O.of (some ((l.map fun i => D.int (i : Nat)).map R.val)) = _
  rw [List.map_map]; rfl
/-- any([agrees(term, one) for one in off]) -/
theorem any_agrees {E : Fw.Env} {i j v : Nat} {l : List Nat} {s : List Nat} (hs : Sg s) (hl : l.length ≤ 90000) (hsrc : fIt false (fVar j) E = .ok (l.map fun i => .val (.int (i : Nat)))) (hv : v < E.length) (hi : ∀ n : Nat, fVar i (E.set v (.val (.int n))) = .ok (.val (.str s))) :
    fBi dAny (fCons (fLc (fIt false (fVar j)) [v] (.nm v) fYes (fCall0 (g_law_agrees cl) (fCons (fVar i) (fCons (fVar v) fNil)))) fNil) E = .ok (.val (.bl (!clean l s))) := by
  have hw : ∀ s : Sl, (wipeE E [v]).set v s = E.set v s := fun s => by
    rw [wipeE1, List.set_set]
  have hvv : ∀ i : Nat, fVar v (E.set v (.val (.int i))) = .ok (.val (.int i)) := fun i => by
    unfold fVar
    rw [List.getElem?_set_self hv]
  have := any_bl (p := fun n => agB n 0 s) (l := l) (f := fLc (fIt false (fVar j)) [v] (.nm v) fYes (fCall0 (g_law_agrees cl) (fCons (fVar i) (fCons (fVar v) fNil)))) (es := E) (by
    rw [lc_map (t := .nm v) (vs := [v]) (r := fun i => .val (.int (i : Nat))) (fun _ => true) (fun n => .bl (agB n 0 s)) hsrc hl fun n hn => ⟨E.set v (.val (.int n)), congrArg some (hw _), rfl, fun _ => ⟨_, call_o (cons_o (hi n) (cons_o (hvv n) nil_o)) (agrees_eq s hs n), rfl⟩⟩, filter_true])
  rw [this]
  unfold clean
  rw [Bool.not_not]
end K03
namespace K03
open PySem PySem.Spec PyProof.Rows L2 Fw K02 Mt
variable {cl : Cl}
abbrev nats (l : List Nat) : D := .lst (l.map fun i => .int (i : Nat))
theorem plain_strs (l : List (List Nat)) : (l.map D.str).all plainF = true := by
  rw [List.all_eq_true]
  intro x hx
  obtain ⟨s, _, rfl⟩ := List.mem_map.mp hx
  rfl
theorem in_strs (w : List Nat) (l : List (List Nat)) {r : R} (hr : r.dat = txs l) : dIn (.val (.str w)) r = some (.val (.bl (l.any fun g => g == w))) := by
  unfold dIn
  rw [hr]
  show (if plainF (.str w) && (l.map D.str).all plainF then some (R.val (.bl ((l.map D.str).any fun d => deq d (.str w)))) else none) = _
  rw [plain_strs]
  show some (R.val (.bl ((l.map D.str).any fun d => deq d (.str w)))) = _
  rw [List.any_map]; rfl
theorem strs_of (l : List (List Nat)) : strsOf (l.map D.str) = some l := by
  induction l with
  | nil => rfl
  | cons a l ih => simp [strsOf, ih]
theorem sorted_strs' {es : Fw.Env} {f : Fw.Env → O R} {l : List (List Nat)} {r : R} (h : f es = .ok r) (hr : r.fz.dat = txs l) (hl : l.length ≤ 90000) : fBi dSortedN (fCons f fNil) es = .ok (.new ((sortS l).map .str)) := by
  refine bi_o (rs := [r.fz]) (by simp [h]) ?_
  unfold dSortedN
  simp only
  rw [hr]
  show (match strsOf (l.map D.str) with | some ss => if ss.length ≤ 90000 then some (R.new ((sortS ss).map .str)) else none | none => none) = _
  rw [strs_of]
  show (if l.length ≤ 90000 then some (R.new ((sortS l).map .str)) else none) = _
  rw [if_pos hl]
theorem offs_le {m : Nat} (m1 : m ≤ 5) (l : List Int) : (offs m l).length ≤ 90000 := Nat.le_trans (offs_len m m1 l) (by decide)
def lawGood (m : Nat) (on fr : List Int) : List (List Nat) := (lawT m).filter (clean (offs m (on ++ fr)))
theorem lawGood_len {m : Nat} (m1 : m ≤ 5) (on fr : List Int) : (lawGood m on fr).length ≤ 243 := by
  refine Nat.le_trans (List.length_filter_le _ _) ?_
  rw [len_lawT]; exact pow3_le m1
def endsP (m : Nat) (on fr : List Int) (t : List Nat) : Bool := !((wids t).any fun w => (lawGood m on fr).any fun g => g == w)
theorem ends_step {m : Nat} (m1 : m ≤ 5) {on fr : List Int} {t : List Nat} (ht : Tm m t) {acc : List (List Nat)} (ha : acc.length < 80000) {a b c x7 : Sl} : ∃ y7, (gSeq (gSet 7 true (fLc (fRg1 (fCons (fVar 0) fNil)) [9] (.nm 9) (fTest (fBin dNe (fBin dIx (fVar 4) (fVar 9)) (fC (.str [45])))) (fBin dAdd (fBin dAdd (fSl (fVar 4) fNoPart (fPart (fVar 9))) (fC (.str [45]))) (fSl (fVar 4) (fPart (fBin dAdd (fVar 9) (fC (.int 1)))) fNoPart))))
    (gIf (fNot (fTest (fBi dAny (fCons (fLc (fIt false (fVar 7)) [8] (.nm 8) fYes (fBin dIn (fVar 8) (fVar 5))) fNil)))) (gApp 6 (fVar 4)) gNext)) [.val (.int m), a, b, c, .val (.str t), .val (txs (lawGood m on fr)), .own (acc.map .str), x7, .no, .no]
    = .nx [.val (.int m), a, b, c, .val (.str t), .val (txs (lawGood m on fr)), .own ((acc ++ if endsP m on fr t = true then [t] else []).map .str), y7, .no, .no] := by
  have hl := ht.1
  have h1 : fLc (fRg1 (fCons (fVar 0) fNil)) [9] (.nm 9) (fTest (fBin dNe (fBin dIx (fVar 4) (fVar 9)) (fC (.str [45])))) (fBin dAdd (fBin dAdd (fSl (fVar 4) fNoPart (fPart (fVar 9))) (fC (.str [45]))) (fSl (fVar 4) (fPart (fBin dAdd (fVar 9) (fC (.int 1)))) fNoPart)) [.val (.int m), a, b, c, .val (.str t), .val (txs (lawGood m on fr)), .own (acc.map .str), x7, .no, .no] = .ok (.new ((wids t).map .str)) := by
    rw [lc_map (vs := [9]) (t := .nm 9) (r := fun i => .val (.int (i : Nat))) (fun k => !([t.getD k 0] == [45])) (fun k => .str (put t k 45)) (rg_map rfl (by omega)) (by simp; omega) fun i hi => ⟨_, rfl, ?_, fun _ => ⟨_, freed_o (by omega) rfl rfl, rfl⟩⟩]
    · unfold wids bars
      rw [hl, List.map_map]; rfl
    · have hi' : i < t.length := by rw [hl]; exact List.mem_range.mp hi
      exact test_o (bin_o (bin_o rfl rfl (ix_s (by omega) (at_o hi'))) rfl (ne_one (sgn_at ht hi') (by simp)))
  have wl : (wids t).length ≤ 90000 := by
    unfold wids bars
    rw [List.length_map]
    have := List.length_filter_le (fun k => !([t.getD k 0] == [45])) (List.range t.length)
    rw [List.length_range] at this
    omega
  have h2 := any_bl (p := fun w => (lawGood m on fr).any fun g => g == w) (l := wids t) (f := fLc (fIt false (fVar 7)) [8] (.nm 8) fYes (fBin dIn (fVar 8) (fVar 5))) (es := [.val (.int m), a, b, c, .val (.str t), .val (txs (lawGood m on fr)), .own (acc.map .str), .val (txs (wids t)), .no, .no]) (by
    rw [lc_map (r := fun s => .val (.str s)) (fun _ => true) (fun w => .bl ((lawGood m on fr).any fun g => g == w)) (it_strs (Or.inr rfl)) wl fun w hw => ⟨_, rfl, rfl, fun _ => ⟨_, bin_o rfl rfl (in_strs w _ rfl), rfl⟩⟩, filter_true])
  rw [seq_n (set_n h1)]
  refine ⟨.val (txs (wids t)), ?_⟩
  show gIf _ _ _ [.val (.int m), a, b, c, .val (.str t), .val (txs (lawGood m on fr)), .own (acc.map .str), .val (txs (wids t)), .no, .no] = _
  rw [if_o (not_o (test_o h2))]
  unfold endsP
  cases h : !((wids t).any fun w => (lawGood m on fr).any fun g => g == w) with
  | true =>
    rw [if_pos rfl, if_pos rfl, app_o (xs := acc.map .str) rfl rfl (by simp; omega)]
    simp
  | false =>
    rw [if_neg (by simp), if_neg (by simp)]
    simp
theorem law_ends_eq {m : Nat} (m1 : m ≤ 5) (on fr : List Int) : g_law_ends cl [.int m, .lst (on.map .int), .lst (fr.map .int)] = .ok (.new ((endsT m on fr).map .str)) := by
  show run0 10 (b_law_ends cl) [.int m, .lst (on.map .int), .lst (fr.map .int)] = _
  refine run0_rt (e := [.val (.int m), .brw (.lst (on.map .int)), .brw (.lst (fr.map .int)), .no, .no, .no, .no, .no, .no, .no]) rfl ?_
  unfold b_law_ends
  rw [seq_n (set_n (off_b (E := [.val (.int m), .brw (.lst (on.map .int)), .brw (.lst (fr.map .int)), .no, .no, .no, .no, .no, .no, .no]) m1 rfl (fun _ => rfl) (fun _ => rfl) (by simp)))]
  show gSeq _ _ [.val (.int m), .brw (.lst (on.map .int)), .brw (.lst (fr.map .int)), .val (nats (offs m (on ++ fr))), .no, .no, .no, .no, .no, .no] = _
  have hg : fLc (fIt false (fCall0 (g_law_terms cl) (fCons (fVar 0) fNil))) [4] (.nm 4) (fNot (fTest (fBi dAny (fCons (fLc (fIt false (fVar 3)) [8] (.nm 8) fYes (fCall0 (g_law_agrees cl) (fCons (fVar 4) (fCons (fVar 8) fNil)))) fNil)))) (fVar 4) [.val (.int m), .brw (.lst (on.map .int)), .brw (.lst (fr.map .int)), .val (nats (offs m (on ++ fr))), .no, .no, .no, .no, .no, .no] = .ok (.new ((lawGood m on fr).map .str)) := by
    refine lc_map (r := fun s => .val (.str s)) (clean (offs m (on ++ fr))) (fun s => .str s) (it_strs (Or.inr (call_o (cons_o rfl nil_o) (law_terms_eq m1)))) (by rw [len_lawT]; have := pow3_le m1; omega) fun t ht => ⟨_, rfl, ?_, fun _ => ⟨_, rfl, rfl⟩⟩
    have := not_o (test_o (any_agrees (cl := cl) (E := [.val (.int m), .brw (.lst (on.map .int)), .brw (.lst (fr.map .int)), .val (nats (offs m (on ++ fr))), .val (.str t), .no, .no, .no, .no, .no]) (i := 4) (j := 3) (v := 8) (mem_lawT.mp ht).2 (offs_le m1 _) (it_nats rfl) (by simp) (fun _ => rfl)))
    rw [Bool.not_not] at this
    exact this
  rw [seq_n (set_n hg), seq_n (set_own (xs := []) rfl)]
  show gSeq _ _ [.val (.int m), .brw (.lst (on.map .int)), .brw (.lst (fr.map .int)), .val (nats (offs m (on ++ fr))), .no, .val (txs (lawGood m on fr)), .own [], .no, .no, .no] = _
  have gl := lawGood_len m1 on fr
  obtain ⟨e2, h2, x4, x7, acc, he, hacc⟩ := for_inv (t := .nm 4) (r := fun s => .val (.str s)) (body := (gSeq (gSet 7 true (fLc (fRg1 (fCons (fVar 0) fNil)) [9] (.nm 9) (fTest (fBin dNe (fBin dIx (fVar 4) (fVar 9)) (fC (.str [45])))) (fBin dAdd (fBin dAdd (fSl (fVar 4) fNoPart (fPart (fVar 9))) (fC (.str [45]))) (fSl (fVar 4) (fPart (fBin dAdd (fVar 9) (fC (.int 1)))) fNoPart))))
    (gIf (fNot (fTest (fBi dAny (fCons (fLc (fIt false (fVar 7)) [8] (.nm 8) fYes (fBin dIn (fVar 8) (fVar 5))) fNil)))) (gApp 6 (fVar 4)) gNext)))
    (fun rest es => ∃ x4 x7 acc, es = [.val (.int m), .brw (.lst (on.map .int)), .brw (.lst (fr.map .int)), .val (nats (offs m (on ++ fr))), x4, .val (txs (lawGood m on fr)), .own (acc.map .str), x7, .no, .no] ∧ acc ++ rest.filter (endsP m on fr) = (lawGood m on fr).filter (endsP m on fr) ∧ ∀ t ∈ rest, Tm m t)
    (fun t rest es ⟨x4, x7, acc, he, hacc, hr⟩ => by
      subst he
      have al : acc.length < 80000 := by
        have := congrArg List.length hacc
        rw [List.length_append] at this
        have := List.length_filter_le (endsP m on fr) (lawGood m on fr)
        omega
      obtain ⟨y7, e⟩ := ends_step m1 (on := on) (fr := fr) (hr t (by simp)) al (a := .brw (.lst (on.map .int))) (b := .brw (.lst (fr.map .int))) (c := .val (nats (offs m (on ++ fr)))) (x7 := x7)
      refine ⟨_, rfl, _, e, _, _, _, rfl, ?_, fun u hu => hr u (by simp [hu])⟩
      rw [← hacc, List.filter_cons, List.append_assoc]
      cases endsP m on fr t <;> simp)
    (lawGood m on fr) [.val (.int m), .brw (.lst (on.map .int)), .brw (.lst (fr.map .int)), .val (nats (offs m (on ++ fr))), .no, .val (txs (lawGood m on fr)), .own [], .no, .no, .no] ⟨.no, .no, [], rfl, rfl, fun t ht => mem_lawT.mp (List.mem_filter.mp ht).1⟩
  subst he
  have hsrc : fIt true (fVar 5) [.val (.int m), .brw (.lst (on.map .int)), .brw (.lst (fr.map .int)), .val (nats (offs m (on ++ fr))), .no, .val (txs (lawGood m on fr)), .own [], .no, .no, .no] = .ok ((lawGood m on fr).map fun s => .val (.str s)) := it_strs (Or.inr rfl)
  rw [seq_n ((for_o hsrc).trans h2)]
  have h3 : acc = (lawT m).filter (whole (offs m (on ++ fr))) := by
    rw [List.filter_nil, List.append_nil] at hacc
    rw [hacc.1]
    exact ends_law _
  have h4 := sort_T m (whole (offs m (on ++ fr)))
  refine ret_n ?_
  rw [sorted_strs' (l := acc) (r := .bor (acc.map .str)) rfl rfl (by
    rw [h3]
    have := List.length_filter_le (whole (offs m (on ++ fr))) (lawT m)
    rw [len_lawT] at this
    have := pow3_le m1
    omega), h3, h4]
  rfl
end K03
namespace K03
open PySem PySem.Spec PyProof.Rows L2 Fw K02 Mt
variable {cl : Cl}
/-! ### what is no term -/
theorem term_no {m : Nat} {w : List Nat} (h1 : w.length ≤ 10) (h2 : w.length ≠ m ∨ w.all pb = false) : g_is_term cl [.str w, .int m] = .ok (.val (.bl false)) := by
  rw [term_str h1]
  rcases h2 with h2 | h2
  · rw [decide_eq_false h2]; rfl
  · rw [h2, Bool.and_false]
theorem rep_no {m c : Nat} (m0 : 1 ≤ m) (h : pb c = false) : (List.replicate m c).all pb = false := by
  obtain ⟨k, rfl⟩ : ∃ k, m = k + 1 := ⟨m - 1, by omega⟩
  rw [List.replicate_succ, List.all_cons, h]; rfl
def oddW (m : Nat) : List D := [.str (List.replicate (m + 1) 45), .str (List.replicate (m - 1) 45), .str (List.replicate m 120), .non, .int 5, .lst [.str [45]], .bl true, .tup (List.replicate m (.str [48]))]
theorem oddW_no {m : Nat} (m0 : 1 ≤ m) (m1 : m ≤ 5) : ∀ x ∈ oddW m, g_is_term cl [x, .int m] = .ok (.val (.bl false)) := by
  intro x hx
  simp only [oddW, List.mem_cons, List.not_mem_nil, or_false] at hx
  rcases hx with rfl | rfl | rfl | rfl | rfl | rfl | rfl | rfl
  · exact term_no (by simp; omega) (Or.inl (by simp))
  · exact term_no (by simp; omega) (Or.inl (by simp; omega))
  · exact term_no (by simp; omega) (Or.inr (rep_no m0 rfl))
  · exact term_other rfl (by decide)
  · exact term_other rfl (by decide)
  · exact term_other rfl (by decide)
  · exact term_other rfl (by decide)
  · exact term_other rfl (by decide)
theorem mul_t {x : D} {n : Nat} (h1 : 1 ≤ n) (h2 : n ≤ 1000) : dMulT (.val (.tup [x])) (.val (.int (n : Nat))) = some (.val (.tup (List.replicate n x))) := by
  show (if ((n : Nat) : Int) = 1 then some (R.val (.tup [x])) else if [x] ≠ [] ∧ 2 ≤ ((n : Nat) : Int) ∧ ((n : Nat) : Int) ≤ 1000 ∧ [x].length ≤ 1000 then some (R.val (.tup (List.replicate ((n : Nat) : Int).toNat [x]).flatten)) else none) = _
  by_cases h : n = 1
  · subst h; rfl
  · rw [if_neg (by omega), if_pos ⟨by simp, by omega, by omega, by simp⟩]
    have : ∀ k : Nat, (List.replicate k [x]).flatten = List.replicate k x := fun k => by
      induction k with
      | zero => rfl
      | succ k ih => rw [List.replicate_succ, List.flatten_cons, ih, List.replicate_succ]; rfl
    rw [Int.toNat_natCast, this]
abbrev KnT (cl : Cl) : Prop := Kn cl "BadTerm" false false true false false
theorem refused3_eq (K : KnT cl) {m : Nat} {on fr : List Int} (m0 : 1 ≤ m) (m1 : m ≤ 5) (d : Nat) : g_law_refused cl [sayD cl m on fr, .int m, .int d] = .ok (.val (.bl true)) := by
  show run0 6 (b_law_refused cl) [sayD cl m on fr, .int m, .int d] = _
  refine run0_rt (e := [.brw (sayD cl m on fr), .val (.int m), .val (.int d), .no, .no, .no]) rfl ?_
  unfold b_law_refused
  obtain ⟨j, hj⟩ := of_nat (i := (d : Int) % 8) (by omega)
  have hj8 : j < (oddW m).length := by show j < 8; omega
  have hx := oddW_no (cl := cl) m0 m1 (oddW m)[j] (List.getElem_mem hj8)
  generalize hE : ([.brw (sayD cl m on fr), .val (.int m), .val (.int d), .no, .no, .no] : Fw.Env) = E
  have v1 : fVar 1 E = .ok (.val (.int m)) := by rw [← hE]; rfl
  have v2 : fVar 2 E = .ok (.val (.int d)) := by rw [← hE]; rfl
  have hL := lst_o (cons_o (bin_o (fa := fC (.str [45])) rfl (bin_o (d := dAdd) v1 (fb := fC (.int 1)) rfl (add_i _ _)) (mul_s (c := 45) (n := m + 1) (by omega))) (cons_o (bin_o (fa := fC (.str [45])) rfl (bin_o (d := dSub) v1 (fb := fC (.int 1)) rfl (by rw [sub_i, show (m : Int) - 1 = ((m - 1 : Nat) : Int) by omega])) (mul_s (c := 45) (n := m - 1) (by omega))) (cons_o (bin_o (fa := fC (.str [120])) rfl v1 (mul_s (c := 120) (by omega))) (cons_o (fa := fC .non) rfl (cons_o (fa := fC (.int 5)) rfl (cons_n (lst1 (fa := fC (.str [45])) rfl) (cons_o (fa := fC (.bl true)) rfl (cons_o (bin_o (tup1 (fa := fC (.str [48])) rfl) v1 (mul_t m0 (by omega))) nil_o)))))))) (ds := oddW m) rfl (by simp [oddW])
  have hix := bin_g (d := dIx) hL (bin_o v2 (fb := fC (.int 8)) rfl (mod_i (by decide))) (c := .val (oddW m)[j]) (by
    show (atI (oddW m) ((d : Int) % 8)).map R.val = _
    rw [hj, Fw.atI_nat, List.getElem?_eq_getElem hj8]; rfl)
  generalize (oddW m)[j] = x at hx hix
  rw [seq_n (set_v hix), ← hE]
  show gSeq _ _ [.brw (sayD cl m on fr), .val (.int m), .val (.int d), .val x, .no, .no] = _
  rw [seq_n (set_v (f := fC .non) rfl)]
  show gSeq _ _ [.brw (sayD cl m on fr), .val (.int m), .val (.int d), .val x, .val .non, .no] = _
  have hw : fCall (g_is_whole cl) (fCons (fVar 0) (fCons (fVar 3) fNil)) [.brw (sayD cl m on fr), .val (.int m), .val (.int d), .val x, .val .non, .no] = .exc (cl.at_ "BadTerm") none :=
    call_x (rs := [.brw (sayD cl m on fr), .val x]) rfl (whole_bad hx)
  have htry : gTry (fun c => cl.ex c (cl.at_ "TermError")) 5 (gExpr (fCall (g_is_whole cl) (fCons (fVar 0) (fCons (fVar 3) fNil)))) (gSet 4 true (fVar 5)) [.brw (sayD cl m on fr), .val (.int m), .val (.int d), .val x, .val .non, .no]
      = .nx [.brw (sayD cl m on fr), .val (.int m), .val (.int d), .val x, .val (.exn (cl.at_ "BadTerm") [] []), .no] := by
    unfold gTry gExpr
    rw [hw]
    show (match cl.ex (cl.at_ "BadTerm") (cl.at_ "TermError") with | some true => _ | some false => _ | none => _) = _
    rw [K.x]
    rfl
  rw [seq_n htry]
  refine ret_v (bin_o (call_o (cons_o rfl nil_o) (word_exn K)) rfl ?_)
  rw [eq_s (by decide) (by decide)]; rfl
/-! ### the law -/
theorem shp_strs {l : List (List Nat)} (h : ∀ t ∈ l, Sg t) : shp 60 (txs l) = true := by
  show (l.map D.str).all (shp 59) = true
  rw [List.all_eq_true]
  intro x hx
  obtain ⟨s, hs, rfl⟩ := List.mem_map.mp hx
  have := shp_s (h s hs)
  exact this
theorem deqL_strs (l : List (List Nat)) : deqL (l.map D.str) (l.map D.str) = true := by
  induction l with
  | nil => rfl
  | cons a l ih => rw [List.map_cons, deqL, ih]; simp [deq]
theorem ne_strs {l : List (List Nat)} (h : ∀ t ∈ l, Sg t) {a b : R} (ha : a.dat = txs l) (hb : b.dat = txs l) : dNe a b = some (.val (.bl false)) := by
  unfold dNe
  rw [ha, hb, shp_strs h]
  show some (R.val (.bl (!deqL (l.map D.str) (l.map D.str)))) = _
  rw [deqL_strs]; rfl
theorem ends_tm {m : Nat} {on fr : List Int} {t : List Nat} (h : t ∈ endsT m on fr) : Tm m t := mem_allT.mp (List.mem_filter.mp h).1
theorem isx_list (xs : List D) : dIsX cl [.bor xs, .val (.ty "list")] = some (.val (.bl true)) := by
  unfold dIsX isX dIsi
  rfl
theorem slv_drop {es : Fw.Env} {fa fb : Fw.Env → O R} {xs : List D} {k : Nat} (ha : fa es = .ok (.val (.lst xs))) (hb : fb es = .ok (.val (.int k))) : fSl fa (fPart fb) fNoPart es = .ok (.new (xs.drop k)) := by
  unfold fSl fNoPart fPart; rw [ha, O.bind_ok, hb, O.bind_ok, O.bind_ok, O.bind_ok]
  show O.ok (R.new (cutL xs (some (k : Int)) none)) = _
  rw [cut_drop]
theorem slv_take {es : Fw.Env} {fa fb : Fw.Env → O R} {xs : List D} {k : Nat} (ha : fa es = .ok (.val (.lst xs)) ∨ fa es = .ok (.new xs)) (hb : fb es = .ok (.val (.int k))) : fSl fa fNoPart (fPart fb) es = .ok (.new (xs.take k)) := by
  rcases ha with ha | ha
  · unfold fSl fNoPart fPart; rw [ha, O.bind_ok, O.bind_ok, hb, O.bind_ok, O.bind_ok]
    show O.ok (R.new (cutL xs none (some (k : Int)))) = _
    rw [cut_take]
  · unfold fSl fNoPart fPart; rw [ha, O.bind_ok, O.bind_ok, hb, O.bind_ok, O.bind_ok]
    show O.ok (R.new (cutL xs none (some (k : Int)))) = _
    rw [cut_take]
noncomputable def turnBody (cl : Cl) : Fw.Env → Out := (gSeq (gSet 10 false (fCall (g_wholes cl) (fCons (fVar 7) fNil)))
    (gSeq (gIf (fOr (fNot (fTest (fBi (dIsX cl) (fCons (fVar 10) (fCons (fC (.ty "list")) fNil))))) (fTest (fBin dNe (fVar 10) (fVar 8)))) (gRet (fC (.bl false))) gNext)
    (gApp 10 (fC (.str [])))))
theorem turn_step {m : Nat} (m1 : m ≤ 5) {on fr : List Int} {x0 x1 x2 x3 x4 x5 x6 x9 x10 x11 x12 x13 : Sl} : ∃ y10, turnBody cl [x0, x1, x2, x3, x4, x5, x6, .val (sayD cl m on fr), .val (txs (endsT m on fr)), x9, x10, x11, x12, x13] = .nx [x0, x1, x2, x3, x4, x5, x6, .val (sayD cl m on fr), .val (txs (endsT m on fr)), x9, y10, x11, x12, x13] := by
  unfold turnBody
  have h1 : fCall (g_wholes cl) (fCons (fVar 7) fNil) [x0, x1, x2, x3, x4, x5, x6, .val (sayD cl m on fr), .val (txs (endsT m on fr)), x9, x10, x11, x12, x13] = .ok (.new ((endsT m on fr).map .str)) := call_new (rs := [.val (sayD cl m on fr)]) rfl (wholes_eq m1)
  rw [seq_n (set_own h1)]
  show ∃ y10, gSeq _ _ [x0, x1, x2, x3, x4, x5, x6, .val (sayD cl m on fr), .val (txs (endsT m on fr)), x9, .own ((endsT m on fr).map .str), x11, x12, x13] = _
  have t1 : fNot (fTest (fBi (dIsX cl) (fCons (fVar 10) (fCons (fC (.ty "list")) fNil)))) [x0, x1, x2, x3, x4, x5, x6, .val (sayD cl m on fr), .val (txs (endsT m on fr)), x9, .own ((endsT m on fr).map .str), x11, x12, x13] = .ok false := not_o (k := true) (test_o (bi_o (rs := [.bor ((endsT m on fr).map .str), .val (.ty "list")]) rfl (isx_list _)))
  have t2 : fTest (fBin dNe (fVar 10) (fVar 8)) [x0, x1, x2, x3, x4, x5, x6, .val (sayD cl m on fr), .val (txs (endsT m on fr)), x9, .own ((endsT m on fr).map .str), x11, x12, x13] = .ok false := test_o (bin_b (a := .bor ((endsT m on fr).map .str)) (b := .val (txs (endsT m on fr))) rfl rfl rfl rfl (ne_strs (l := endsT m on fr) (fun t ht => (ends_tm ht).2) rfl rfl))
  rw [seq_n (if_f ((or_f t1).trans t2))]
  have el := ends_len m1 on fr
  exact ⟨_, app_o (xs := (endsT m on fr).map .str) rfl rfl (by simp; omega)⟩
noncomputable def toldBody (cl : Cl) : Fw.Env → Out := (gSeq (gSet 13 true (fCall (g_is_whole cl) (fCons (fVar 7) (fCons (fVar 12) fNil))))
    (gIf (fOr (fNot (fTest (fBi (dIsX cl) (fCons (fVar 13) (fCons (fC (.ty "bool")) fNil))))) (fTest (fBin dNe (fVar 13) (fBin dIn (fVar 12) (fVar 8))))) (gRet (fC (.bl false))) gNext))
theorem told_step {m : Nat} (m1 : m ≤ 5) {on fr : List Int} {t : List Nat} (ht : Tm m t) {x0 x1 x2 x3 x4 x5 x6 x9 x10 x11 x13 : Sl} : ∃ y13, toldBody cl [x0, x1, x2, x3, x4, x5, x6, .val (sayD cl m on fr), .val (txs (endsT m on fr)), x9, x10, x11, .val (.str t), x13] = .nx [x0, x1, x2, x3, x4, x5, x6, .val (sayD cl m on fr), .val (txs (endsT m on fr)), x9, x10, x11, .val (.str t), y13] := by
  unfold toldBody
  have h1 : fCall (g_is_whole cl) (fCons (fVar 7) (fCons (fVar 12) fNil)) [x0, x1, x2, x3, x4, x5, x6, .val (sayD cl m on fr), .val (txs (endsT m on fr)), x9, x10, x11, .val (.str t), x13] = .ok (.val (.bl (whole (offs m (on ++ fr)) t))) := call_val (rs := [.val (sayD cl m on fr), .val (.str t)]) rfl (whole_eq ht m1)
  rw [seq_n (set_v h1)]
  show ∃ y13, gIf _ _ _ [x0, x1, x2, x3, x4, x5, x6, .val (sayD cl m on fr), .val (txs (endsT m on fr)), x9, x10, x11, .val (.str t), .val (.bl (whole (offs m (on ++ fr)) t))] = _
  have hin := in_strs t (endsT m on fr) (r := .val (txs (endsT m on fr))) rfl
  have hw : ((endsT m on fr).any fun g => g == t) = whole (offs m (on ++ fr)) t := any_whole _ ht
  rw [hw] at hin
  generalize whole (offs m (on ++ fr)) t = B at *
  exact ⟨_, if_f ((or_f (not_o (k := true) (test_o (bi_o (rs := [.val (.bl B), .val (.ty "bool")]) rfl (isx_bool B))))).trans (test_o (bin_b (a := .val (.bl B)) (b := .val (.bl B)) rfl (bin_o rfl rfl hin) rfl rfl (ne_b B))))⟩
end K03
namespace K03
open PySem PySem.Spec PyProof.Rows L2 Fw K02 Mt
variable {cl : Cl}
theorem offs_S (m : Nat) (on fr : List Int) : endsT m (sortI on) (sortI fr) = endsT m on fr := by
  unfold endsT; rw [offs_sort]
noncomputable def lawBody (cl : Cl) : Fw.Env → Out := (gSeq (gSet 3 true (fCall0 (g_law_spread cl) (fCons (fVar 2) (fCons (fBin dMod (fVar 1) (fC (.int 60))) fNil))))
    (gSeq (gAsg (.tp [4, 5, 6]) (fCall0 (g_law_rows cl) (fCons (fVar 2) (fCons (fBin dMod (fVar 1) (fC (.int 60))) (fCons (fIf (fTest (fBin dEq (fBin dMod (fVar 1) (fC (.int 8))) (fC (.int 7)))) (fC (.int 5)) (fC (.int 3))) fNil)))))
    (gSeq (gSet 7 true (fMake (mk_Saying cl) [] (fCons (fVar 4) (fCons (fVar 5) (fCons (fVar 6) fNil)))))
    (gSeq (gSet 8 true (fCall0 (g_law_ends cl) (fCons (fVar 4) (fCons (fVar 5) (fCons (fVar 6) fNil)))))
    (gSeq (gFor (fRg1 (fCons (fC (.int 2)) fNil)) (.nm 9) (turnBody cl))
    (gSeq (gSet 11 true (fCall0 (g_law_terms cl) (fCons (fVar 4) fNil)))
    (gSeq (gIf (fTest (fBin dGt (fVar 4) (fC (.int 3)))) (gSet 11 true (fBin dAdd (fSl (fSl (fVar 11) (fPart (fBin dMod (fVar 3) (fC (.int 50)))) fNoPart) fNoPart (fPart (fC (.int 9)))) (fSl (fVar 8) fNoPart (fPart (fC (.int 5)))))) gNext)
    (gSeq (gFor (fIt true (fVar 11)) (.nm 12) (toldBody cl))
    (gIf (fNot (fTest (fCall0 (g_law_refused cl) (fCons (fVar 7) (fCons (fVar 4) (fCons (fBin dDiv (fVar 3) (fC (.int 3))) fNil)))))) (gRet (fC (.bl false))) gNext)))))))))
theorem law_body (K : KnT cl) {L : Sl} {k : Nat} {c : Int} {x3 x4 x5 x6 x7 x8 x9 x10 x11 x12 x13 : Sl} : ∃ y3 y4 y5 y6 y7 y8 y9 y10 y11 y12 y13, lawBody cl [L, .val (.int k), .val (.int c), x3, x4, x5, x6, x7, x8, x9, x10, x11, x12, x13] = .nx [L, .val (.int k), .val (.int c), y3, y4, y5, y6, y7, y8, y9, y10, y11, y12, y13] := by
  obtain ⟨d, hd⟩ := spr_nat (cl := cl) c ((k : Int) % 60) (by omega) (by omega)
  obtain ⟨q, hq, q1, q5⟩ : ∃ q : Nat, (if ((k : Int) % 8 == 7) = true then (5 : Int) else 3) = q ∧ 1 ≤ q ∧ q ≤ 5 := by
    split
    · exact ⟨5, rfl, by decide, by decide⟩
    · exact ⟨3, rfl, by decide, by decide⟩
  obtain ⟨m, on, fr, R0, hp⟩ := rows_eqM (cl := cl) c ((k : Int) % 60) q q1 q5 (by omega) (by omega)
  have m0 := R0.m0
  have m1 := R0.m1
  obtain ⟨d3, h3⟩ := of_nat (i := (d : Int) / 3) (by omega)
  obtain ⟨d50, h50⟩ := of_nat (i := (d : Int) % 50) (by omega)
  have m60 : ∀ E : Fw.Env, E[1]? = some (.val (.int k)) → fBin dMod (fVar 1) (fC (.int 60)) E = .ok (.val (.int ((k : Int) % 60))) := fun E h => bin_o (by unfold fVar; rw [h]) rfl (mod_i (by decide))
  have i53 : ∀ E : Fw.Env, E[1]? = some (.val (.int k)) → fIf (fTest (fBin dEq (fBin dMod (fVar 1) (fC (.int 8))) (fC (.int 7)))) (fC (.int 5)) (fC (.int 3)) E = .ok (.val (.int q)) := fun E h => by
    rw [ifv_o (test_o (bin_o (bin_o (by unfold fVar; rw [h]) rfl (mod_i (by decide))) rfl (eq_i _ _))), ← hq]
    split <;> rfl
  unfold lawBody
  rw [seq_n (set_v (call_o (cons_o rfl (cons_o (m60 _ rfl) nil_o)) hd))]
  show ∃ y3 y4 y5 y6 y7 y8 y9 y10 y11 y12 y13, gSeq _ _ [L, .val (.int k), .val (.int c), .val (.int d), x4, x5, x6, x7, x8, x9, x10, x11, x12, x13] = _
  rw [seq_n (asg_v (call_o (cons_o rfl (cons_o (m60 _ rfl) (cons_o (i53 _ rfl) nil_o))) hp) rfl)]
  show ∃ y3 y4 y5 y6 y7 y8 y9 y10 y11 y12 y13, gSeq _ _ [L, .val (.int k), .val (.int c), .val (.int d), .val (.int m), .val (.lst (on.map .int)), .val (.lst (fr.map .int)), x7, x8, x9, x10, x11, x12, x13] = _
  rw [seq_n (set_v (make_v (rs := [.val (.int m), .val (.lst (on.map .int)), .val (.lst (fr.map .int))]) rfl (made_eq R0)))]
  show ∃ y3 y4 y5 y6 y7 y8 y9 y10 y11 y12 y13, gSeq _ _ [L, .val (.int k), .val (.int c), .val (.int d), .val (.int m), .val (.lst (on.map .int)), .val (.lst (fr.map .int)), .val (Say cl m on fr), x8, x9, x10, x11, x12, x13] = _
  have he : fCall0 (g_law_ends cl) (fCons (fVar 4) (fCons (fVar 5) (fCons (fVar 6) fNil))) [L, .val (.int k), .val (.int c), .val (.int d), .val (.int m), .val (.lst (on.map .int)), .val (.lst (fr.map .int)), .val (Say cl m on fr), x8, x9, x10, x11, x12, x13] = .ok (.new ((endsT m (sortI on) (sortI fr)).map .str)) := by
    rw [offs_S]
    exact call_n (rs := [.val (.int m), .val (.lst (on.map .int)), .val (.lst (fr.map .int))]) rfl (law_ends_eq m1 on fr)
  rw [seq_n (set_n he)]
  show ∃ y3 y4 y5 y6 y7 y8 y9 y10 y11 y12 y13, gSeq _ _ [L, .val (.int k), .val (.int c), .val (.int d), .val (.int m), .val (.lst (on.map .int)), .val (.lst (fr.map .int)), .val (Say cl m on fr), .val (txs (endsT m (sortI on) (sortI fr))), x9, x10, x11, x12, x13] = _
  obtain ⟨e2, hf, u9, u10, he2⟩ := forL_rg (t := .nm 9) (n := 2) (body := turnBody cl) (es := [L, .val (.int k), .val (.int c), .val (.int d), .val (.int m), .val (.lst (on.map .int)), .val (.lst (fr.map .int)), .val (Say cl m on fr), .val (txs (endsT m (sortI on) (sortI fr))), x9, x10, x11, x12, x13])
    (I := fun _ es => ∃ u9 u10, es = [L, .val (.int k), .val (.int c), .val (.int d), .val (.int m), .val (.lst (on.map .int)), .val (.lst (fr.map .int)), .val (Say cl m on fr), .val (txs (endsT m (sortI on) (sortI fr))), u9, u10, x11, x12, x13])
    (fun i hi es ⟨u9, u10, he⟩ => by
      subst he
      obtain ⟨z10, e⟩ := turn_step (cl := cl) m1 (on := sortI on) (fr := sortI fr) (x0 := L) (x1 := .val (.int k)) (x2 := .val (.int c)) (x3 := .val (.int d)) (x4 := .val (.int m)) (x5 := .val (.lst (on.map .int))) (x6 := .val (.lst (fr.map .int))) (x9 := .val (.int i)) (x10 := u10) (x11 := x11) (x12 := x12) (x13 := x13)
      exact ⟨_, rfl, _, e, _, _, rfl⟩) ⟨_, _, rfl⟩
  subst he2
  rw [seq_n ((for_o (rg_o (n := 2) rfl (by decide))).trans hf)]
  rw [seq_n (set_v (call_o (cons_o rfl nil_o) (law_terms_eq m1)))]
  show ∃ y3 y4 y5 y6 y7 y8 y9 y10 y11 y12 y13, gSeq _ _ [L, .val (.int k), .val (.int c), .val (.int d), .val (.int m), .val (.lst (on.map .int)), .val (.lst (fr.map .int)), .val (Say cl m on fr), .val (txs (endsT m (sortI on) (sortI fr))), u9, u10, .val (txs (lawT m)), x12, x13] = _
  obtain ⟨l, hl, hg⟩ : ∃ l : List (List Nat), (∀ t ∈ l, Tm m t) ∧ gIf (fTest (fBin dGt (fVar 4) (fC (.int 3)))) (gSet 11 true (fBin dAdd (fSl (fSl (fVar 11) (fPart (fBin dMod (fVar 3) (fC (.int 50)))) fNoPart) fNoPart (fPart (fC (.int 9)))) (fSl (fVar 8) fNoPart (fPart (fC (.int 5)))))) gNext [L, .val (.int k), .val (.int c), .val (.int d), .val (.int m), .val (.lst (on.map .int)), .val (.lst (fr.map .int)), .val (Say cl m on fr), .val (txs (endsT m (sortI on) (sortI fr))), u9, u10, .val (txs (lawT m)), x12, x13]
      = .nx [L, .val (.int k), .val (.int c), .val (.int d), .val (.int m), .val (.lst (on.map .int)), .val (.lst (fr.map .int)), .val (Say cl m on fr), .val (txs (endsT m (sortI on) (sortI fr))), u9, u10, .val (txs l), x12, x13] := by
    have t : fTest (fBin dGt (fVar 4) (fC (.int 3))) [L, .val (.int k), .val (.int c), .val (.int d), .val (.int m), .val (.lst (on.map .int)), .val (.lst (fr.map .int)), .val (Say cl m on fr), .val (txs (endsT m (sortI on) (sortI fr))), u9, u10, .val (txs (lawT m)), x12, x13] = .ok (decide ((3 : Int) < m)) := test_o (bin_o rfl rfl rfl)
    by_cases h : (3 : Int) < m
    · rw [decide_eq_true h] at t
      refine ⟨((lawT m).drop d50).take 9 ++ (endsT m (sortI on) (sortI fr)).take 5, fun u hu => ?_, ?_⟩
      · rcases List.mem_append.mp hu with hu | hu
        · exact mem_lawT.mp (List.mem_of_mem_drop (List.mem_of_mem_take hu))
        · exact ends_tm (List.mem_of_mem_take hu)
      · rw [if_t t]
        have a1 := slv_drop (fa := fVar 11) (fb := fBin dMod (fVar 3) (fC (.int 50))) (xs := (lawT m).map .str) (k := d50) (es := [L, .val (.int k), .val (.int c), .val (.int d), .val (.int m), .val (.lst (on.map .int)), .val (.lst (fr.map .int)), .val (Say cl m on fr), .val (txs (endsT m (sortI on) (sortI fr))), u9, u10, .val (txs (lawT m)), x12, x13]) rfl (by
          rw [← h50]; exact bin_o rfl rfl (mod_i (by decide)))
        have a2 := slv_take (fb := fC (.int 9)) (k := 9) (Or.inr a1) rfl
        have a3 := slv_take (fa := fVar 8) (fb := fC (.int 5)) (k := 5) (xs := (endsT m (sortI on) (sortI fr)).map .str) (es := [L, .val (.int k), .val (.int c), .val (.int d), .val (.int m), .val (.lst (on.map .int)), .val (.lst (fr.map .int)), .val (Say cl m on fr), .val (txs (endsT m (sortI on) (sortI fr))), u9, u10, .val (txs (lawT m)), x12, x13]) (Or.inl rfl) rfl
        rw [set_n (add_n a2 a3 (by simp; omega))]
        rw [← List.map_drop, ← List.map_take, ← List.map_take, ← List.map_append]
        rfl
    · rw [decide_eq_false h] at t
      exact ⟨lawT m, fun u hu => mem_lawT.mp hu, if_f t⟩
  rw [seq_n hg]
  obtain ⟨e3, hf3, hh⟩ := for_inv (t := .nm 12) (r := fun s => .val (.str s)) (body := toldBody cl)
    (fun rest es => (∀ t ∈ rest, Tm m t) ∧ ∃ y12 y13, es = [L, .val (.int k), .val (.int c), .val (.int d), .val (.int m), .val (.lst (on.map .int)), .val (.lst (fr.map .int)), .val (Say cl m on fr), .val (txs (endsT m (sortI on) (sortI fr))), u9, u10, .val (txs l), y12, y13])
    (fun t rest es ⟨hr, y12, y13, he⟩ => by
      subst he
      obtain ⟨z13, e⟩ := told_step (cl := cl) m1 (on := sortI on) (fr := sortI fr) (hr t (by simp)) (x0 := L) (x1 := .val (.int k)) (x2 := .val (.int c)) (x3 := .val (.int d)) (x4 := .val (.int m)) (x5 := .val (.lst (on.map .int))) (x6 := .val (.lst (fr.map .int))) (x9 := u9) (x10 := u10) (x11 := .val (txs l)) (x13 := y13)
      exact ⟨_, rfl, _, e, fun u hu => hr u (by simp [hu]), _, _, rfl⟩)
    l _ ⟨hl, _, _, rfl⟩
  obtain ⟨_, y12, y13, he3⟩ := hh
  subst he3
  rw [seq_n ((for_o (it_strs (Or.inr rfl))).trans hf3)]
  have d3' : fBin dDiv (fVar 3) (fC (.int 3)) [L, .val (.int k), .val (.int c), .val (.int d), .val (.int m), .val (.lst (on.map .int)), .val (.lst (fr.map .int)), .val (Say cl m on fr), .val (txs (endsT m (sortI on) (sortI fr))), u9, u10, .val (txs l), y12, y13] = .ok (.val (.int d3)) := by
    rw [← h3]; exact bin_o rfl rfl (div_i (by decide))
  have t5 := not_o (k := true) (test_o (call_o (gg := g_law_refused cl) (fr := fCons (fVar 7) (fCons (fVar 4) (fCons (fBin dDiv (fVar 3) (fC (.int 3))) fNil))) (rs := [.val (Say cl m on fr), .val (.int m), .val (.int d3)]) (cons_o rfl (cons_o rfl (cons_o d3' nil_o))) (refused3_eq K m0 m1 d3)))
  exact ⟨_, _, _, _, _, _, _, _, _, _, _, if_f t5⟩
theorem cells_o {E : Fw.Env} {ns : List Int} (hn : ns.length ≤ 1000) (h0 : fVar 0 E = .ok (.brw (.lst (ns.map .int)))) : fEnum true (fCons (fBin dAdd (fVar 0) (fLst (fCons (fC (.int 0)) fNil))) fNil) E = .ok (enD 0 ((ns ++ [0]).map D.int)) := by
  have h1 : fBin dAdd (fVar 0) (fLst (fCons (fC (.int 0)) fNil)) E = .ok (.new ((ns ++ [0]).map D.int)) := by
    refine bin_g (ra := .brw (.lst (ns.map .int))) (rb := .new [.int 0]) h0 (lst_o (cons_o rfl nil_o) rfl (by simp)) ?_
    show (match (if (ns.map D.int).all flat then some (ns.map D.int) else none), some [D.int 0] with
      | some xs, some ys => if xs.length + ys.length ≤ 100000 then some (R.new (xs ++ ys)) else none
      | _, _ => none) = _
    rw [flat_ints]
    show (if _ then _ else _) = _
    rw [if_pos (by simp; omega)]
    simp
  unfold fEnum
  rw [cons_n h1 nil_o]; rfl
theorem law_eq (K : KnT cl) (ns : List Int) (hn : ns.length ≤ 1000) : g_law cl [.lst (ns.map .int)] = .ok (.val (.bl true)) := by
  show run0 14 (b_law cl) [.lst (ns.map .int)] = _
  refine run0_rt (e := [.brw (.lst (ns.map .int)), .no, .no, .no, .no, .no, .no, .no, .no, .no, .no, .no, .no, .no]) rfl ?_
  unfold b_law
  obtain ⟨e2, h2, _⟩ := forL_en (t := .tp [1, 2]) (body := lawBody cl) (I := fun es => ∃ L x1 x2 x3 x4 x5 x6 x7 x8 x9 x10 x11 x12 x13, es = [L, x1, x2, x3, x4, x5, x6, x7, x8, x9, x10, x11, x12, x13]) (fun k c es ⟨L, x1, x2, x3, x4, x5, x6, x7, x8, x9, x10, x11, x12, x13, h⟩ => by
    subst h
    obtain ⟨y3, y4, y5, y6, y7, y8, y9, y10, y11, y12, y13, e⟩ := law_body K (L := L) (k := k) (c := c) (x3 := x3) (x4 := x4) (x5 := x5) (x6 := x6) (x7 := x7) (x8 := x8) (x9 := x9) (x10 := x10) (x11 := x11) (x12 := x12) (x13 := x13)
    exact ⟨_, rfl, _, e, _, _, _, _, _, _, _, _, _, _, _, _, _, _, rfl⟩) (ns ++ [0]) 0 [.brw (.lst (ns.map .int)), .no, .no, .no, .no, .no, .no, .no, .no, .no, .no, .no, .no, .no] ⟨_, _, _, _, _, _, _, _, _, _, _, _, _, _, rfl⟩
  show gSeq (gFor (fEnum true (fCons (fBin dAdd (fVar 0) (fLst (fCons (fC (.int 0)) fNil))) fNil)) (.tp [1, 2]) (lawBody cl)) _ _ = _
  rw [seq_n ((for_o (cells_o hn rfl)).trans h2)]
  rfl
end K03
namespace K04
open PySem PySem.Spec PyProof.Rows L2 Fw
open K02 K03
noncomputable section
/- slots: 0 saying, 1 term, 2 lamp, 3 wider -/
def b_grown (cl : Cl) : Fw.Env → Out := (gSeq (gIf (fNot (fTest (fMeth (cl.at_ "Saying") "is_good" (g_Saying_is_good cl) (fVar 0) (fCons (fVar 1) fNil)))) (gRaise (cl.at_ "BadTerm")) gNext)
    (gSeq (gFor (fRg1 (fCons (fMeth (cl.at_ "Saying") "many" (g_Saying_many cl) (fVar 0) fNil) fNil)) (.nm 2) (gSeq (gSet 3 true (fCall0 (g_freed cl) (fCons (fVar 1) (fCons (fVar 2) fNil))))
    (gIf (fTest (fMeth (cl.at_ "Saying") "is_good" (g_Saying_is_good cl) (fVar 0) (fCons (fVar 3) fNil))) (gSet 1 true (fVar 3)) gNext)))
    (gRetV 1)))
def g_grown (cl : Cl) : List D → O R := runX 4 (b_grown cl)
/- slots: 0 _law_saying, 1 _law_term, 2 _law_caught_here, 3 _law_found, 4 e -/
def b_law_caught (cl : Cl) : Fw.Env → Out := (gSeq (gSet 2 true (fC .non))
    (gSeq (gSet 3 true (fC .non))
    (gSeq (gTry (fun c => cl.ex c (cl.at_ "TermError")) 4 (gSet 3 true (fCall (g_grown cl) (fCons (fVar 0) (fCons (fVar 1) fNil)))) (gSet 2 true (fVar 4)))
    (gRet (fIf (fTest (fBin dIs (fVar 2) (fC .non))) (fVar 3) (fCall0 (g_law_word cl) (fCons (fVar 2) fNil)))))))
def g_law_caught (cl : Cl) : List D → O R := run0 5 (b_law_caught cl)
/- slots: 0 _law_term, 1 _law_off, 2 _law_one -/
def b_law_is_clean (cl : Cl) : Fw.Env → Out := (gRet (fNotV (fBi dAny (fCons (fLc (fIt false (fVar 1)) [2] (.nm 2) fYes (fCall0 (g_law_agrees cl) (fCons (fVar 0) (fCons (fVar 2) fNil)))) fNil))))
def g_law_is_clean (cl : Cl) : List D → O R := run0 3 (b_law_is_clean cl)
/- slots: 0 _law_term, 1 _law_off, 2 _law_lamp, 3 _law_shorter -/
def b_law_due (cl : Cl) : Fw.Env → Out := (gSeq (gFor (fRg1 (fCons (fBi dLen (fCons (fVar 0) fNil)) fNil)) (.nm 2) (gSeq (gSet 3 true (fBin dAdd (fBin dAdd (fSl (fVar 0) fNoPart (fPart (fVar 2))) (fC (.str [45]))) (fSl (fVar 0) (fPart (fBin dAdd (fVar 2) (fC (.int 1)))) fNoPart)))
    (gIf (fTest (fCall0 (g_law_is_clean cl) (fCons (fVar 3) (fCons (fVar 1) fNil)))) (gSet 0 true (fVar 3)) gNext)))
    (gRetV 0))
def g_law_due (cl : Cl) : List D → O R := run0 4 (b_law_due cl)
/- slots: 0 _law_script, 1 _law_k, 2 _law_cell, 3 _law_draw_here, 4 _law_many, 5 _law_on, 6 _law_free, 7 _law_saying, 8 _law_off, 9 _law_some, 10 _law_j, 11 _law_more, 12 _law_term, 13 _law_due_here, 14 _law_odd, 15 _law_one, 16 _law_lamp -/
def b_law (cl : Cl) : Fw.Env → Out := (gSeq (gFor (fEnum true (fCons (fBin dAdd (fVar 0) (fLst (fCons (fC (.int 0)) fNil))) fNil)) (.tp [1, 2]) (gSeq (gSet 3 true (fCall0 (g_law_spread cl) (fCons (fVar 2) (fCons (fBin dMod (fVar 1) (fC (.int 60))) fNil))))
    (gSeq (gAsg (.tp [4, 5, 6]) (fCall0 (g_law_rows cl) (fCons (fVar 2) (fCons (fBin dMod (fVar 1) (fC (.int 60))) (fCons (fC (.int 5)) fNil)))))
    (gSeq (gSet 7 true (fMake (mk_Saying cl) [] (fCons (fVar 4) (fCons (fVar 5) (fCons (fVar 6) fNil)))))
    (gSeq (gSet 8 true (fLc (fRg1 (fCons (fBin dShl (fC (.int 1)) (fVar 4)) fNil)) [15] (.nm 15) (fAnd (fTest (fBin dNin (fVar 15) (fVar 5))) (fTest (fBin dNin (fVar 15) (fVar 6)))) (fVar 15)))
    (gSeq (gSet 9 false (fLc (fIt false (fBin dAdd (fBin dAdd (fSl (fVar 5) fNoPart (fPart (fC (.int 4)))) (fSl (fVar 6) fNoPart (fPart (fC (.int 3))))) (fSl (fVar 8) fNoPart (fPart (fC (.int 2)))))) [15] (.nm 15) fYes (fM1 dJoin (fC (.str [])) (fLc (fRg1 (fCons (fVar 4) fNil)) [16] (.nm 16) fYes (fBin dIx (fC (.str [48, 49])) (fBin dAnd (fBin dShr (fVar 15) (fVar 16)) (fC (.int 1))))))))
    (gSeq (gFor (fRg1 (fCons (fC (.int 4)) fNil)) (.nm 10) (gSeq (gSet 11 true (fCall0 (g_law_spread cl) (fCons (fVar 3) (fCons (fVar 10) fNil))))
    (gApp 9 (fM1 dJoin (fC (.str [])) (fLc (fRg1 (fCons (fVar 4) fNil)) [16] (.nm 16) fYes (fBin dIx (fC (.str [48, 49, 45])) (fBin dMod (fBin dDiv (fCall0 (g_law_spread cl) (fCons (fVar 11) (fCons (fVar 16) fNil))) (fC (.int 9))) (fC (.int 3)))))))))
    (gSeq (gFrz 9 (gFor (fIt true (fVar 9)) (.nm 12) (gSeq (gSet 13 true (fIf (fTest (fCall0 (g_law_is_clean cl) (fCons (fVar 12) (fCons (fVar 8) fNil)))) (fCall0 (g_law_due cl) (fCons (fVar 12) (fCons (fVar 8) fNil))) (fC (.str [116, 101, 114, 109, 32]))))
    (gSeq (gIf (fTest (fBin dNe (fCall0 (g_law_caught cl) (fCons (fVar 7) (fCons (fVar 12) fNil))) (fVar 13))) (gRet (fC (.bl false))) gNext)
    (gIf (fAnd (fTest (fBin dNe (fVar 13) (fC (.str [116, 101, 114, 109, 32])))) (fTest (fBin dNis (fCall (g_is_whole cl) (fCons (fVar 7) (fCons (fVar 13) fNil))) (fC (.bl true))))) (gRet (fC (.bl false))) gNext)))))
    (gSeq (gSet 14 true (fBin dIx (fLst (fCons (fBin dMulA (fC (.str [48])) (fBin dAdd (fVar 4) (fC (.int 1)))) (fCons (fC (.str [])) (fCons (fBin dMulA (fC (.str [97])) (fVar 4)) (fCons (fC .non) (fCons (fC (.int 5)) (fCons (fLst (fCons (fC (.str [48])) fNil)) (fCons (fC (.bl true)) (fCons (fBin dMulT (fTup (fCons (fC (.str [45])) fNil)) (fVar 4)) fNil))))))))) (fBin dMod (fBin dDiv (fVar 3) (fC (.int 9))) (fC (.int 8)))))
    (gIf (fTest (fBin dNe (fCall0 (g_law_caught cl) (fCons (fVar 7) (fCons (fVar 14) fNil))) (fC (.str [116, 101, 114, 109, 32])))) (gRet (fC (.bl false))) gNext))))))))))
    (gRet (fC (.bl true))))
def g_law (cl : Cl) : List D → O R := run0 17 (b_law cl)
end
end K04
namespace K04
open PySem PySem.Spec PyProof.Rows L2 Fw K02 K03 Mt
variable {cl : Cl}
abbrev nats (l : List Nat) : D := .lst (l.map fun i => .int (i : Nat))
theorem clean_step {off : List Nat} {i : Nat} {s : List Nat} : grow off (i + 1) s = if clean off (put (grow off i s) i 45) = true then put (grow off i s) i 45 else grow off i s := rfl
/-! ### grown -/
theorem grown_eq {m : Nat} {on fr : List Int} {s : List Nat} (hs : Tm m s) (m1 : m ≤ 5) (hc : clean (offs m (on ++ fr)) s = true) : g_grown cl [sayD cl m on fr, .str s] = .ok (.val (.str (grow (offs m (on ++ fr)) m s))) := by
  show runX 4 (b_grown cl) [sayD cl m on fr, .str s] = _
  refine runX_rt (e := [.brw (sayD cl m on fr), .val (.str s), .no, .no]) rfl ?_
  unfold b_grown
  have h1 := meth_good (cl := cl) (on := on) (fr := fr) hs m1 (fo := fVar 0) (fa := fVar 1) (es := [.brw (sayD cl m on fr), .val (.str s), .no, .no]) (r := .brw (sayD cl m on fr)) rfl rfl rfl
  rw [hc] at h1
  rw [seq_n (if_f (not_o (k := true) (test_o h1)))]
  have hm : fMeth (cl.at_ "Saying") "many" (g_Saying_many cl) (fVar 0) fNil [.brw (sayD cl m on fr), .val (.str s), .no, .no] = .ok (.val (.int m)) := meth_v (r := .brw (sayD cl m on fr)) rfl rfl (by decide) (many_eq m on fr)
  obtain ⟨e2, h2, h3⟩ := forL_rg (t := .nm 2) (n := m) (body := (gSeq (gSet 3 true (fCall0 (g_freed cl) (fCons (fVar 1) (fCons (fVar 2) fNil))))
    (gIf (fTest (fMeth (cl.at_ "Saying") "is_good" (g_Saying_is_good cl) (fVar 0) (fCons (fVar 3) fNil))) (gSet 1 true (fVar 3)) gNext))) (es := [.brw (sayD cl m on fr), .val (.str s), .no, .no])
    (I := fun i es => ∃ x2 x3, es = [.brw (sayD cl m on fr), .val (.str (grow (offs m (on ++ fr)) i s)), x2, x3]) (fun i hi es ⟨x2, x3, he⟩ => by
      subst he
      have ht := grow_tm (off := offs m (on ++ fr)) hs (i := i) (by omega)
      have hl := ht.1
      have hp := put_tm ht hi
      refine ⟨_, rfl, ?_⟩
      have a1 : gSet 3 true (fCall0 (g_freed cl) (fCons (fVar 1) (fCons (fVar 2) fNil))) [.brw (sayD cl m on fr), .val (.str (grow (offs m (on ++ fr)) i s)), .val (.int i), x3] = .nx [.brw (sayD cl m on fr), .val (.str (grow (offs m (on ++ fr)) i s)), .val (.int i), .val (.str (put (grow (offs m (on ++ fr)) i s) i 45))] := set_v (call_o (cons_o rfl (cons_o rfl nil_o)) (freed_eq (by omega)))
      have a2 := meth_good (cl := cl) (on := on) (fr := fr) hp m1 (fo := fVar 0) (fa := fVar 3) (es := [.brw (sayD cl m on fr), .val (.str (grow (offs m (on ++ fr)) i s)), .val (.int i), .val (.str (put (grow (offs m (on ++ fr)) i s) i 45))]) (r := .brw (sayD cl m on fr)) rfl rfl rfl
      show ∃ e2, gSeq _ _ [.brw (sayD cl m on fr), .val (.str (grow (offs m (on ++ fr)) i s)), .val (.int i), x3] = _ ∧ _
      rw [seq_n a1, if_o (test_o a2), clean_step]
      cases hcc : clean (offs m (on ++ fr)) (put (grow (offs m (on ++ fr)) i s) i 45) with
      | true => exact ⟨_, by rw [if_pos rfl]; exact set_v rfl, .val (.int i), .val (.str (put (grow (offs m (on ++ fr)) i s) i 45)), rfl⟩
      | false => exact ⟨_, by rw [if_neg Bool.false_ne_true]; rfl, .val (.int i), .val (.str (put (grow (offs m (on ++ fr)) i s) i 45)), rfl⟩) ⟨_, _, rfl⟩
  obtain ⟨x2, x3, rfl⟩ := h3
  have hsrc : fRg1 (fCons (fMeth (cl.at_ "Saying") "many" (g_Saying_many cl) (fVar 0) fNil) fNil) [.brw (sayD cl m on fr), .val (.str s), .no, .no] = .ok (rgD 0 m) := rg_o hm (by omega)
  rw [seq_n ((for_o hsrc).trans h2)]
  rfl
theorem grown_off {m : Nat} {on fr : List Int} {s : List Nat} (hs : Tm m s) (m1 : m ≤ 5) (hc : clean (offs m (on ++ fr)) s = false) : g_grown cl [sayD cl m on fr, .str s] = .exc (cl.at_ "BadTerm") none := by
  show runX 4 (b_grown cl) [sayD cl m on fr, .str s] = _
  refine runX_exc (e := [.brw (sayD cl m on fr), .val (.str s), .no, .no]) (e2 := [.brw (sayD cl m on fr), .val (.str s), .no, .no]) rfl ?_
  unfold b_grown
  have h1 := meth_good (cl := cl) (on := on) (fr := fr) hs m1 (fo := fVar 0) (fa := fVar 1) (es := [.brw (sayD cl m on fr), .val (.str s), .no, .no]) (r := .brw (sayD cl m on fr)) rfl rfl rfl
  rw [hc] at h1
  simp [h1]
theorem grown_bad {m : Nat} {on fr : List Int} {x : D} (h : g_is_term cl [x, .int m] = .ok (.val (.bl false))) : g_grown cl [sayD cl m on fr, x] = .exc (cl.at_ "BadTerm") none := by
  have h1 := meth_bad (cl := cl) (on := on) (fr := fr) h (fo := fVar 0) (fa := fVar 1) (es := [.brw (sayD cl m on fr), slotD x, .no, .no]) (r := .brw (sayD cl m on fr)) (rx := nrm x) rfl rfl (slot_nrm rfl) (by simp)
  show runX 4 (b_grown cl) [sayD cl m on fr, x] = _
  refine runX_exc (e := [.brw (sayD cl m on fr), slotD x, .no, .no]) (e2 := [.brw (sayD cl m on fr), slotD x, .no, .no]) rfl ?_
  unfold b_grown
  simp [h1]
/-! ### the law's own -/
theorem it_natsB {es : Fw.Env} {f : Fw.Env → O R} {l : List Nat} {fz : Bool} (h : f es = .ok (.brw (nats l))) : fIt fz f es = .ok (l.map fun i => .val (.int (i : Nat))) := by
  unfold fIt; rw [h, O.bind_ok]
  show O.of (some ((l.map fun i => D.int (i : Nat)).map nrm)) = _
  rw [List.map_map]; rfl
theorem is_clean_eq {off : List Nat} (ho : off.length ≤ 90000) {s : List Nat} (hs : Sg s) : g_law_is_clean cl [.str s, nats off] = .ok (.val (.bl (clean off s))) := by
  show run0 3 (b_law_is_clean cl) [.str s, nats off] = _
  refine run0_rt (e := [.val (.str s), .brw (nats off), .no]) rfl ?_
  unfold b_law_is_clean
  have h := any_agrees (cl := cl) (E := [.val (.str s), .brw (nats off), .no]) (i := 0) (j := 1) (v := 2) hs ho (it_natsB rfl) (by simp) (fun _ => rfl)
  refine ret_v ?_
  unfold fNotV
  rw [h]
  show O.ok (R.val (.bl (!(!clean off s)))) = _
  rw [Bool.not_not]
theorem due_eq {off : List Nat} (ho : off.length ≤ 90000) {n : Nat} {s : List Nat} (hs : Tm n s) (n1 : n ≤ 5) : g_law_due cl [.str s, nats off] = .ok (.val (.str (grow off n s))) := by
  show run0 4 (b_law_due cl) [.str s, nats off] = _
  refine run0_rt (e := [.val (.str s), .brw (nats off), .no, .no]) rfl ?_
  unfold b_law_due
  have hl0 := hs.1
  obtain ⟨e2, h2, h3⟩ := forL_rg (t := .nm 2) (n := n) (body := (gSeq (gSet 3 true (fBin dAdd (fBin dAdd (fSl (fVar 0) fNoPart (fPart (fVar 2))) (fC (.str [45]))) (fSl (fVar 0) (fPart (fBin dAdd (fVar 2) (fC (.int 1)))) fNoPart)))
    (gIf (fTest (fCall0 (g_law_is_clean cl) (fCons (fVar 3) (fCons (fVar 1) fNil)))) (gSet 0 true (fVar 3)) gNext))) (es := [.val (.str s), .brw (nats off), .no, .no])
    (I := fun i es => ∃ x2 x3, es = [.val (.str (grow off i s)), .brw (nats off), x2, x3]) (fun i hi es ⟨x2, x3, he⟩ => by
      subst he
      have ht := grow_tm (off := off) hs (i := i) (by omega)
      have hl := ht.1
      have hp := put_tm ht hi
      refine ⟨_, rfl, ?_⟩
      show ∃ e2, gSeq _ _ [.val (.str (grow off i s)), .brw (nats off), .val (.int i), x3] = _ ∧ _
      rw [seq_n (set_v (freed_o (i := 0) (j := 2) (s := grow off i s) (k := i) (by omega) rfl rfl))]
      show ∃ e2, gIf _ _ _ [.val (.str (grow off i s)), .brw (nats off), .val (.int i), .val (.str (put (grow off i s) i 45))] = _ ∧ _
      have a2 : fCall0 (g_law_is_clean cl) (fCons (fVar 3) (fCons (fVar 1) fNil)) [.val (.str (grow off i s)), .brw (nats off), .val (.int i), .val (.str (put (grow off i s) i 45))] = .ok (.val (.bl (clean off (put (grow off i s) i 45)))) := call_o (rs := [.val (.str (put (grow off i s) i 45)), .brw (nats off)]) rfl (is_clean_eq ho hp.2)
      rw [if_o (test_o a2), clean_step]
      cases hcc : clean off (put (grow off i s) i 45) with
      | true => exact ⟨_, by rw [if_pos rfl]; exact set_v rfl, .val (.int i), .val (.str (put (grow off i s) i 45)), rfl⟩
      | false => exact ⟨_, by rw [if_neg Bool.false_ne_true]; rfl, .val (.int i), .val (.str (put (grow off i s) i 45)), rfl⟩) ⟨_, _, rfl⟩
  obtain ⟨x2, x3, rfl⟩ := h3
  have hsrc : fRg1 (fCons (fBi dLen (fCons (fVar 0) fNil)) fNil) [.val (.str s), .brw (nats off), .no, .no] = .ok (rgD 0 n) := rg_o (by rw [← hl0]; exact len_o rfl (by omega)) (by omega)
  rw [seq_n ((for_o hsrc).trans h2)]
  rfl
/-- what of grown, or its refusal, is told -/
theorem caught_ok {m : Nat} {on fr : List Int} {s t : List Nat} (h : g_grown cl [sayD cl m on fr, .str s] = .ok (.val (.str t))) : g_law_caught cl [sayD cl m on fr, .str s] = .ok (.val (.str t)) := by
  show run0 5 (b_law_caught cl) [sayD cl m on fr, .str s] = _
  refine run0_rt (e := [.brw (sayD cl m on fr), .val (.str s), .no, .no, .no]) rfl ?_
  unfold b_law_caught
  have hc : fCall (g_grown cl) (fCons (fVar 0) (fCons (fVar 1) fNil)) [.brw (sayD cl m on fr), .val (.str s), .val .non, .val .non, .no] = .ok (.val (.str t)) := call_val (rs := [.brw (sayD cl m on fr), .val (.str s)]) rfl h
  rw [seq_n (set_v (f := fC .non) rfl), seq_n (set_v (f := fC .non) rfl)]
  show gSeq _ _ [.brw (sayD cl m on fr), .val (.str s), .val .non, .val .non, .no] = _
  have ht : gTry (fun c => cl.ex c (cl.at_ "TermError")) 4 (gSet 3 true (fCall (g_grown cl) (fCons (fVar 0) (fCons (fVar 1) fNil)))) (gSet 2 true (fVar 4)) [.brw (sayD cl m on fr), .val (.str s), .val .non, .val .non, .no] = .nx [.brw (sayD cl m on fr), .val (.str s), .val .non, .val (.str t), .no] := by
    unfold gTry
    rw [set_v hc]; rfl
  rw [seq_n ht]
  rfl
theorem caught_x (K : KnT cl) {m : Nat} {on fr : List Int} {x : D} (h : g_grown cl [sayD cl m on fr, x] = .exc (cl.at_ "BadTerm") none) : g_law_caught cl [sayD cl m on fr, x] = .ok (.val (.str wTerm)) := by
  show run0 5 (b_law_caught cl) [sayD cl m on fr, x] = _
  refine run0_rt (e := [.brw (sayD cl m on fr), slotD x, .no, .no, .no]) rfl ?_
  unfold b_law_caught
  rw [seq_n (set_v (f := fC .non) rfl), seq_n (set_v (f := fC .non) rfl)]
  show gSeq _ _ [.brw (sayD cl m on fr), slotD x, .val .non, .val .non, .no] = _
  have hc : fCall (g_grown cl) (fCons (fVar 0) (fCons (fVar 1) fNil)) [.brw (sayD cl m on fr), slotD x, .val .non, .val .non, .no] = .exc (cl.at_ "BadTerm") none := by
    refine call_x (rs := [.brw (sayD cl m on fr), nrm x]) ?_ (by simp only [List.map_cons, List.map_nil, nrm_dat]; exact h)
    unfold fCons
    rw [show fVar 1 [.brw (sayD cl m on fr), slotD x, .val .non, .val .non, .no] = .ok (nrm x) from slot_nrm rfl]
    show O.ok [R.brw (sayD cl m on fr), (nrm x).fz] = _
    rw [nrm_fz]
  have ht : gTry (fun c => cl.ex c (cl.at_ "TermError")) 4 (gSet 3 true (fCall (g_grown cl) (fCons (fVar 0) (fCons (fVar 1) fNil)))) (gSet 2 true (fVar 4)) [.brw (sayD cl m on fr), slotD x, .val .non, .val .non, .no] = .nx [.brw (sayD cl m on fr), slotD x, .val (.exn (cl.at_ "BadTerm") [] []), .val .non, .no] := by
    unfold gTry gSet
    rw [hc]
    show (match cl.ex (cl.at_ "BadTerm") (cl.at_ "TermError") with | some true => _ | some false => _ | none => _) = _
    rw [K.x]
    rfl
  rw [seq_n ht]
  refine ret_v ?_
  rw [ifv_o (test_o (bin_g (ra := .val (.exn (cl.at_ "BadTerm") [] [])) (rb := .val .non) rfl rfl rfl))]
  rw [if_neg (by simp [isNonD])]
  exact call_o (cons_o rfl nil_o) (word_exn K)
end K04
namespace K04
open PySem PySem.Spec PyProof.Rows L2 Fw K02 K03 Mt
variable {cl : Cl}
/-! ### a setting's signs -/
def bits (m n : Nat) : List Nat := (List.range m).map (sgn n)
theorem bits_tm (m n : Nat) : Tm m (bits m n) := by
  refine ⟨by simp [bits], fun c hc => ?_⟩
  obtain ⟨k, _, rfl⟩ := List.mem_map.mp hc
  unfold sgn
  split <;> simp
theorem shr_o (n k : Nat) : dShr (.val (.int n)) (.val (.int k)) = some (.val (.int ((n / 2 ^ k : Nat) : Int))) := by
  show (if shrC (n : Int) (k : Int) then some (R.val (.int ((n : Int) / 2 ^ ((k : Nat) : Int).toNat))) else none) = _
  rw [if_pos (by unfold shrC; exact decide_eq_true (by omega)), Int.toNat_natCast, shr_nat]
theorem and1_o (n : Nat) : dAnd (.val (.int n)) (.val (.int 1)) = some (.val (.int ((n % 2 : Nat) : Int))) := by
  show some (R.val (.int (Builtin.bitAnd (n : Int) 1))) = _
  rw [bit1]
theorem ix01 (n k : Nat) : dIx (.val (.str [48, 49])) (.val (.int ((n / 2 ^ k % 2 : Nat) : Int))) = some (.val (.str [sgn n k])) := by
  refine ix_s (by decide) ?_
  rw [Fw.atI_nat]
  unfold sgn
  rcases Nat.mod_two_eq_zero_or_one (n / 2 ^ k) with h | h <;> rw [h] <;> rfl
theorem bits_o {E : Fw.Env} {a b l m n : Nat} (hm : m ≤ 1000) (h1 : fVar a E = .ok (.val (.int m))) (h2 : ∀ k : Nat, fVar b (E.set l (.val (.int k))) = .ok (.val (.int n))) (hl : l < E.length) :
    fM1 dJoin (fC (.str [])) (fLc (fRg1 (fCons (fVar a) fNil)) [l] (.nm l) fYes (fBin dIx (fC (.str [48, 49])) (fBin dAnd (fBin dShr (fVar b) (fVar l)) (fC (.int 1))))) E = .ok (.val (.str (bits m n))) := by
  have hw : ∀ s : Sl, (wipeE E [l]).set l s = E.set l s := fun s => by
    rw [wipeE1, List.set_set]
  have hll : ∀ k : Nat, fVar l (E.set l (.val (.int k))) = .ok (.val (.int k)) := fun k => by
    unfold fVar
    rw [List.getElem?_set_self hl]
  have h : fLc (fRg1 (fCons (fVar a) fNil)) [l] (.nm l) fYes (fBin dIx (fC (.str [48, 49])) (fBin dAnd (fBin dShr (fVar b) (fVar l)) (fC (.int 1)))) E = .ok (.new ((bits m n).map fun c => .str [c])) := by
    rw [lc_map (t := .nm l) (vs := [l]) (r := fun i => .val (.int (i : Nat))) (fun _ => true) (fun k => .str [sgn n k]) (rg_map h1 hm) (by simp; omega) fun k hk => ⟨E.set l (.val (.int k)), congrArg some (hw _), rfl, fun _ => ⟨_, bin_o rfl (bin_o (bin_o (h2 k) (hll k) (shr_o n k)) rfl (and1_o _)) (ix01 n k), rfl⟩⟩, filter_true]
    unfold bits
    rw [List.map_map]; rfl
  show ((fLc _ _ _ _ _ E).bind fun b => O.of (dJoin [] b.fz)) = _
  rw [h, O.bind_ok]
  show O.of (dJoin [] (.val (.lst ((bits m n).map fun c => D.str [c])))) = _
  rw [join_eq (by simp [bits]; omega)]; rfl
/-! ### the law -/
def oddG (m : Nat) : List D := [.str (List.replicate (m + 1) 48), .str [], .str (List.replicate m 97), .non, .int 5, .lst [.str [48]], .bl true, .tup (List.replicate m (.str [45]))]
theorem oddG_no {m : Nat} (m0 : 1 ≤ m) (m1 : m ≤ 5) : ∀ x ∈ oddG m, g_is_term cl [x, .int m] = .ok (.val (.bl false)) := by
  intro x hx
  simp only [oddG, List.mem_cons, List.not_mem_nil, or_false] at hx
  rcases hx with rfl | rfl | rfl | rfl | rfl | rfl | rfl | rfl
  · exact term_no (by simp; omega) (Or.inl (by simp))
  · exact term_no (by simp) (Or.inl (by simp; omega))
  · exact term_no (by simp; omega) (Or.inr (rep_no m0 rfl))
  · exact term_other rfl (by decide)
  · exact term_other rfl (by decide)
  · exact term_other rfl (by decide)
  · exact term_other rfl (by decide)
  · exact term_other rfl (by decide)
theorem ne_txt {s t : List Nat} (hs : (s.all fun c => decide (c < 1114112)) = true) (ht : (t.all fun c => decide (c < 1114112)) = true) : dNe (.val (.str s)) (.val (.str t)) = some (.val (.bl (!(s == t)))) := by
  show (if shp 60 (.str s) && shp 60 (.str t) then some (R.val (.bl (!deq (.str s) (.str t)))) else none) = _
  have h1 : shp 60 (.str s) = true := hs
  have h2 : shp 60 (.str t) = true := ht
  rw [h1, h2]; rfl
noncomputable def termBody (cl : Cl) : Fw.Env → Out := (gSeq (gSet 13 true (fIf (fTest (fCall0 (g_law_is_clean cl) (fCons (fVar 12) (fCons (fVar 8) fNil)))) (fCall0 (g_law_due cl) (fCons (fVar 12) (fCons (fVar 8) fNil))) (fC (.str [116, 101, 114, 109, 32]))))
    (gSeq (gIf (fTest (fBin dNe (fCall0 (g_law_caught cl) (fCons (fVar 7) (fCons (fVar 12) fNil))) (fVar 13))) (gRet (fC (.bl false))) gNext)
    (gIf (fAnd (fTest (fBin dNe (fVar 13) (fC (.str [116, 101, 114, 109, 32])))) (fTest (fBin dNis (fCall (g_is_whole cl) (fCons (fVar 7) (fCons (fVar 13) fNil))) (fC (.bl true))))) (gRet (fC (.bl false))) gNext)))
theorem sg_codes {s : List Nat} (h : Sg s) : (s.all fun c => decide (c < 1114112)) = true := by
  have := shp_s h
  exact this
theorem term_step (K : KnT cl) {m : Nat} (m1 : m ≤ 5) {on fr : List Int} {t : List Nat} (ht : Tm m t) {x0 x1 x2 x3 x4 x5 x6 x9 x10 x11 x13 x14 x15 x16 : Sl} : ∃ y13, termBody cl [x0, x1, x2, x3, x4, x5, x6, .val (sayD cl m on fr), .val (nats (offs m (on ++ fr))), x9, x10, x11, .val (.str t), x13, x14, x15, x16] = .nx [x0, x1, x2, x3, x4, x5, x6, .val (sayD cl m on fr), .val (nats (offs m (on ++ fr))), x9, x10, x11, .val (.str t), y13, x14, x15, x16] := by
  unfold termBody
  have a1 : fTest (fCall0 (g_law_is_clean cl) (fCons (fVar 12) (fCons (fVar 8) fNil))) [x0, x1, x2, x3, x4, x5, x6, .val (sayD cl m on fr), .val (nats (offs m (on ++ fr))), x9, x10, x11, .val (.str t), x13, x14, x15, x16] = .ok (clean (offs m (on ++ fr)) t) := test_o (call_o (rs := [.val (.str t), .val (nats (offs m (on ++ fr)))]) rfl (is_clean_eq (offs_le m1 _) ht.2))
  cases hc : clean (offs m (on ++ fr)) t with
  | false =>
    rw [hc] at a1
    have s1 : gSet 13 true (fIf (fTest (fCall0 (g_law_is_clean cl) (fCons (fVar 12) (fCons (fVar 8) fNil)))) (fCall0 (g_law_due cl) (fCons (fVar 12) (fCons (fVar 8) fNil))) (fC (.str [116, 101, 114, 109, 32]))) [x0, x1, x2, x3, x4, x5, x6, .val (sayD cl m on fr), .val (nats (offs m (on ++ fr))), x9, x10, x11, .val (.str t), x13, x14, x15, x16] = .nx [x0, x1, x2, x3, x4, x5, x6, .val (sayD cl m on fr), .val (nats (offs m (on ++ fr))), x9, x10, x11, .val (.str t), .val (.str wTerm), x14, x15, x16] := set_v (by
      rw [ifv_o a1]; rfl)
    rw [seq_n s1]
    have t2 : fTest (fBin dNe (fCall0 (g_law_caught cl) (fCons (fVar 7) (fCons (fVar 12) fNil))) (fVar 13)) [x0, x1, x2, x3, x4, x5, x6, .val (sayD cl m on fr), .val (nats (offs m (on ++ fr))), x9, x10, x11, .val (.str t), .val (.str wTerm), x14, x15, x16] = .ok false :=
      test_o (bin_o (call_o (rs := [.val (sayD cl m on fr), .val (.str t)]) rfl (caught_x K (grown_off ht m1 hc))) rfl (by rw [ne_txt (by decide) (by decide)]; rfl))
    rw [seq_n (if_f t2)]
    have t3 : fAnd (fTest (fBin dNe (fVar 13) (fC (.str [116, 101, 114, 109, 32])))) (fTest (fBin dNis (fCall (g_is_whole cl) (fCons (fVar 7) (fCons (fVar 13) fNil))) (fC (.bl true)))) [x0, x1, x2, x3, x4, x5, x6, .val (sayD cl m on fr), .val (nats (offs m (on ++ fr))), x9, x10, x11, .val (.str t), .val (.str wTerm), x14, x15, x16] = .ok false := by
      unfold fAnd
      rw [test_o (k := false) (bin_o (a := .str wTerm) (b := .str wTerm) rfl rfl (by rw [ne_txt (by decide) (by decide)]; rfl))]; rfl
    exact ⟨_, if_f t3⟩
  | true =>
    rw [hc] at a1
    have hg := grow_tm (off := offs m (on ++ fr)) ht (Nat.le_refl m)
    have s1 : gSet 13 true (fIf (fTest (fCall0 (g_law_is_clean cl) (fCons (fVar 12) (fCons (fVar 8) fNil)))) (fCall0 (g_law_due cl) (fCons (fVar 12) (fCons (fVar 8) fNil))) (fC (.str [116, 101, 114, 109, 32]))) [x0, x1, x2, x3, x4, x5, x6, .val (sayD cl m on fr), .val (nats (offs m (on ++ fr))), x9, x10, x11, .val (.str t), x13, x14, x15, x16] = .nx [x0, x1, x2, x3, x4, x5, x6, .val (sayD cl m on fr), .val (nats (offs m (on ++ fr))), x9, x10, x11, .val (.str t), .val (.str (grow (offs m (on ++ fr)) m t)), x14, x15, x16] := set_v (by
      rw [ifv_o a1]
      exact call_o (rs := [.val (.str t), .val (nats (offs m (on ++ fr)))]) rfl (due_eq (offs_le m1 _) ht m1))
    rw [seq_n s1]
    have t2 : fTest (fBin dNe (fCall0 (g_law_caught cl) (fCons (fVar 7) (fCons (fVar 12) fNil))) (fVar 13)) [x0, x1, x2, x3, x4, x5, x6, .val (sayD cl m on fr), .val (nats (offs m (on ++ fr))), x9, x10, x11, .val (.str t), .val (.str (grow (offs m (on ++ fr)) m t)), x14, x15, x16] = .ok false :=
      test_o (bin_o (call_o (rs := [.val (sayD cl m on fr), .val (.str t)]) rfl (caught_ok (grown_eq ht m1 hc))) rfl (ne_s hg.2))
    rw [seq_n (if_f t2)]
    have hw : whole (offs m (on ++ fr)) (grow (offs m (on ++ fr)) m t) = true := grow_whole ht hc
    have t4 : fTest (fBin dNis (fCall (g_is_whole cl) (fCons (fVar 7) (fCons (fVar 13) fNil))) (fC (.bl true))) [x0, x1, x2, x3, x4, x5, x6, .val (sayD cl m on fr), .val (nats (offs m (on ++ fr))), x9, x10, x11, .val (.str t), .val (.str (grow (offs m (on ++ fr)) m t)), x14, x15, x16] = .ok false :=
      test_o (bin_o (call_val (rs := [.val (sayD cl m on fr), .val (.str (grow (offs m (on ++ fr)) m t))]) rfl (whole_eq hg m1)) rfl (by rw [hw]; rfl))
    have t3 : ∃ b, fTest (fBin dNe (fVar 13) (fC (.str [116, 101, 114, 109, 32]))) [x0, x1, x2, x3, x4, x5, x6, .val (sayD cl m on fr), .val (nats (offs m (on ++ fr))), x9, x10, x11, .val (.str t), .val (.str (grow (offs m (on ++ fr)) m t)), x14, x15, x16] = .ok b := ⟨_, test_o (bin_o rfl rfl (ne_txt (sg_codes hg.2) (by decide)))⟩
    obtain ⟨b, t3⟩ := t3
    refine ⟨_, if_f (?_ : fAnd _ _ _ = .ok false)⟩
    rw [and_o t3 t4, Bool.and_false]
noncomputable def lawBody (cl : Cl) : Fw.Env → Out := (gSeq (gSet 3 true (fCall0 (g_law_spread cl) (fCons (fVar 2) (fCons (fBin dMod (fVar 1) (fC (.int 60))) fNil))))
    (gSeq (gAsg (.tp [4, 5, 6]) (fCall0 (g_law_rows cl) (fCons (fVar 2) (fCons (fBin dMod (fVar 1) (fC (.int 60))) (fCons (fC (.int 5)) fNil)))))
    (gSeq (gSet 7 true (fMake (mk_Saying cl) [] (fCons (fVar 4) (fCons (fVar 5) (fCons (fVar 6) fNil)))))
    (gSeq (gSet 8 true (fLc (fRg1 (fCons (fBin dShl (fC (.int 1)) (fVar 4)) fNil)) [15] (.nm 15) (fAnd (fTest (fBin dNin (fVar 15) (fVar 5))) (fTest (fBin dNin (fVar 15) (fVar 6)))) (fVar 15)))
    (gSeq (gSet 9 false (fLc (fIt false (fBin dAdd (fBin dAdd (fSl (fVar 5) fNoPart (fPart (fC (.int 4)))) (fSl (fVar 6) fNoPart (fPart (fC (.int 3))))) (fSl (fVar 8) fNoPart (fPart (fC (.int 2)))))) [15] (.nm 15) fYes (fM1 dJoin (fC (.str [])) (fLc (fRg1 (fCons (fVar 4) fNil)) [16] (.nm 16) fYes (fBin dIx (fC (.str [48, 49])) (fBin dAnd (fBin dShr (fVar 15) (fVar 16)) (fC (.int 1))))))))
    (gSeq (gFor (fRg1 (fCons (fC (.int 4)) fNil)) (.nm 10) (gSeq (gSet 11 true (fCall0 (g_law_spread cl) (fCons (fVar 3) (fCons (fVar 10) fNil))))
    (gApp 9 (fM1 dJoin (fC (.str [])) (fLc (fRg1 (fCons (fVar 4) fNil)) [16] (.nm 16) fYes (fBin dIx (fC (.str [48, 49, 45])) (fBin dMod (fBin dDiv (fCall0 (g_law_spread cl) (fCons (fVar 11) (fCons (fVar 16) fNil))) (fC (.int 9))) (fC (.int 3)))))))))
    (gSeq (gFrz 9 (gFor (fIt true (fVar 9)) (.nm 12) (termBody cl)))
    (gSeq (gSet 14 true (fBin dIx (fLst (fCons (fBin dMulA (fC (.str [48])) (fBin dAdd (fVar 4) (fC (.int 1)))) (fCons (fC (.str [])) (fCons (fBin dMulA (fC (.str [97])) (fVar 4)) (fCons (fC .non) (fCons (fC (.int 5)) (fCons (fLst (fCons (fC (.str [48])) fNil)) (fCons (fC (.bl true)) (fCons (fBin dMulT (fTup (fCons (fC (.str [45])) fNil)) (fVar 4)) fNil))))))))) (fBin dMod (fBin dDiv (fVar 3) (fC (.int 9))) (fC (.int 8)))))
    (gIf (fTest (fBin dNe (fCall0 (g_law_caught cl) (fCons (fVar 7) (fCons (fVar 14) fNil))) (fC (.str [116, 101, 114, 109, 32])))) (gRet (fC (.bl false))) gNext)))))))))
theorem law_body (K : KnT cl) {L : Sl} {k : Nat} {c : Int} {x3 x4 x5 x6 x7 x8 x9 x10 x11 x12 x13 x14 : Sl} : ∃ y3 y4 y5 y6 y7 y8 y9 y10 y11 y12 y13 y14, lawBody cl [L, .val (.int k), .val (.int c), x3, x4, x5, x6, x7, x8, x9, x10, x11, x12, x13, x14, .no, .no] = .nx [L, .val (.int k), .val (.int c), y3, y4, y5, y6, y7, y8, y9, y10, y11, y12, y13, y14, .no, .no] := by
  obtain ⟨d, hd⟩ := spr_nat (cl := cl) c ((k : Int) % 60) (by omega) (by omega)
  obtain ⟨m, on, fr, R0, hp⟩ := rows_eq (cl := cl) c ((k : Int) % 60) (by omega) (by omega)
  have m0 := R0.m0
  have m1 := R0.m1
  have lo := R0.lo
  have lf := R0.lf
  have m60 : ∀ E : Fw.Env, E[1]? = some (.val (.int k)) → fBin dMod (fVar 1) (fC (.int 60)) E = .ok (.val (.int ((k : Int) % 60))) := fun E h => bin_o (by unfold fVar; rw [h]) rfl (mod_i (by decide))
  unfold lawBody
  rw [seq_n (set_v (call_o (cons_o rfl (cons_o (m60 _ rfl) nil_o)) hd))]
  show ∃ y3 y4 y5 y6 y7 y8 y9 y10 y11 y12 y13 y14, gSeq _ _ [L, .val (.int k), .val (.int c), .val (.int d), x4, x5, x6, x7, x8, x9, x10, x11, x12, x13, x14, .no, .no] = _
  rw [seq_n (asg_v (call_o (cons_o rfl (cons_o (m60 _ rfl) (cons_o rfl nil_o))) hp) rfl)]
  show ∃ y3 y4 y5 y6 y7 y8 y9 y10 y11 y12 y13 y14, gSeq _ _ [L, .val (.int k), .val (.int c), .val (.int d), .val (.int m), .val (.lst (on.map .int)), .val (.lst (fr.map .int)), x7, x8, x9, x10, x11, x12, x13, x14, .no, .no] = _
  rw [seq_n (set_v (make_v (rs := [.val (.int m), .val (.lst (on.map .int)), .val (.lst (fr.map .int))]) rfl (made_eq R0)))]
  show ∃ y3 y4 y5 y6 y7 y8 y9 y10 y11 y12 y13 y14, gSeq _ _ [L, .val (.int k), .val (.int c), .val (.int d), .val (.int m), .val (.lst (on.map .int)), .val (.lst (fr.map .int)), .val (Say cl m on fr), x8, x9, x10, x11, x12, x13, x14, .no, .no] = _
  rw [seq_n (set_n (off_o (E := [L, .val (.int k), .val (.int c), .val (.int d), .val (.int m), .val (.lst (on.map .int)), .val (.lst (fr.map .int)), .val (Say cl m on fr), x8, x9, x10, x11, x12, x13, x14, .no, .no]) m1 rfl (fun _ => rfl) (fun _ => rfl) (by simp)))]
  show ∃ y3 y4 y5 y6 y7 y8 y9 y10 y11 y12 y13 y14, gSeq _ _ [L, .val (.int k), .val (.int c), .val (.int d), .val (.int m), .val (.lst (on.map .int)), .val (.lst (fr.map .int)), .val (Say cl m on fr), .val (nats (offs m (on ++ fr))), x9, x10, x11, x12, x13, x14, .no, .no] = _
  -- the first terms
  obtain ⟨l, hl, hll, hlc⟩ : ∃ l : List (List Nat), (∀ t ∈ l, Tm m t) ∧ l.length ≤ 9 ∧ fLc (fIt false (fBin dAdd (fBin dAdd (fSl (fVar 5) fNoPart (fPart (fC (.int 4)))) (fSl (fVar 6) fNoPart (fPart (fC (.int 3))))) (fSl (fVar 8) fNoPart (fPart (fC (.int 2)))))) [15] (.nm 15) fYes (fM1 dJoin (fC (.str [])) (fLc (fRg1 (fCons (fVar 4) fNil)) [16] (.nm 16) fYes (fBin dIx (fC (.str [48, 49])) (fBin dAnd (fBin dShr (fVar 15) (fVar 16)) (fC (.int 1)))))) [L, .val (.int k), .val (.int c), .val (.int d), .val (.int m), .val (.lst (on.map .int)), .val (.lst (fr.map .int)), .val (Say cl m on fr), .val (nats (offs m (on ++ fr))), x9, x10, x11, x12, x13, x14, .no, .no] = .ok (.new (l.map .str)) := by
    have pos : ∀ n ∈ on.take 4 ++ fr.take 3 ++ ((offs m (on ++ fr)).map fun i => ((i : Nat) : Int)).take 2, ∃ i : Nat, n = i := fun n hn => by
      rcases List.mem_append.mp hn with hn | hn
      · rcases List.mem_append.mp hn with hn | hn
        · exact of_nat (R0.gon n (List.mem_of_mem_take hn)).1
        · exact of_nat (R0.gfr n (List.mem_of_mem_take hn)).1
      · obtain ⟨i, _, rfl⟩ := List.mem_map.mp (List.mem_of_mem_take hn)
        exact ⟨i, rfl⟩
    generalize hI : on.take 4 ++ fr.take 3 ++ ((offs m (on ++ fr)).map fun i => ((i : Nat) : Int)).take 2 = I at pos
    have Il : I.length ≤ 9 := by rw [← hI]; simp; omega
    obtain ⟨N, rfl⟩ : ∃ N : List Nat, I = N.map fun i => ((i : Nat) : Int) := by
      clear hI Il
      induction I with
      | nil => exact ⟨[], rfl⟩
      | cons a I ih =>
        obtain ⟨i, rfl⟩ := pos a (by simp)
        obtain ⟨N, rfl⟩ := ih fun n hn => pos n (by simp [hn])
        exact ⟨i :: N, rfl⟩
    refine ⟨N.map (bits m), fun t ht => ?_, by simpa using Il, ?_⟩
    · obtain ⟨n, _, rfl⟩ := List.mem_map.mp ht
      exact bits_tm m n
    · have b1 := slv_take (fa := fVar 5) (fb := fC (.int 4)) (k := 4) (xs := on.map .int) (es := [L, .val (.int k), .val (.int c), .val (.int d), .val (.int m), .val (.lst (on.map .int)), .val (.lst (fr.map .int)), .val (Say cl m on fr), .val (nats (offs m (on ++ fr))), x9, x10, x11, x12, x13, x14, .no, .no]) (Or.inl rfl) rfl
      have b2 := slv_take (fa := fVar 6) (fb := fC (.int 3)) (k := 3) (xs := fr.map .int) (es := [L, .val (.int k), .val (.int c), .val (.int d), .val (.int m), .val (.lst (on.map .int)), .val (.lst (fr.map .int)), .val (Say cl m on fr), .val (nats (offs m (on ++ fr))), x9, x10, x11, x12, x13, x14, .no, .no]) (Or.inl rfl) rfl
      have b3 := slv_take (fa := fVar 8) (fb := fC (.int 2)) (k := 2) (xs := (offs m (on ++ fr)).map fun i => .int (i : Nat)) (es := [L, .val (.int k), .val (.int c), .val (.int d), .val (.int m), .val (.lst (on.map .int)), .val (.lst (fr.map .int)), .val (Say cl m on fr), .val (nats (offs m (on ++ fr))), x9, x10, x11, x12, x13, x14, .no, .no]) (Or.inl rfl) rfl
      have b4 := add_n (add_n b1 b2 (by simp; omega)) b3 (by simp; omega)
      have e1 : (on.map D.int).take 4 ++ (fr.map D.int).take 3 ++ ((offs m (on ++ fr)).map fun i => D.int (i : Nat)).take 2 = N.map fun i => D.int (i : Nat) := by
        have := congrArg (List.map D.int) hI
        simp only [List.map_append, List.map_take, List.map_map] at this
        simpa [Function.comp_def] using this
      rw [e1] at b4
      have hsrc : fIt false (fBin dAdd (fBin dAdd (fSl (fVar 5) fNoPart (fPart (fC (.int 4)))) (fSl (fVar 6) fNoPart (fPart (fC (.int 3))))) (fSl (fVar 8) fNoPart (fPart (fC (.int 2))))) [L, .val (.int k), .val (.int c), .val (.int d), .val (.int m), .val (.lst (on.map .int)), .val (.lst (fr.map .int)), .val (Say cl m on fr), .val (nats (offs m (on ++ fr))), x9, x10, x11, x12, x13, x14, .no, .no] = .ok (N.map fun i => .val (.int (i : Nat))) := by
        unfold fIt
        rw [b4, O.bind_ok]
        show O.of (some ((N.map fun i => D.int (i : Nat)).map R.val)) = _
        rw [List.map_map]; rfl
      rw [lc_map (r := fun i => .val (.int (i : Nat))) (fun _ => true) (fun n => .str (bits m n)) hsrc (by simp at Il; omega) fun n hn => ⟨_, rfl, rfl, fun _ => ⟨_, bits_o (E := [L, .val (.int k), .val (.int c), .val (.int d), .val (.int m), .val (.lst (on.map .int)), .val (.lst (fr.map .int)), .val (Say cl m on fr), .val (nats (offs m (on ++ fr))), x9, x10, x11, x12, x13, x14, .val (.int n), .no]) (a := 4) (b := 15) (l := 16) (m := m) (n := n) (by omega) rfl (fun _ => rfl) (by simp), rfl⟩⟩, filter_true, List.map_map]
      rfl
  rw [seq_n (set_own hlc)]
  show ∃ y3 y4 y5 y6 y7 y8 y9 y10 y11 y12 y13 y14, gSeq _ _ [L, .val (.int k), .val (.int c), .val (.int d), .val (.int m), .val (.lst (on.map .int)), .val (.lst (fr.map .int)), .val (Say cl m on fr), .val (nats (offs m (on ++ fr))), .own (l.map .str), x10, x11, x12, x13, x14, .no, .no] = _
  obtain ⟨e2, hf, l2, u10, u11, he2, hl2, hn2⟩ := forL_rg (t := .nm 10) (n := 4) (body := (gSeq (gSet 11 true (fCall0 (g_law_spread cl) (fCons (fVar 3) (fCons (fVar 10) fNil))))
    (gApp 9 (fM1 dJoin (fC (.str [])) (fLc (fRg1 (fCons (fVar 4) fNil)) [16] (.nm 16) fYes (fBin dIx (fC (.str [48, 49, 45])) (fBin dMod (fBin dDiv (fCall0 (g_law_spread cl) (fCons (fVar 11) (fCons (fVar 16) fNil))) (fC (.int 9))) (fC (.int 3))))))))) (es := [L, .val (.int k), .val (.int c), .val (.int d), .val (.int m), .val (.lst (on.map .int)), .val (.lst (fr.map .int)), .val (Say cl m on fr), .val (nats (offs m (on ++ fr))), .own (l.map .str), x10, x11, x12, x13, x14, .no, .no])
    (I := fun i es => ∃ (l2 : List (List Nat)) (u10 u11 : Sl), es = [L, .val (.int k), .val (.int c), .val (.int d), .val (.int m), .val (.lst (on.map .int)), .val (.lst (fr.map .int)), .val (Say cl m on fr), .val (nats (offs m (on ++ fr))), .own (l2.map .str), u10, u11, x12, x13, x14, .no, .no] ∧ (∀ t ∈ l2, Tm m t) ∧ l2.length ≤ 9 + i)
    (fun i hi es ⟨l2, u10, u11, he, hl2, hn2⟩ => by
      subst he
      obtain ⟨a, ha⟩ := spr_nat (cl := cl) (d : Int) i (by omega) (by omega)
      refine ⟨_, rfl, ?_⟩
      have a1 : gSet 11 true (fCall0 (g_law_spread cl) (fCons (fVar 3) (fCons (fVar 10) fNil))) [L, .val (.int k), .val (.int c), .val (.int d), .val (.int m), .val (.lst (on.map .int)), .val (.lst (fr.map .int)), .val (Say cl m on fr), .val (nats (offs m (on ++ fr))), .own (l2.map .str), .val (.int i), u11, x12, x13, x14, .no, .no] = .nx [L, .val (.int k), .val (.int c), .val (.int d), .val (.int m), .val (.lst (on.map .int)), .val (.lst (fr.map .int)), .val (Say cl m on fr), .val (nats (offs m (on ++ fr))), .own (l2.map .str), .val (.int i), .val (.int a), x12, x13, x14, .no, .no] := set_v (call_o (cons_o rfl (cons_o rfl nil_o)) ha)
      show ∃ e2, gSeq _ _ [L, .val (.int k), .val (.int c), .val (.int d), .val (.int m), .val (.lst (on.map .int)), .val (.lst (fr.map .int)), .val (Say cl m on fr), .val (nats (offs m (on ++ fr))), .own (l2.map .str), .val (.int i), u11, x12, x13, x14, .no, .no] = _ ∧ _
      rw [seq_n a1]
      obtain ⟨s, hs, hj⟩ := drawn (gs := g_law_spread cl) (es := [L, .val (.int k), .val (.int c), .val (.int d), .val (.int m), .val (.lst (on.map .int)), .val (.lst (fr.map .int)), .val (Say cl m on fr), .val (nats (offs m (on ++ fr))), .own (l2.map .str), .val (.int i), .val (.int a), x12, x13, x14, .no, .no]) (i := 4) (j := 11) (l := 16) (n := m) (dd := (a : Int)) m1 (fun k hk => spr_nat (cl := cl) (a : Int) k (by omega) (by omega)) rfl (fun _ => rfl) (fun _ => rfl)
      refine ⟨_, app_o (xs := l2.map .str) rfl hj (by simp; omega), l2 ++ [s], .val (.int i), .val (.int a), ?_, fun t ht => ?_, by simp; omega⟩
      · rw [List.map_append]; rfl
      · rcases List.mem_append.mp ht with h | h
        · exact hl2 t h
        · simp only [List.mem_singleton] at h
          subst h; exact hs) ⟨l, _, _, rfl, hl, by omega⟩
  subst he2
  rw [seq_n ((for_o (rg_o (n := 4) rfl (by decide))).trans hf)]
  have hz : gFrz 9 (gFor (fIt true (fVar 9)) (.nm 12) (termBody cl)) [L, .val (.int k), .val (.int c), .val (.int d), .val (.int m), .val (.lst (on.map .int)), .val (.lst (fr.map .int)), .val (Say cl m on fr), .val (nats (offs m (on ++ fr))), .own (l2.map .str), u10, u11, x12, x13, x14, .no, .no]
      = gFor (fIt true (fVar 9)) (.nm 12) (termBody cl) [L, .val (.int k), .val (.int c), .val (.int d), .val (.int m), .val (.lst (on.map .int)), .val (.lst (fr.map .int)), .val (Say cl m on fr), .val (nats (offs m (on ++ fr))), .val (txs l2), u10, u11, x12, x13, x14, .no, .no] := rfl
  obtain ⟨e3, hf3, hh⟩ := for_inv (t := .nm 12) (r := fun s => .val (.str s)) (body := termBody cl)
    (fun rest es => (∀ t ∈ rest, Tm m t) ∧ ∃ u12 u13, es = [L, .val (.int k), .val (.int c), .val (.int d), .val (.int m), .val (.lst (on.map .int)), .val (.lst (fr.map .int)), .val (Say cl m on fr), .val (nats (offs m (on ++ fr))), .val (txs l2), u10, u11, u12, u13, x14, .no, .no])
    (fun t rest es ⟨hr, u12, u13, he⟩ => by
      subst he
      obtain ⟨z13, e⟩ := term_step K m1 (on := sortI on) (fr := sortI fr) (hr t (by simp)) (x0 := L) (x1 := .val (.int k)) (x2 := .val (.int c)) (x3 := .val (.int d)) (x4 := .val (.int m)) (x5 := .val (.lst (on.map .int))) (x6 := .val (.lst (fr.map .int))) (x9 := .val (txs l2)) (x10 := u10) (x11 := u11) (x13 := u13) (x14 := x14) (x15 := .no) (x16 := .no)
      rw [offs_sort] at e
      exact ⟨_, rfl, _, e, fun u hu => hr u (by simp [hu]), _, _, rfl⟩)
    l2 _ ⟨hl2, _, _, rfl⟩
  obtain ⟨_, u12, u13, he3⟩ := hh
  subst he3
  rw [seq_n (hz.trans ((for_o (it_strs (Or.inr rfl))).trans hf3))]
  obtain ⟨j, hj⟩ := of_nat (i := (d : Int) / 9 % 8) (by omega)
  have hj8 : j < (oddG m).length := by show j < 8; omega
  have hx := oddG_no (cl := cl) m0 m1 (oddG m)[j] (List.getElem_mem hj8)
  generalize hE : ([L, .val (.int k), .val (.int c), .val (.int d), .val (.int m), .val (.lst (on.map .int)), .val (.lst (fr.map .int)), .val (Say cl m on fr), .val (nats (offs m (on ++ fr))), .val (txs l2), u10, u11, u12, u13, x14, .no, .no] : Fw.Env) = E
  have v4 : fVar 4 E = .ok (.val (.int m)) := by rw [← hE]; rfl
  have v3 : fVar 3 E = .ok (.val (.int d)) := by rw [← hE]; rfl
  have hL := lst_o (cons_o (bin_o (fa := fC (.str [48])) rfl (bin_o (d := dAdd) v4 (fb := fC (.int 1)) rfl (add_i _ _)) (mul_s (c := 48) (n := m + 1) (by omega))) (cons_o (fa := fC (.str [])) rfl (cons_o (bin_o (fa := fC (.str [97])) rfl v4 (mul_s (c := 97) (by omega))) (cons_o (fa := fC .non) rfl (cons_o (fa := fC (.int 5)) rfl (cons_n (lst1 (fa := fC (.str [48])) rfl) (cons_o (fa := fC (.bl true)) rfl (cons_o (bin_o (tup1 (fa := fC (.str [45])) rfl) v4 (mul_t m0 (by omega))) nil_o)))))))) (ds := oddG m) rfl (by simp [oddG])
  have hix := bin_g (d := dIx) hL (bin_o (bin_o v3 (fb := fC (.int 9)) rfl (div_i (by decide))) (fb := fC (.int 8)) rfl (mod_i (by decide))) (c := .val (oddG m)[j]) (by
    show (atI (oddG m) ((d : Int) / 9 % 8)).map R.val = _
    rw [hj, Fw.atI_nat, List.getElem?_eq_getElem hj8]; rfl)
  generalize (oddG m)[j] = x at hx hix
  rw [seq_n (set_v hix), ← hE]
  show ∃ y3 y4 y5 y6 y7 y8 y9 y10 y11 y12 y13 y14, gIf _ _ _ [L, .val (.int k), .val (.int c), .val (.int d), .val (.int m), .val (.lst (on.map .int)), .val (.lst (fr.map .int)), .val (Say cl m on fr), .val (nats (offs m (on ++ fr))), .val (txs l2), u10, u11, u12, u13, .val x, .no, .no] = _
  have t9 : fTest (fBin dNe (fCall0 (g_law_caught cl) (fCons (fVar 7) (fCons (fVar 14) fNil))) (fC (.str [116, 101, 114, 109, 32]))) [L, .val (.int k), .val (.int c), .val (.int d), .val (.int m), .val (.lst (on.map .int)), .val (.lst (fr.map .int)), .val (Say cl m on fr), .val (nats (offs m (on ++ fr))), .val (txs l2), u10, u11, u12, u13, .val x, .no, .no] = .ok false :=
    test_o (bin_o (call_o (rs := [.val (Say cl m on fr), .val x]) rfl (caught_x K (grown_bad hx))) rfl (by rw [ne_txt (by decide) (by decide)]; rfl))
  exact ⟨_, _, _, _, _, _, _, _, _, _, _, _, if_f t9⟩
theorem law_eq (K : KnT cl) (ns : List Int) (hn : ns.length ≤ 1000) : g_law cl [.lst (ns.map .int)] = .ok (.val (.bl true)) := by
  show run0 17 (b_law cl) [.lst (ns.map .int)] = _
  refine run0_rt (e := [.brw (.lst (ns.map .int)), .no, .no, .no, .no, .no, .no, .no, .no, .no, .no, .no, .no, .no, .no, .no, .no]) rfl ?_
  unfold b_law
  obtain ⟨e2, h2, _⟩ := forL_en (t := .tp [1, 2]) (body := lawBody cl) (I := fun es => ∃ L x1 x2 x3 x4 x5 x6 x7 x8 x9 x10 x11 x12 x13 x14, es = [L, x1, x2, x3, x4, x5, x6, x7, x8, x9, x10, x11, x12, x13, x14, .no, .no]) (fun k c es ⟨L, x1, x2, x3, x4, x5, x6, x7, x8, x9, x10, x11, x12, x13, x14, h⟩ => by
    subst h
    obtain ⟨y3, y4, y5, y6, y7, y8, y9, y10, y11, y12, y13, y14, e⟩ := law_body K (L := L) (k := k) (c := c) (x3 := x3) (x4 := x4) (x5 := x5) (x6 := x6) (x7 := x7) (x8 := x8) (x9 := x9) (x10 := x10) (x11 := x11) (x12 := x12) (x13 := x13) (x14 := x14)
    exact ⟨_, rfl, _, e, _, _, _, _, _, _, _, _, _, _, _, _, _, _, _, rfl⟩) (ns ++ [0]) 0 [.brw (.lst (ns.map .int)), .no, .no, .no, .no, .no, .no, .no, .no, .no, .no, .no, .no, .no, .no, .no, .no] ⟨_, _, _, _, _, _, _, _, _, _, _, _, _, _, _, rfl⟩
  show gSeq (gFor (fEnum true (fCons (fBin dAdd (fVar 0) (fLst (fCons (fC (.int 0)) fNil))) fNil)) (.tp [1, 2]) (lawBody cl)) _ _ = _
  rw [seq_n ((for_o (cells_o hn rfl)).trans h2)]
  rfl
end K04
namespace K05
open PySem PySem.Spec PyProof.Rows L2 Fw
def topS (i : Nat) : Stmt := PySem.Challenge.pw_fewterms_k05_tellings.main.body.getD i (.Pass ⟨0, 0, 0, 0⟩)
abbrev s_all_settings : Stmt := topS 11
abbrev N_all_settings : List Str := ["many"]
abbrev P_all_settings : List Str := ["many"]
theorem sc_all_settings : FnScope N_all_settings P_all_settings (defScope s_all_settings) := ⟨rfl, rfl, rfl, by decide +kernel, rfl, by decide +kernel, by decide +kernel⟩
abbrev s_is_count : Stmt := topS 9
abbrev N_is_count : List Str := ["thing"]
abbrev P_is_count : List Str := ["thing"]
theorem sc_is_count : FnScope N_is_count P_is_count (defScope s_is_count) := ⟨rfl, rfl, rfl, by decide +kernel, rfl, by decide +kernel, by decide +kernel⟩
abbrev s_is_setting : Stmt := topS 10
abbrev N_is_setting : List Str := ["thing", "many"]
abbrev P_is_setting : List Str := ["thing", "many"]
theorem sc_is_setting : FnScope N_is_setting P_is_setting (defScope s_is_setting) := ⟨rfl, rfl, rfl, by decide +kernel, rfl, by decide +kernel, by decide +kernel⟩
abbrev s_rising_settings : Stmt := topS 26
abbrev N_rising_settings : List Str := ["rows", "many", "row"]
abbrev P_rising_settings : List Str := ["rows", "many"]
theorem sc_rising_settings : FnScope N_rising_settings P_rising_settings (defScope s_rising_settings) := ⟨rfl, rfl, rfl, by decide +kernel, rfl, by decide +kernel, by decide +kernel⟩
abbrev s_Saying___init : Stmt := (clsB (topS 27)).getD 0 (.Pass ⟨0, 0, 0, 0⟩)
abbrev N_Saying___init : List Str := ["self", "many", "on", "free", "told", "setting"]
abbrev P_Saying___init : List Str := ["self", "many", "on", "free"]
theorem sc_Saying___init : FnScope N_Saying___init P_Saying___init (defScope s_Saying___init) := ⟨rfl, rfl, rfl, by decide +kernel, rfl, by decide +kernel, by decide +kernel⟩
abbrev s_law_word : Stmt := topS 35
abbrev N_law_word : List Str := ["_law_caught_here", "_law_found"]
abbrev P_law_word : List Str := ["_law_caught_here"]
theorem sc_law_word : FnScope N_law_word P_law_word (defScope s_law_word) := ⟨rfl, rfl, rfl, by decide +kernel, rfl, by decide +kernel, by decide +kernel⟩
abbrev s_Saying_on : Stmt := (clsB (topS 27)).getD 2 (.Pass ⟨0, 0, 0, 0⟩)
abbrev N_Saying_on : List Str := ["self"]
abbrev P_Saying_on : List Str := ["self"]
theorem sc_Saying_on : FnScope N_Saying_on P_Saying_on (defScope s_Saying_on) := ⟨rfl, rfl, rfl, by decide +kernel, rfl, by decide +kernel, by decide +kernel⟩
abbrev s_is_lit : Stmt := topS 12
abbrev N_is_lit : List Str := ["setting", "lamp"]
abbrev P_is_lit : List Str := ["setting", "lamp"]
theorem sc_is_lit : FnScope N_is_lit P_is_lit (defScope s_is_lit) := ⟨rfl, rfl, rfl, by decide +kernel, rfl, by decide +kernel, by decide +kernel⟩
abbrev s_sign_at : Stmt := topS 19
abbrev N_sign_at : List Str := ["setting", "lamp"]
abbrev P_sign_at : List Str := ["setting", "lamp"]
theorem sc_sign_at : FnScope N_sign_at P_sign_at (defScope s_sign_at) := ⟨rfl, rfl, rfl, by decide +kernel, rfl, by decide +kernel, by decide +kernel⟩
abbrev s_has : Stmt := topS 20
abbrev N_has : List Str := ["term", "setting", "lamp", "sign"]
abbrev P_has : List Str := ["term", "setting"]
theorem sc_has : FnScope N_has P_has (defScope s_has) := ⟨rfl, rfl, rfl, by decide +kernel, rfl, by decide +kernel, by decide +kernel⟩
abbrev s_is_term : Stmt := topS 18
abbrev N_is_term : List Str := ["thing", "many"]
abbrev P_is_term : List Str := ["thing", "many"]
theorem sc_is_term : FnScope N_is_term P_is_term (defScope s_is_term) := ⟨rfl, rfl, rfl, by decide +kernel, rfl, by decide +kernel, by decide +kernel⟩
abbrev s_Saying_is_good : Stmt := (clsB (topS 27)).getD 5 (.Pass ⟨0, 0, 0, 0⟩)
abbrev N_Saying_is_good : List Str := ["self", "term", "setting"]
abbrev P_Saying_is_good : List Str := ["self", "term"]
theorem sc_Saying_is_good : FnScope N_Saying_is_good P_Saying_is_good (defScope s_Saying_is_good) := ⟨rfl, rfl, rfl, by decide +kernel, rfl, by decide +kernel, by decide +kernel⟩
abbrev s_Saying_many : Stmt := (clsB (topS 27)).getD 1 (.Pass ⟨0, 0, 0, 0⟩)
abbrev N_Saying_many : List Str := ["self"]
abbrev P_Saying_many : List Str := ["self"]
theorem sc_Saying_many : FnScope N_Saying_many P_Saying_many (defScope s_Saying_many) := ⟨rfl, rfl, rfl, by decide +kernel, rfl, by decide +kernel, by decide +kernel⟩
abbrev s_are_good_terms : Stmt := topS 22
abbrev N_are_good_terms : List Str := ["saying", "things", "thing"]
abbrev P_are_good_terms : List Str := ["saying", "things"]
theorem sc_are_good_terms : FnScope N_are_good_terms P_are_good_terms (defScope s_are_good_terms) := ⟨rfl, rfl, rfl, by decide +kernel, rfl, by decide +kernel, by decide +kernel⟩
abbrev s_is_telling : Stmt := topS 23
abbrev N_is_telling : List Str := ["saying", "thing", "left", "term", "setting"]
abbrev P_is_telling : List Str := ["saying", "thing"]
theorem sc_is_telling : FnScope N_is_telling P_is_telling (defScope s_is_telling) := ⟨rfl, rfl, rfl, by decide +kernel, rfl, by decide +kernel, by decide +kernel⟩
abbrev s_trimmed : Stmt := topS 24
abbrev N_trimmed : List Str := ["saying", "terms", "on", "term", "setting", "told", "times", "settings", "kept"]
abbrev P_trimmed : List Str := ["saying", "terms"]
theorem sc_trimmed : FnScope N_trimmed P_trimmed (defScope s_trimmed) := ⟨rfl, rfl, rfl, by decide +kernel, rfl, by decide +kernel, by decide +kernel⟩
abbrev s_law_caught : Stmt := topS 42
abbrev N_law_caught : List Str := ["_law_saying", "_law_terms_here", "_law_caught_here", "_law_found", "e"]
abbrev P_law_caught : List Str := ["_law_saying", "_law_terms_here"]
theorem sc_law_caught : FnScope N_law_caught P_law_caught (defScope s_law_caught) := ⟨rfl, rfl, rfl, by decide +kernel, rfl, by decide +kernel, by decide +kernel⟩
abbrev s_law_digits : Stmt := topS 41
abbrev N_law_digits : List Str := ["_law_cell", "_law_many", "_law_left", "_law_turn", "_law_found", "_law_term", "_law_lamp"]
abbrev P_law_digits : List Str := ["_law_cell", "_law_many"]
theorem sc_law_digits : FnScope N_law_digits P_law_digits (defScope s_law_digits) := ⟨rfl, rfl, rfl, by decide +kernel, rfl, by decide +kernel, by decide +kernel⟩
abbrev s_law_agrees : Stmt := topS 31
abbrev N_law_agrees : List Str := ["_law_term", "_law_one", "_law_lamp", "_law_sign"]
abbrev P_law_agrees : List Str := ["_law_term", "_law_one"]
theorem sc_law_agrees : FnScope N_law_agrees P_law_agrees (defScope s_law_agrees) := ⟨rfl, rfl, rfl, by decide +kernel, rfl, by decide +kernel, by decide +kernel⟩
abbrev s_law_all_on : Stmt := topS 36
abbrev N_law_all_on : List Str := ["_law_on", "_law_terms_here", "_law_one", "_law_term"]
abbrev P_law_all_on : List Str := ["_law_on", "_law_terms_here"]
theorem sc_law_all_on : FnScope N_law_all_on P_law_all_on (defScope s_law_all_on) := ⟨rfl, rfl, rfl, by decide +kernel, rfl, by decide +kernel, by decide +kernel⟩
abbrev s_law_due : Stmt := topS 38
abbrev N_law_due : List Str := ["_law_on", "_law_terms_here", "_law_left", "_law_at", "_law_turn", "_law_others"]
abbrev P_law_due : List Str := ["_law_on", "_law_terms_here"]
theorem sc_law_due : FnScope N_law_due P_law_due (defScope s_law_due) := ⟨rfl, rfl, rfl, by decide +kernel, rfl, by decide +kernel, by decide +kernel⟩
abbrev s_law_is_told : Stmt := topS 37
abbrev N_law_is_told : List Str := ["_law_many", "_law_on", "_law_off", "_law_terms_here", "_law_term", "_law_one"]
abbrev P_law_is_told : List Str := ["_law_many", "_law_on", "_law_off", "_law_terms_here"]
theorem sc_law_is_told : FnScope N_law_is_told P_law_is_told (defScope s_law_is_told) := ⟨rfl, rfl, rfl, by decide +kernel, rfl, by decide +kernel, by decide +kernel⟩
abbrev s_law_terms : Stmt := topS 33
abbrev N_law_terms : List Str := ["_law_many", "_law_found", "_law_lamp", "_law_term"]
abbrev P_law_terms : List Str := ["_law_many"]
theorem sc_law_terms : FnScope N_law_terms P_law_terms (defScope s_law_terms) := ⟨rfl, rfl, rfl, by decide +kernel, rfl, by decide +kernel, by decide +kernel⟩
abbrev s_law_ends : Stmt := topS 34
abbrev N_law_ends : List Str := ["_law_many", "_law_on", "_law_free", "_law_off", "_law_term", "_law_good", "_law_found", "_law_shorter", "_law_one", "_law_lamp"]
abbrev P_law_ends : List Str := ["_law_many", "_law_on", "_law_free"]
theorem sc_law_ends : FnScope N_law_ends P_law_ends (defScope s_law_ends) := ⟨rfl, rfl, rfl, by decide +kernel, rfl, by decide +kernel, by decide +kernel⟩
abbrev s_law_spread : Stmt := topS 30
abbrev N_law_spread : List Str := ["_law_cell", "_law_k"]
abbrev P_law_spread : List Str := ["_law_cell", "_law_k"]
theorem sc_law_spread : FnScope N_law_spread P_law_spread (defScope s_law_spread) := ⟨rfl, rfl, rfl, by decide +kernel, rfl, by decide +kernel, by decide +kernel⟩
abbrev s_law_mixed : Stmt := topS 39
abbrev N_law_mixed : List Str := ["_law_terms_here", "_law_draw_here", "_law_left", "_law_found", "_law_turn"]
abbrev P_law_mixed : List Str := ["_law_terms_here", "_law_draw_here"]
theorem sc_law_mixed : FnScope N_law_mixed P_law_mixed (defScope s_law_mixed) := ⟨rfl, rfl, rfl, by decide +kernel, rfl, by decide +kernel, by decide +kernel⟩
abbrev s_law_list : Stmt := topS 40
abbrev N_law_list : List Str := ["_law_many", "_law_on", "_law_free", "_law_draw_here", "_law_settings", "_law_some", "_law_one", "_law_lamp"]
abbrev P_law_list : List Str := ["_law_many", "_law_on", "_law_free", "_law_draw_here"]
theorem sc_law_list : FnScope N_law_list P_law_list (defScope s_law_list) := ⟨rfl, rfl, rfl, by decide +kernel, rfl, by decide +kernel, by decide +kernel⟩
abbrev s_law_odd : Stmt := topS 43
abbrev N_law_odd : List Str := ["_law_some", "_law_many", "_law_draw_here", "_law_odd_here", "_law_at"]
abbrev P_law_odd : List Str := ["_law_some", "_law_many", "_law_draw_here"]
theorem sc_law_odd : FnScope N_law_odd P_law_odd (defScope s_law_odd) := ⟨rfl, rfl, rfl, by decide +kernel, rfl, by decide +kernel, by decide +kernel⟩
abbrev s_law_rows : Stmt := topS 32
abbrev N_law_rows : List Str := ["_law_cell", "_law_k", "_law_most", "_law_draw_here", "_law_left", "_law_many", "_law_on", "_law_free", "_law_one", "_law_more", "_law_bits", "_law_least", "_law_last", "_law_sort", "_law_at", "_law_lamp"]
abbrev P_law_rows : List Str := ["_law_cell", "_law_k", "_law_most"]
theorem sc_law_rows : FnScope N_law_rows P_law_rows (defScope s_law_rows) := ⟨rfl, rfl, rfl, by decide +kernel, rfl, by decide +kernel, by decide +kernel⟩
abbrev s_law : Stmt := topS 44
abbrev N_law : List Str := ["_law_script", "_law_k", "_law_cell", "_law_draw_here", "_law_many", "_law_on", "_law_free", "_law_off", "_law_saying", "_law_some", "_law_good", "_law_handed", "_law_found", "_law_odd_here", "_law_one"]
abbrev P_law : List Str := ["_law_script"]
theorem sc_law : FnScope N_law P_law (defScope s_law) := ⟨rfl, rfl, rfl, by decide +kernel, rfl, by decide +kernel, by decide +kernel⟩
end K05
namespace K05
open PySem PySem.Spec PyProof.Rows L2 Fw
open K02 K03
noncomputable section
/- slots: 0 saying, 1 things, 2 thing -/
def b_are_good_terms (cl : Cl) : Fw.Env → Out := (gSeq (gFor (fIt true (fVar 1)) (.nm 2) (gIf (fOr (fNot (fTest (fCall0 (g_is_term cl) (fCons (fVar 2) (fCons (fMeth (cl.at_ "Saying") "many" (g_Saying_many cl) (fVar 0) fNil) fNil))))) (fNot (fTest (fMeth (cl.at_ "Saying") "is_good" (g_Saying_is_good cl) (fVar 0) (fCons (fVar 2) fNil))))) (gRet (fC (.bl false))) gNext))
    (gRet (fC (.bl true))))
def g_are_good_terms (cl : Cl) : List D → O R := runX 3 (b_are_good_terms cl)
/- slots: 0 saying, 1 thing, 2 left, 3 term, 4 setting -/
def b_is_telling (cl : Cl) : Fw.Env → Out := (gSeq (gIf (fOr (fTest (fBin dNis (fBi dType (fCons (fVar 1) fNil)) (fC (.ty "list")))) (fNot (fTest (fCall (g_are_good_terms cl) (fCons (fVar 0) (fCons (fVar 1) fNil)))))) (gRet (fC (.bl false))) gNext)
    (gSeq (gSet 2 true (fMeth (cl.at_ "Saying") "on" (g_Saying_on cl) (fVar 0) fNil))
    (gSeq (gFor (fIt true (fVar 1)) (.nm 3) (gSet 2 true (fLc (fIt false (fVar 2)) [4] (.nm 4) (fNot (fTest (fCall0 (g_has cl) (fCons (fVar 3) (fCons (fVar 4) fNil))))) (fVar 4))))
    (gRet (fBin dEq (fVar 2) (fLst fNil))))))
def g_is_telling (cl : Cl) : List D → O R := runX 5 (b_is_telling cl)
/- slots: 0 saying, 1 terms, 2 on, 3 term, 4 setting, 5 told, 6 times, 7 settings, 8 kept -/
def b_trimmed (cl : Cl) : Fw.Env → Out := (gSeq (gIf (fNot (fTest (fCall (g_is_telling cl) (fCons (fVar 0) (fCons (fVar 1) fNil))))) (gRaise (cl.at_ "BadTelling")) gNext)
    (gSeq (gSet 2 true (fMeth (cl.at_ "Saying") "on" (g_Saying_on cl) (fVar 0) fNil))
    (gSeq (gSet 5 true (fLc (fIt false (fVar 1)) [3] (.nm 3) fYes (fLc (fIt false (fVar 2)) [4] (.nm 4) (fTest (fCall0 (g_has cl) (fCons (fVar 3) (fCons (fVar 4) fNil)))) (fVar 4))))
    (gSeq (gDcD 6 (fIt false (fVar 2)) [4] (.nm 4) (fVar 4) (fC (.int 0)))
    (gSeq (gFor (fIt true (fVar 5)) (.nm 7) (gFor (fIt true (fVar 7)) (.nm 4) (gAugD 6 (fun a b => a + b) (fVar 4) (fC (.int 1)))))
    (gSeq (gSet 8 false (fLst fNil))
    (gSeq (gFor (fZip (fCons (fVar 1) (fCons (fVar 5) fNil))) (.tp [3, 7]) (gIf (fTest (fBi dAll (fCons (fLc (fIt false (fVar 7)) [4] (.nm 4) fYes (fBin dGt (fGetD 6 (fVar 4)) (fC (.int 1)))) fNil))) (gFor (fIt true (fVar 7)) (.nm 4) (gAugD 6 (fun a b => a - b) (fVar 4) (fC (.int 1)))) (gApp 8 (fVar 3))))
    (gRetV 8))))))))
def g_trimmed (cl : Cl) : List D → O R := runX 9 (b_trimmed cl)
/- slots: 0 _law_saying, 1 _law_terms_here, 2 _law_caught_here, 3 _law_found, 4 e -/
def b_law_caught (cl : Cl) : Fw.Env → Out := (gSeq (gSet 2 true (fC .non))
    (gSeq (gSet 3 false (fC .non))
    (gSeq (gTry (fun c => cl.ex c (cl.at_ "TermError")) 4 (gSet 3 false (fCall (g_trimmed cl) (fCons (fVar 0) (fCons (fVar 1) fNil)))) (gSet 2 true (fVar 4)))
    (gRetIf (fTest (fBin dIs (fVar 2) (fC .non))) 3 (fCall0 (g_law_word cl) (fCons (fVar 2) fNil))))))
def g_law_caught (cl : Cl) : List D → O R := run0 5 (b_law_caught cl)
/- slots: 0 _law_cell, 1 _law_many, 2 _law_left, 3 _law_turn, 4 _law_found, 5 _law_term, 6 _law_lamp -/
def b_law_digits (cl : Cl) : Fw.Env → Out := (gSeq (gSet 2 true (fBin dDiv (fVar 0) (fC (.int 8))))
    (gSeq (gFor (fRg1 (fCons (fBin dShl (fC (.int 1)) (fVar 1)) fNil)) (.nm 3) (gSet 2 true (fBin dDiv (fVar 2) (fC (.int 3)))))
    (gSeq (gSet 4 false (fLst fNil))
    (gSeq (gFor (fRg1 (fCons (fBin dMod (fBin dDiv (fVar 2) (fC (.int 32))) (fC (.int 7))) fNil)) (.nm 3) (gSeq (gSet 5 true (fC (.str [])))
    (gSeq (gFor (fRg1 (fCons (fVar 1) fNil)) (.nm 6) (gSeq (gSet 5 true (fBin dAdd (fVar 5) (fBin dIx (fC (.str [48, 49, 45])) (fBin dMod (fBin dDiv (fVar 2) (fC (.int 224))) (fC (.int 3))))))
    (gSet 2 true (fBin dDiv (fVar 2) (fC (.int 3))))))
    (gApp 4 (fVar 5)))))
    (gRetV 4)))))
def g_law_digits (cl : Cl) : List D → O R := run0 7 (b_law_digits cl)
/- slots: 0 _law_on, 1 _law_terms_here, 2 _law_one, 3 _law_term -/
def b_law_all_on (cl : Cl) : Fw.Env → Out := (gRet (fNotV (fBi dAny (fCons (fLc (fIt false (fVar 0)) [2] (.nm 2) fYes (fNotV (fBi dAny (fCons (fLc (fIt false (fVar 1)) [3] (.nm 3) fYes (fCall0 (g_law_agrees cl) (fCons (fVar 3) (fCons (fVar 2) fNil)))) fNil)))) fNil))))
def g_law_all_on (cl : Cl) : List D → O R := run0 4 (b_law_all_on cl)
/- slots: 0 _law_on, 1 _law_terms_here, 2 _law_left, 3 _law_at, 4 _law_turn, 5 _law_others -/
def b_law_due (cl : Cl) : Fw.Env → Out := (gSeq (gSet 2 true (fBi dList (fCons (fVar 1) fNil)))
    (gSeq (gSet 3 true (fC (.int 0)))
    (gSeq (gFor (fRg1 (fCons (fBi dLen (fCons (fVar 1) fNil)) fNil)) (.nm 4) (gSeq (gSet 5 true (fBin dAdd (fSl (fVar 2) fNoPart (fPart (fVar 3))) (fSl (fVar 2) (fPart (fBin dAdd (fVar 3) (fC (.int 1)))) fNoPart)))
    (gIf (fTest (fCall0 (g_law_all_on cl) (fCons (fVar 0) (fCons (fVar 5) fNil)))) (gSet 2 true (fVar 5)) (gSet 3 true (fBin dAdd (fVar 3) (fC (.int 1)))))))
    (gRetV 2))))
def g_law_due (cl : Cl) : List D → O R := run0 6 (b_law_due cl)
/- slots: 0 _law_many, 1 _law_on, 2 _law_off, 3 _law_terms_here, 4 _law_term, 5 _law_one -/
def b_law_is_told (cl : Cl) : Fw.Env → Out := (gSeq (gFor (fIt true (fVar 3)) (.nm 4) (gIf (fTest (fBi dAny (fCons (fLc (fIt false (fVar 2)) [5] (.nm 5) fYes (fCall0 (g_law_agrees cl) (fCons (fVar 4) (fCons (fVar 5) fNil)))) fNil))) (gRet (fC (.bl false))) gNext))
    (gRet (fCall0 (g_law_all_on cl) (fCons (fVar 1) (fCons (fVar 3) fNil)))))
def g_law_is_told (cl : Cl) : List D → O R := run0 6 (b_law_is_told cl)
/- slots: 0 _law_terms_here, 1 _law_draw_here, 2 _law_left, 3 _law_found, 4 _law_turn -/
def b_law_mixed (cl : Cl) : Fw.Env → Out := (gSeq (gSet 2 false (fBi dList (fCons (fVar 0) fNil)))
    (gSeq (gSet 3 false (fLst fNil))
    (gSeq (gFor (fRg1 (fCons (fBi dLen (fCons (fVar 0) fNil)) fNil)) (.nm 4) (gAppPop 3 2 (fBin dMod (fCall0 (g_law_spread cl) (fCons (fVar 1) (fCons (fVar 4) fNil))) (fBi dLen (fCons (fVar 2) fNil)))))
    (gRetV 3))))
def g_law_mixed (cl : Cl) : List D → O R := run0 5 (b_law_mixed cl)
/- slots: 0 _law_many, 1 _law_on, 2 _law_free, 3 _law_draw_here, 4 _law_settings, 5 _law_some, 6 _law_one, 7 _law_lamp -/
def b_law_list (cl : Cl) : Fw.Env → Out := (gSeq (gSet 4 true (fLc (fIt false (fVar 1)) [6] (.nm 6) fYes (fM1 dJoin (fC (.str [])) (fLc (fRg1 (fCons (fVar 0) fNil)) [7] (.nm 7) fYes (fBin dIx (fC (.str [48, 49])) (fBin dAnd (fBin dShr (fVar 6) (fVar 7)) (fC (.int 1))))))))
    (gSeq (gSet 5 false (fCall0 (g_law_mixed cl) (fCons (fBin dAdd (fCall0 (g_law_ends cl) (fCons (fVar 0) (fCons (fVar 1) (fCons (fVar 2) fNil)))) (fBin dIx (fLst (fCons (fVar 4) (fCons (fLst fNil) (fCons (fSl (fVar 4) fNoPart (fPart (fC (.int 3)))) fNil)))) (fBin dMod (fVar 3) (fC (.int 3))))) (fCons (fVar 3) fNil))))
    (gSeq (gIf (fAnd (fTest (fBin dEq (fBin dMod (fBin dDiv (fVar 3) (fC (.int 3))) (fC (.int 4))) (fC (.int 1)))) (fTest (fBin dNe (fVar 5) (fLst fNil)))) (gApp 5 (fBin dIx (fVar 5) (fBin dMod (fBin dDiv (fVar 3) (fC (.int 12))) (fBi dLen (fCons (fVar 5) fNil))))) gNext)
    (gSeq (gIf (fTest (fBin dEq (fBin dMod (fBin dDiv (fVar 3) (fC (.int 3))) (fC (.int 4))) (fC (.int 2)))) (gSet 5 false (fSl (fVar 5) fNoPart (fPart (fNeg (fC (.int 1)))))) gNext)
    (gSeq (gIf (fTest (fBin dEq (fBin dMod (fBin dDiv (fVar 3) (fC (.int 3))) (fC (.int 4))) (fC (.int 3)))) (gSet 5 false (fBin dAdd (fVar 5) (fLst (fCons (fM1 dJoin (fC (.str [])) (fLc (fRg1 (fCons (fVar 0) fNil)) [7] (.nm 7) fYes (fBin dIx (fC (.str [48, 49, 45])) (fBin dMod (fBin dDiv (fCall0 (g_law_spread cl) (fCons (fVar 3) (fCons (fVar 7) fNil))) (fC (.int 9))) (fC (.int 3)))))) fNil)))) gNext)
    (gRetV 5))))))
def g_law_list (cl : Cl) : List D → O R := run0 8 (b_law_list cl)
/- slots: 0 _law_some, 1 _law_many, 2 _law_draw_here, 3 _law_odd_here, 4 _law_at -/
def b_law_odd (cl : Cl) : Fw.Env → Out := (gSeq (gSet 3 true (fBin dIx (fLst (fCons (fC .non) (fCons (fC (.int 5)) (fCons (fC (.bl true)) (fCons (fBin dMulA (fC (.str [48])) (fBin dAdd (fVar 1) (fC (.int 1)))) (fCons (fC (.str [])) (fCons (fLst (fCons (fC (.str [48])) fNil)) (fCons (fBin dMulA (fC (.str [120])) (fVar 1)) (fCons (fTup (fCons (fC (.str [45])) fNil)) fNil))))))))) (fBin dMod (fVar 2) (fC (.int 8)))))
    (gSeq (gSet 4 true (fBin dMod (fBin dDiv (fVar 2) (fC (.int 8))) (fBin dAdd (fBi dLen (fCons (fVar 0) fNil)) (fC (.int 1)))))
    (gRet (fBin dIx (fLst (fCons (fBin dAdd (fBin dAdd (fSl (fVar 0) fNoPart (fPart (fVar 4))) (fLst (fCons (fVar 3) fNil))) (fSl (fVar 0) (fPart (fVar 4)) fNoPart)) (fCons (fBi dTupOf (fCons (fVar 0) fNil)) (fCons (fC .non) (fCons (fBin dMulA (fC (.str [45])) (fVar 1)) (fCons (fC .emp) (fCons (fC (.int 5)) fNil))))))) (fBin dMod (fBin dDiv (fVar 2) (fC (.int 300))) (fC (.int 6)))))))
def g_law_odd (cl : Cl) : List D → O R := run0 5 (b_law_odd cl)
/- slots: 0 _law_script, 1 _law_k, 2 _law_cell, 3 _law_draw_here, 4 _law_many, 5 _law_on, 6 _law_free, 7 _law_off, 8 _law_saying, 9 _law_some, 10 _law_good, 11 _law_handed, 12 _law_found, 13 _law_odd_here, 14 _law_one -/
def b_law (cl : Cl) : Fw.Env → Out := (gSeq (gFor (fEnum true (fCons (fBin dAdd (fVar 0) (fLst (fCons (fC (.int 0)) fNil))) fNil)) (.tp [1, 2]) (gSeq (gSet 3 true (fCall0 (g_law_spread cl) (fCons (fVar 2) (fCons (fBin dMod (fVar 1) (fC (.int 60))) fNil))))
    (gSeq (gAsg (.tp [4, 5, 6]) (fCall0 (g_law_rows cl) (fCons (fVar 2) (fCons (fBin dMod (fVar 1) (fC (.int 60))) (fCons (fC (.int 4)) fNil)))))
    (gSeq (gSet 7 true (fLc (fRg1 (fCons (fBin dShl (fC (.int 1)) (fVar 4)) fNil)) [14] (.nm 14) (fAnd (fTest (fBin dNin (fVar 14) (fVar 5))) (fTest (fBin dNin (fVar 14) (fVar 6)))) (fVar 14)))
    (gSeq (gSet 8 true (fMake (mk_Saying cl) [] (fCons (fVar 4) (fCons (fVar 5) (fCons (fVar 6) fNil)))))
    (gSeq (gSet 9 true (fIf (fAnd (fTest (fBin dEq (fBin dMod (fVar 2) (fC (.int 2))) (fC (.int 1)))) (fTest (fBin dEq (fBin dMod (fVar 3) (fC (.int 2))) (fC (.int 1))))) (fCall0 (g_law_digits cl) (fCons (fVar 2) (fCons (fVar 4) fNil))) (fCall0 (g_law_list cl) (fCons (fVar 4) (fCons (fVar 5) (fCons (fVar 6) (fCons (fBin dDiv (fVar 3) (fC (.int 7))) fNil)))))))
    (gSeq (gSet 10 true (fCall0 (g_law_is_told cl) (fCons (fVar 4) (fCons (fVar 5) (fCons (fVar 7) (fCons (fVar 9) fNil))))))
    (gSeq (gSet 11 true (fBi dList (fCons (fVar 9) fNil)))
    (gSeq (gIf (fOr (fTest (fBin dNe (fCall (g_is_telling cl) (fCons (fVar 8) (fCons (fVar 11) fNil))) (fVar 10))) (fNot (fTest (fBi (dIsX cl) (fCons (fCall (g_is_telling cl) (fCons (fVar 8) (fCons (fVar 11) fNil))) (fCons (fC (.ty "bool")) fNil)))))) (gRet (fC (.bl false))) gNext)
    (gSeq (gSet 12 false (fCall0 (g_law_caught cl) (fCons (fVar 8) (fCons (fVar 11) fNil))))
    (gSeq (gIf (fTest (fBin dNe (fVar 12) (fIf (fTest (fVar 10)) (fCall0 (g_law_due cl) (fCons (fVar 5) (fCons (fVar 9) fNil))) (fC (.str [116, 101, 108, 108, 105, 110, 103, 32]))))) (gRet (fC (.bl false))) gNext)
    (gSeq (gIf (fTest (fVar 10)) (gApp 12 (fC .non)) gNext)
    (gSeq (gIf (fTest (fBin dNe (fVar 11) (fVar 9))) (gRet (fC (.bl false))) gNext)
    (gSeq (gSet 13 true (fCall0 (g_law_odd cl) (fCons (fVar 9) (fCons (fVar 4) (fCons (fBin dDiv (fVar 3) (fC (.int 11))) fNil)))))
    (gIf (fOr (fTest (fBin dNis (fCall (g_is_telling cl) (fCons (fVar 8) (fCons (fVar 13) fNil))) (fC (.bl false)))) (fTest (fBin dNe (fCall0 (g_law_caught cl) (fCons (fVar 8) (fCons (fVar 13) fNil))) (fC (.str [116, 101, 108, 108, 105, 110, 103, 32]))))) (gRet (fC (.bl false))) gNext)))))))))))))))
    (gRet (fC (.bl true))))
def g_law (cl : Cl) : List D → O R := run0 15 (b_law cl)
end
end K05
namespace K05
open PySem PySem.Spec PyProof.Rows L2 Fw K02 K03 Mt
variable {cl : Cl}
abbrev nats (l : List Nat) : D := .lst (l.map fun i => .int (i : Nat))
abbrev zs (l : List Nat) : List Int := l.map fun i => ((i : Nat) : Int)
theorem zs_int (l : List Nat) : (zs l).map D.int = l.map fun i => .int (i : Nat) := by
  rw [List.map_map]; rfl
/-- at a bad item, or earlier, the loop ends with v -/
theorem for_bad {α : Type} {t : Tg} {body : Fw.Env → Out} {r : α → R} {v : R} (I : Fw.Env → Prop) (p : α → Bool) (hb : ∀ a es, I es → ∃ e1, stTg t (r a) es = some e1 ∧ (p a = true → ∃ e2, body e1 = .nx e2 ∧ I e2) ∧ (p a = false → body e1 = .rt v))
    {x : R} (hx : ∀ es, I es → ∃ e1, stTg t x es = some e1 ∧ body e1 = .rt v) (ys : List R) : ∀ (A : List α) (es : Fw.Env), I es → forL t body (A.map r ++ x :: ys) es = .rt v
  | [], es, h => by
    obtain ⟨e1, h1, h2⟩ := hx es h
    show forL t body (x :: ys) es = _
    simp only [forL, h1, h2]
  | a :: A, es, h => by
    obtain ⟨e1, h1, h2, h3⟩ := hb a es h
    rw [List.map_cons, List.cons_append]
    simp only [forL, h1]
    cases hp : p a with
    | false => rw [h3 hp]
    | true =>
      obtain ⟨e2, h4, h5⟩ := h2 hp
      rw [h4]
      exact for_bad I p hb hx ys A e2 h5
theorem term_ok {m : Nat} {s : List Nat} (hs : Tm m s) (m1 : m ≤ 5) : g_is_term cl [.str s, .int m] = .ok (.val (.bl true)) := by
  rw [term_str (by rw [hs.1]; omega), decide_eq_true hs.1, all_pb hs.2]; rfl
noncomputable def agBody (cl : Cl) : Fw.Env → Out := gIf (fOr (fNot (fTest (fCall0 (g_is_term cl) (fCons (fVar 2) (fCons (fMeth (cl.at_ "Saying") "many" (g_Saying_many cl) (fVar 0) fNil) fNil))))) (fNot (fTest (fMeth (cl.at_ "Saying") "is_good" (g_Saying_is_good cl) (fVar 0) (fCons (fVar 2) fNil))))) (gRet (fC (.bl false))) gNext
theorem ag_step {m : Nat} (m1 : m ≤ 5) {on fr : List Int} {t : List Nat} (ht : Tm m t) (L : Sl) : agBody cl [.brw (sayD cl m on fr), L, .val (.str t)] = if clean (offs m (on ++ fr)) t = true then .nx [.brw (sayD cl m on fr), L, .val (.str t)] else .rt (.val (.bl false)) := by
  have hm : fMeth (cl.at_ "Saying") "many" (g_Saying_many cl) (fVar 0) fNil [.brw (sayD cl m on fr), L, .val (.str t)] = .ok (.val (.int m)) := meth_v (r := .brw (sayD cl m on fr)) rfl rfl (by decide) (many_eq m on fr)
  have h1 := meth_good (cl := cl) (on := on) (fr := fr) ht m1 (fo := fVar 0) (fa := fVar 2) (es := [.brw (sayD cl m on fr), L, .val (.str t)]) (r := .brw (sayD cl m on fr)) rfl rfl rfl
  have h2 : fNot (fTest (fCall0 (g_is_term cl) (fCons (fVar 2) (fCons (fMeth (cl.at_ "Saying") "many" (g_Saying_many cl) (fVar 0) fNil) fNil)))) [.brw (sayD cl m on fr), L, .val (.str t)] = .ok false := not_o (k := true) (test_o (call_o (cons_o rfl (cons_o hm nil_o)) (term_ok ht m1)))
  unfold agBody
  rw [if_o ((or_f h2).trans (not_o (test_o h1)))]
  cases clean (offs m (on ++ fr)) t <;> rfl
theorem ag_bad {m : Nat} {on fr : List Int} {x : D} (hx : g_is_term cl [x, .int m] = .ok (.val (.bl false))) {s : Sl} (hs : ∀ L, fVar 2 [.brw (sayD cl m on fr), L, s] = .ok (nrm x)) (L : Sl) : agBody cl [.brw (sayD cl m on fr), L, s] = .rt (.val (.bl false)) := by
  have hm : fMeth (cl.at_ "Saying") "many" (g_Saying_many cl) (fVar 0) fNil [.brw (sayD cl m on fr), L, s] = .ok (.val (.int m)) := meth_v (r := .brw (sayD cl m on fr)) rfl rfl (by decide) (many_eq m on fr)
  have ha : fCons (fVar 2) (fCons (fMeth (cl.at_ "Saying") "many" (g_Saying_many cl) (fVar 0) fNil) fNil) [.brw (sayD cl m on fr), L, s] = .ok [nrm x, .val (.int m)] := by
    unfold fCons
    rw [hs L, O.bind_ok, hm, O.bind_ok, nil_o, O.bind_ok, O.bind_ok, nrm_fz]; rfl
  have hc : fCall0 (g_is_term cl) (fCons (fVar 2) (fCons (fMeth (cl.at_ "Saying") "many" (g_Saying_many cl) (fVar 0) fNil) fNil)) [.brw (sayD cl m on fr), L, s] = .ok (.val (.bl false)) := call_o ha (by
    show g_is_term cl [(nrm x).dat, .int m] = _
    rw [nrm_dat]; exact hx)
  unfold agBody
  rw [if_t (or_t (not_o (k := false) (test_o hc)))]; rfl
theorem nrm_slot (x : D) : ∃ s, (nrm x).slot = some s ∧ ∀ a b : Sl, fVar 2 [a, b, s] = .ok (nrm x) := by
  unfold nrm
  cases h : flat x with
  | true => exact ⟨.val x, rfl, fun _ _ => rfl⟩
  | false =>
    refine ⟨.brw x, rfl, fun _ _ => ?_⟩
    show O.ok (nrm x) = _
    unfold nrm; rw [h]
theorem are_good_eq {m : Nat} (m1 : m ≤ 5) {on fr : List Int} {ts : List (List Nat)} (ht : ∀ t ∈ ts, Tm m t) : g_are_good_terms cl [sayD cl m on fr, txs ts] = .ok (.val (.bl (ts.all (clean (offs m (on ++ fr)))))) := by
  show runX 3 (b_are_good_terms cl) [sayD cl m on fr, txs ts] = _
  have hsrc : fIt true (fVar 1) [.brw (sayD cl m on fr), .brw (txs ts), .no] = .ok (ts.map fun t => .val (.str t)) := by
    show O.of (some ((ts.map D.str).map nrm)) = _
    rw [List.map_map]; rfl
  have hl := for_all (t := .nm 2) (body := agBody cl) (r := fun t : {t // t ∈ ts} => .val (.str t.1)) (v := .val (.bl false)) (fun es => ∃ z, es = [.brw (sayD cl m on fr), .brw (txs ts), z]) (fun t => clean (offs m (on ++ fr)) t.1) (fun t es ⟨z, he⟩ => by
    subst he
    refine ⟨_, rfl, fun h => ?_, fun h => ?_⟩
    · refine ⟨_, ?_, .val (.str t.1), rfl⟩
      show agBody cl [_, _, .val (.str t.1)] = _
      rw [ag_step m1 (ht t.1 t.2), if_pos h]
    · show agBody cl [_, _, .val (.str t.1)] = _
      rw [ag_step m1 (ht t.1 t.2), if_neg (by rw [h]; exact Bool.false_ne_true)]) ts.attach [.brw (sayD cl m on fr), .brw (txs ts), .no] ⟨_, rfl⟩
  have e1 : ts.attach.map (fun t : {t // t ∈ ts} => R.val (.str t.1)) = ts.map fun t => .val (.str t) := by
    rw [← List.attach_map_val (l := ts) (f := fun t => R.val (.str t))]
  have e2 : ts.attach.all (fun t => clean (offs m (on ++ fr)) t.1) = ts.all (clean (offs m (on ++ fr))) := by
    rw [Bool.eq_iff_iff, List.all_eq_true, List.all_eq_true]
    exact ⟨fun h t ht => h ⟨t, ht⟩ (List.mem_attach _ _), fun h t _ => h t.1 t.2⟩
  rw [e1, e2] at hl
  refine runX_rt (e := [.brw (sayD cl m on fr), .brw (txs ts), .no]) rfl ?_
  show gSeq (gFor (fIt true (fVar 1)) (.nm 2) (agBody cl)) (gRet (fC (.bl true))) _ = _
  cases hc : ts.all (clean (offs m (on ++ fr))) with
  | true =>
    obtain ⟨e2, h1, z, rfl⟩ := hl.1 hc
    rw [seq_n ((for_o hsrc).trans h1)]; rfl
  | false => exact seq_r ((for_o hsrc).trans (hl.2 hc))
theorem are_good_bad {m : Nat} (m1 : m ≤ 5) {on fr : List Int} {A : List (List Nat)} (hA : ∀ t ∈ A, Tm m t) {x : D} (hx : g_is_term cl [x, .int m] = .ok (.val (.bl false))) (B : List D) : g_are_good_terms cl [sayD cl m on fr, .lst (A.map .str ++ x :: B)] = .ok (.val (.bl false)) := by
  show runX 3 (b_are_good_terms cl) [sayD cl m on fr, .lst (A.map .str ++ x :: B)] = _
  have e1 : A.attach.map (fun t : {t // t ∈ A} => R.val (.str t.1)) = A.map fun t => .val (.str t) := by
    rw [← List.attach_map_val (l := A) (f := fun t => R.val (.str t))]
  have hsrc : fIt true (fVar 1) [.brw (sayD cl m on fr), .brw (.lst (A.map .str ++ x :: B)), .no] = .ok (A.attach.map (fun t : {t // t ∈ A} => R.val (.str t.1)) ++ nrm x :: B.map nrm) := by
    show O.of (some ((A.map D.str ++ x :: B).map nrm)) = _
    rw [List.map_append, List.map_map, List.map_cons, e1]; rfl
  obtain ⟨sx, hs1, hs2⟩ := nrm_slot x
  have hl := for_bad (t := .nm 2) (body := agBody cl) (r := fun t : {t // t ∈ A} => .val (.str t.1)) (v := .val (.bl false)) (fun es => ∃ z, es = [.brw (sayD cl m on fr), .brw (.lst (A.map .str ++ x :: B)), z]) (fun t => clean (offs m (on ++ fr)) t.1) (fun t es ⟨z, he⟩ => by
    subst he
    refine ⟨_, rfl, fun h => ?_, fun h => ?_⟩
    · refine ⟨_, ?_, .val (.str t.1), rfl⟩
      show agBody cl [_, _, .val (.str t.1)] = _
      rw [ag_step m1 (hA t.1 t.2), if_pos h]
    · show agBody cl [_, _, .val (.str t.1)] = _
      rw [ag_step m1 (hA t.1 t.2), if_neg (by rw [h]; exact Bool.false_ne_true)]) (x := nrm x) (fun es ⟨z, he⟩ => by
    subst he
    refine ⟨[.brw (sayD cl m on fr), .brw (.lst (A.map .str ++ x :: B)), sx], ?_, ag_bad hx (fun L => hs2 _ L) _⟩
    show (nrm x).slot.map (fun s => [.brw (sayD cl m on fr), .brw (.lst (A.map .str ++ x :: B)), s]) = _
    rw [hs1]; rfl) (B.map nrm) A.attach [.brw (sayD cl m on fr), .brw (.lst (A.map .str ++ x :: B)), .no] ⟨_, rfl⟩
  refine runX_rt (e := [.brw (sayD cl m on fr), .brw (.lst (A.map .str ++ x :: B)), .no]) rfl ?_
  show gSeq (gFor (fIt true (fVar 1)) (.nm 2) (agBody cl)) (gRet (fC (.bl true))) _ = _
  exact seq_r ((for_o hsrc).trans hl)
/-! ### is_telling -/
theorem ty_list (l : List D) (a : Sl) (r : Fw.Env) : fTest (fBin dNis (fBi dType (fCons (fVar 1) fNil)) (fC (.ty "list"))) (a :: .brw (.lst l) :: r) = .ok false := rfl
theorem ty_off {x : D} {n : String} (e : tyD2 x = some n) (hn : n ≠ "list") (a : Sl) (r : Fw.Env) : fTest (fBin dNis (fBi dType (fCons (fVar 1) fNil)) (fC (.ty "list"))) (a :: slotD x :: r) = .ok true := by
  refine test_o (bin_o (ty_n (slot_nrm rfl) e) rfl ?_)
  rw [nis_ty2, decide_eq_false hn]; rfl
theorem telling_off {m : Nat} {on fr : List Int} {x : D} {n : String} (e : tyD2 x = some n) (hn : n ≠ "list") : g_is_telling cl [sayD cl m on fr, x] = .ok (.val (.bl false)) := by
  show runX 5 (b_is_telling cl) [sayD cl m on fr, x] = _
  refine runX_rt (e := [.brw (sayD cl m on fr), slotD x, .no, .no, .no]) rfl ?_
  unfold b_is_telling
  exact seq_r ((if_t (or_t (ty_off e hn _ _))).trans (ret_v rfl))
theorem telling_bad {m : Nat} {on fr : List Int} {l : List D} (h : g_are_good_terms cl [sayD cl m on fr, .lst l] = .ok (.val (.bl false))) : g_is_telling cl [sayD cl m on fr, .lst l] = .ok (.val (.bl false)) := by
  show runX 5 (b_is_telling cl) [sayD cl m on fr, .lst l] = _
  refine runX_rt (e := [.brw (sayD cl m on fr), .brw (.lst l), .no, .no, .no]) rfl ?_
  unfold b_is_telling
  have hc : fCall (g_are_good_terms cl) (fCons (fVar 0) (fCons (fVar 1) fNil)) [.brw (sayD cl m on fr), .brw (.lst l), .no, .no, .no] = .ok (.val (.bl false)) := call_val (rs := [.brw (sayD cl m on fr), .brw (.lst l)]) rfl h
  exact seq_r ((if_t ((or_f (ty_list _ _ _)).trans (not_o (k := false) (test_o hc)))).trans (ret_v rfl))
theorem deqL_nil (l : List D) : deqL l [] = l.isEmpty := by cases l <;> rfl
theorem telling_eq {m : Nat} (m1 : m ≤ 5) {N : List Nat} {fr : List Int} (hN : N.length ≤ 32) {ts : List (List Nat)} (ht : ∀ t ∈ ts, Tm m t) : g_is_telling cl [sayD cl m (zs N) fr, txs ts] = .ok (.val (.bl (ts.all (clean (offs m (zs N ++ fr))) && told N ts))) := by
  cases hg : ts.all (clean (offs m (zs N ++ fr))) with
  | false => rw [Bool.false_and]; exact telling_bad (by rw [are_good_eq m1 ht, hg])
  | true =>
    rw [Bool.true_and]
    show runX 5 (b_is_telling cl) [sayD cl m (zs N) fr, txs ts] = _
    refine runX_rt (e := [.brw (sayD cl m (zs N) fr), .brw (txs ts), .no, .no, .no]) rfl ?_
    unfold b_is_telling
    have hc : fCall (g_are_good_terms cl) (fCons (fVar 0) (fCons (fVar 1) fNil)) [.brw (sayD cl m (zs N) fr), .brw (txs ts), .no, .no, .no] = .ok (.val (.bl true)) := call_val (rs := [.brw (sayD cl m (zs N) fr), .brw (txs ts)]) rfl (by
      show g_are_good_terms cl [sayD cl m (zs N) fr, txs ts] = _
      rw [are_good_eq m1 ht, hg])
    rw [seq_n (if_f ((or_f (ty_list _ _ _)).trans (not_o (k := true) (test_o hc))))]
    have ho : fMeth (cl.at_ "Saying") "on" (g_Saying_on cl) (fVar 0) fNil [.brw (sayD cl m (zs N) fr), .brw (txs ts), .no, .no, .no] = .ok (.new (N.map fun i => .int (i : Nat))) := by
      rw [← zs_int]
      exact meth_n (r := .brw (sayD cl m (zs N) fr)) rfl rfl (by decide) (on_eq m (zs N) fr)
    rw [seq_n (set_n ho)]
    show gSeq _ _ [.brw (sayD cl m (zs N) fr), .brw (txs ts), .val (nats N), .no, .no] = _
    have hsrc : fIt true (fVar 1) [.brw (sayD cl m (zs N) fr), .brw (txs ts), .val (nats N), .no, .no] = .ok (ts.map fun t => .val (.str t)) := by
      show O.of (some ((ts.map D.str).map nrm)) = _
      rw [List.map_map]; rfl
    have e1 : ts.attach.map (fun t : {t // t ∈ ts} => R.val (.str t.1)) = ts.map fun t => .val (.str t) := by
      rw [← List.attach_map_val (l := ts) (f := fun t => R.val (.str t))]
    obtain ⟨e2, h2, l, z3, z4, rfl, hl, hll⟩ := for_inv (t := .nm 3) (body := (gSet 2 true (fLc (fIt false (fVar 2)) [4] (.nm 4) (fNot (fTest (fCall0 (g_has cl) (fCons (fVar 3) (fCons (fVar 4) fNil))))) (fVar 4)))) (r := fun t : {t // t ∈ ts} => .val (.str t.1))
      (fun rest es => ∃ l z3 z4, es = [.brw (sayD cl m (zs N) fr), .brw (txs ts), .val (nats l), z3, z4] ∧ (l.filter fun n => !(rest.any fun t => agB n 0 t.1)) = (N.filter fun n => !(ts.any fun t => agB n 0 t)) ∧ l.length ≤ 32) (fun t rest es ⟨l, z3, z4, he, hl, hll⟩ => by
        subst he
        refine ⟨[.brw (sayD cl m (zs N) fr), .brw (txs ts), .val (nats l), .val (.str t.1), z4], rfl, ?_⟩
        have h := lc_map (src := fIt false (fVar 2)) (vs := [4]) (t := .nm 4) (cond := (fNot (fTest (fCall0 (g_has cl) (fCons (fVar 3) (fCons (fVar 4) fNil)))))) (elt := fVar 4) (es := [.brw (sayD cl m (zs N) fr), .brw (txs ts), .val (nats l), .val (.str t.1), z4]) (r := fun i => .val (.int (i : Nat))) (xs := l) (fun n => !agB n 0 t.1) (fun n => .int (n : Nat)) (it_nats rfl) (by omega) (fun n hn => ⟨[.brw (sayD cl m (zs N) fr), .brw (txs ts), .val (nats l), .val (.str t.1), .val (.int n)], rfl, not_o (test_o (call_o (rs := [.val (.str t.1), .val (.int n)]) rfl (has_eq t.1 (ht t.1 t.2).2 n))), fun _ => ⟨_, rfl, rfl⟩⟩)
        refine ⟨_, set_n h, _, _, _, rfl, ?_, Nat.le_trans (List.length_filter_le _ _) hll⟩
        rw [← hl, List.filter_filter]
        congr 1
        funext n
        rw [List.any_cons, Bool.not_or, Bool.and_comm]) ts.attach [.brw (sayD cl m (zs N) fr), .brw (txs ts), .val (nats N), .no, .no] ⟨N, _, _, rfl, by
          congr 1
          funext n
          congr 1
          rw [Bool.eq_iff_iff, List.any_eq_true, List.any_eq_true]
          exact ⟨fun ⟨t, _, h⟩ => ⟨t.1, t.2, h⟩, fun ⟨t, h1, h⟩ => ⟨⟨t, h1⟩, List.mem_attach _ _, h⟩⟩, hN⟩
    rw [e1] at h2
    rw [seq_n ((for_o hsrc).trans h2)]
    have e3 : (l.filter fun n => !(([] : List {t // t ∈ ts}).any fun t => agB n 0 t.1)) = l := List.filter_eq_self.mpr fun _ _ => rfl
    rw [e3] at hl
    have hb : dEq (.val (nats l)) (.val (.lst [])) = some (.val (.bl (told N ts))) := by
      show (if shp 60 (nats l) && shp 60 (.lst []) then some (R.val (.bl (deq (nats l) (.lst [])))) else none) = _
      have s1 : shp 60 (nats l) = true := shp_nats 59 l
      have s2 : shp 60 (.lst []) = true := rfl
      rw [s1, s2]
      show some (R.val (.bl (deqL (l.map fun i => D.int (i : Nat)) []))) = _
      rw [deqL_nil, hl]
      have : ((N.filter fun n => !(ts.any fun t => agB n 0 t)).map fun i => D.int (i : Nat)).isEmpty = told N ts := by
        rw [Bool.eq_iff_iff, List.isEmpty_iff, List.map_eq_nil_iff, List.filter_eq_nil_iff]
        unfold told
        rw [List.all_eq_true]
        exact ⟨fun h n hn => by simpa using h n hn, fun h n hn => by simpa using h n hn⟩
      rw [this]
    exact ret_v (bin_g rfl rfl hb)
end K05
namespace K05
open PySem PySem.Spec PyProof.Rows L2 Fw K02 K03 Mt
variable {cl : Cl}
theorem aug_o {f : Int → Int → Int} {N : List Nat} {c : Nat → Int} {ks : List DK} {ds : List D} {n : Nat} (h : Cts N c ks ds) (hN : N.length ≤ 32) (hn : n ∈ N) {a0 a1 a2 a3 a5 a7 a8 : Sl} : gAugD 6 f (fVar 4) (fC (.int 1)) [a0, a1, a2, a3, .val (.int n), a5, .odc ks ds, a7, a8] = .nx [a0, a1, a2, a3, .val (.int n), a5, .odc (kPutK ks (.inl (n : Int))) (kPutD ks ds (.inl (n : Int)) (.int (f (c n) 1))), a7, a8] := by
  have h1 := h.at_ n hn
  have h2 := h.few
  show ((match kGet ks ds (.inl (n : Int)) with
    | some (.int a) => (if ks.length < 90000 then .nx [a0, a1, a2, a3, .val (.int n), a5, .odc (kPutK ks (.inl (n : Int))) (kPutD ks ds (.inl (n : Int)) (.int (f a 1))), a7, a8] else .no)
    | _ => .no) : Out) = _
  rw [h1]
  simp only
  rw [if_pos (by omega)]
theorem aug_loop {f : Int → Int → Int} {N : List Nat} (hN : N.length ≤ 32) {a0 a1 a2 a3 a5 a7 a8 : Sl} : ∀ (S : List Nat) (c : Nat → Int) (ks : List DK) (ds : List D) (x4 : Sl), (∀ n ∈ S, n ∈ N) → S.Nodup → Cts N c ks ds →
    ∃ ks' ds' y4, forL (.nm 4) (gAugD 6 f (fVar 4) (fC (.int 1))) (S.map fun n => .val (.int (n : Nat))) [a0, a1, a2, a3, x4, a5, .odc ks ds, a7, a8] = .nx [a0, a1, a2, a3, y4, a5, .odc ks' ds', a7, a8] ∧ Cts N (fun k => if k ∈ S then f (c k) 1 else c k) ks' ds'
  | [], c, ks, ds, x4, _, _, h => ⟨ks, ds, x4, rfl, h.cong fun n _ => by simp⟩
  | n :: S, c, ks, ds, x4, hs, hd, h => by
    have hn := hs n (by simp)
    rw [List.nodup_cons] at hd
    obtain ⟨ks', ds', y4, h1, h2⟩ := aug_loop hN S _ _ _ (.val (.int n)) (fun k hk => hs k (by simp [hk])) hd.2 (h.put hn (f (c n) 1))
    refine ⟨ks', ds', y4, ?_, h2.cong fun k _ => ?_⟩
    · rw [List.map_cons]
      show (match gAugD 6 f (fVar 4) (fC (.int 1)) [a0, a1, a2, a3, .val (.int n), a5, .odc ks ds, a7, a8] with
        | .nx e2 => forL (.nm 4) (gAugD 6 f (fVar 4) (fC (.int 1))) (S.map fun n => .val (.int (n : Nat))) e2
        | .ct e2 => forL (.nm 4) (gAugD 6 f (fVar 4) (fC (.int 1))) (S.map fun n => .val (.int (n : Nat))) e2
        | .br e2 => .nx e2
        | .rt r => .rt r
        | .exc es c fs => .exc es c fs
        | .no => .no) = _
      rw [aug_o h hN hn]
      exact h1
    · by_cases e : k = n
      · subst e
        rw [if_neg hd.1]; simp
      · by_cases e2 : k ∈ S <;> simp [e, e2]
/-- the dict of noughts -/
theorem dc_zero (N : List Nat) {es : Fw.Env} (h4 : 4 < es.length) : ∀ (S : List Nat) (ks : List DK) (ds : List D), ks.length = ds.length →
    ∃ ks' ds', dcL (.nm 4) (fVar 4) (fC (.int 0)) es (S.map fun n => .val (.int (n : Nat))) ks ds = .ok (ks', ds') ∧ ks'.length = ds'.length ∧ ks'.length ≤ ks.length + S.length ∧ ∀ n : Nat, (n ∈ S ∨ kGet ks ds (.inl (n : Int)) = some (.int 0)) → kGet ks' ds' (.inl (n : Int)) = some (.int 0)
  | [], ks, ds, h => ⟨ks, ds, rfl, h, by simp, fun n hn => by simpa using hn⟩
  | n :: S, ks, ds, h => by
    obtain ⟨ks', ds', h1, h2, h3, h5⟩ := dc_zero N h4 S (kPutK ks (.inl (n : Int))) (kPutD ks ds (.inl (n : Int)) (.int 0)) (kPut_len h)
    refine ⟨ks', ds', ?_, h2, ?_, fun k hk => h5 k ?_⟩
    · rw [List.map_cons, dcL]
      show ((noX (fVar 4 (es.set 4 (.val (.int n))))).bind fun r => (noX (fC (.int 0) (es.set 4 (.val (.int n))))).bind fun v => match keyD r.fz.dat, v.fz.sto with
        | some k, some d => dcL (.nm 4) (fVar 4) (fC (.int 0)) es (S.map fun n => .val (.int (n : Nat))) (kPutK ks k) (kPutD ks ds k d)
        | _, _ => .no) = _
      have hv : fVar 4 (es.set 4 (.val (.int n))) = .ok (.val (.int n)) := by
        unfold fVar
        rw [List.getElem?_set_self h4]
      rw [hv]
      exact h1
    · have := kPutK_len ks (.inl (n : Int))
      simp only [List.length_cons]; omega
    · rw [kGet_put h]
      by_cases e : k = n
      · subst e; right; simp
      · have : ¬ (Sum.inl (n : Int) : DK) = .inl (k : Int) := fun w => e (by have := Sum.inl.inj w; omega)
        rw [if_neg this]
        rcases hk with hk | hk
        · left
          rcases List.mem_cons.mp hk with hk | hk
          · exact absurd hk e
          · exact hk
        · exact Or.inr hk
abbrev setsOf (N : List Nat) (t : List Nat) : List Nat := N.filter fun n => agB n 0 t
theorem mem_sets {N : List Nat} {t : List Nat} {n : Nat} : n ∈ setsOf N t ↔ n ∈ N ∧ agB n 0 t = true := List.mem_filter
theorem all_bl {α : Type} {es : Fw.Env} {f : Fw.Env → O R} {l : List α} {p : α → Bool} (h : f es = .ok (.new (l.map fun n => .bl (p n)))) : fBi dAll (fCons f fNil) es = .ok (.val (.bl (l.all p))) := by
  refine bi_o (cons_n h nil_o) ?_
  show (blsOf (l.map fun n => D.bl (p n))).map (fun (ns : List Bool) => R.val (.bl (ns.all id))) = _
  have : ∀ l : List α, blsOf (l.map fun n => D.bl (p n)) = some (l.map p) := fun l => by
    induction l with
    | nil => rfl
    | cons a l ih => simp [blsOf, ih]
  rw [this]
  show some (R.val (.bl ((l.map p).all id))) = _
  rw [List.all_map]; rfl
theorem zD_map (N : List Nat) : ∀ ts : List (List Nat), zD (ts.map .str) (ts.map fun t => nats (setsOf N t)) = ts.map fun t => .val (.tup [.str t, nats (setsOf N t)])
  | [] => rfl
  | t :: ts => by rw [List.map_cons, List.map_cons, List.map_cons, zD, zD_map N ts]
theorem flat_strs (l : List (List Nat)) : (l.map D.str).all flat = true := by
  rw [List.all_eq_true]
  intro x hx
  obtain ⟨t, _, rfl⟩ := List.mem_map.mp hx
  rfl
theorem trimmed_bad {m : Nat} {on fr : List Int} {x : D} (h : g_is_telling cl [sayD cl m on fr, x] = .ok (.val (.bl false))) (hx : (nrm x).dat = x) : g_trimmed cl [sayD cl m on fr, x] = .exc (cl.at_ "BadTelling") none := by
  show runX 9 (b_trimmed cl) [sayD cl m on fr, x] = _
  have hv : fVar 1 [.brw (sayD cl m on fr), slotD x, .no, .no, .no, .no, .no, .no, .no] = .ok (nrm x) := slot_nrm rfl
  have ha : fCons (fVar 0) (fCons (fVar 1) fNil) [.brw (sayD cl m on fr), slotD x, .no, .no, .no, .no, .no, .no, .no] = .ok [.brw (sayD cl m on fr), nrm x] := by
    have h0 : fVar 0 [.brw (sayD cl m on fr), slotD x, .no, .no, .no, .no, .no, .no, .no] = .ok (.brw (sayD cl m on fr)) := rfl
    unfold fCons
    rw [hv, h0, O.bind_ok, O.bind_ok, nil_o, O.bind_ok, O.bind_ok, nrm_fz]; rfl
  have hc : fCall (g_is_telling cl) (fCons (fVar 0) (fCons (fVar 1) fNil)) [.brw (sayD cl m on fr), slotD x, .no, .no, .no, .no, .no, .no, .no] = .ok (.val (.bl false)) := call_val ha (by
    show g_is_telling cl [sayD cl m on fr, (nrm x).dat] = _
    rw [hx]; exact h)
  refine runX_exc (e := [.brw (sayD cl m on fr), slotD x, .no, .no, .no, .no, .no, .no, .no]) (e2 := [.brw (sayD cl m on fr), slotD x, .no, .no, .no, .no, .no, .no, .no]) rfl ?_
  unfold b_trimmed
  refine seq_x ?_
  rw [if_t (not_o (k := false) (test_o hc))]; rfl
theorem trimmed_eq {m : Nat} (m1 : m ≤ 5) {N : List Nat} {fr : List Int} (hN : N.length ≤ 32) (nd : N.Nodup) {ts : List (List Nat)} (ht : ∀ t ∈ ts, Tm m t) (hl : ts.length ≤ 1000) (hc : ts.all (clean (offs m (zs N ++ fr))) = true) (hd : told N ts = true) :
    g_trimmed cl [sayD cl m (zs N) fr, txs ts] = .ok (.new ((trimP (told N) [] ts).map .str)) := by
  show runX 9 (b_trimmed cl) [sayD cl m (zs N) fr, txs ts] = _
  generalize hS : sayD cl m (zs N) fr = S
  refine runX_rt (e := [.brw S, .brw (txs ts), .no, .no, .no, .no, .no, .no, .no]) (by subst hS; rfl) ?_
  unfold b_trimmed
  have h1 : fCall (g_is_telling cl) (fCons (fVar 0) (fCons (fVar 1) fNil)) [.brw S, .brw (txs ts), .no, .no, .no, .no, .no, .no, .no] = .ok (.val (.bl true)) := call_val (rs := [.brw S, .brw (txs ts)]) (by subst hS; rfl) (by
    show g_is_telling cl [S, txs ts] = _
    rw [← hS, telling_eq m1 hN ht, hc, hd]; rfl)
  rw [seq_n (if_f (not_o (k := true) (test_o h1)))]
  have ho : fMeth (cl.at_ "Saying") "on" (g_Saying_on cl) (fVar 0) fNil [.brw S, .brw (txs ts), .no, .no, .no, .no, .no, .no, .no] = .ok (.new (N.map fun i => .int (i : Nat))) := by
    rw [← zs_int, ← hS]
    exact meth_n (r := .brw (sayD cl m (zs N) fr)) rfl rfl (by decide) (on_eq m (zs N) fr)
  rw [seq_n (set_n ho)]
  show gSeq _ _ [.brw S, .brw (txs ts), .val (nats N), .no, .no, .no, .no, .no, .no] = _
  have hs1 : fIt false (fVar 1) [.brw S, .brw (txs ts), .val (nats N), .no, .no, .no, .no, .no, .no] = .ok (ts.map fun t => .val (.str t)) := by
    show O.of (some ((ts.map D.str).map nrm)) = _
    rw [List.map_map]; rfl
  have h2 := lc_map (src := fIt false (fVar 1)) (vs := [3]) (t := .nm 3) (cond := fYes) (elt := (fLc (fIt false (fVar 2)) [4] (.nm 4) (fTest (fCall0 (g_has cl) (fCons (fVar 3) (fCons (fVar 4) fNil)))) (fVar 4))) (es := [.brw S, .brw (txs ts), .val (nats N), .no, .no, .no, .no, .no, .no]) (r := fun t => .val (.str t)) (xs := ts) (fun _ => true) (fun t => nats (setsOf N t)) hs1 (by omega) (fun t htt => by
    refine ⟨[.brw S, .brw (txs ts), .val (nats N), .val (.str t), .no, .no, .no, .no, .no], rfl, rfl, fun _ => ⟨.new ((setsOf N t).map fun n => .int (n : Nat)), ?_, rfl⟩⟩
    exact lc_map (src := fIt false (fVar 2)) (vs := [4]) (t := .nm 4) (cond := fTest (fCall0 (g_has cl) (fCons (fVar 3) (fCons (fVar 4) fNil)))) (elt := fVar 4) (es := [.brw S, .brw (txs ts), .val (nats N), .val (.str t), .no, .no, .no, .no, .no]) (r := fun i => .val (.int (i : Nat))) (xs := N) (fun n => agB n 0 t) (fun n => .int (n : Nat)) (it_nats rfl) (by omega) (fun n hn => ⟨[.brw S, .brw (txs ts), .val (nats N), .val (.str t), .val (.int n), .no, .no, .no, .no], rfl, test_o (call_o (rs := [.val (.str t), .val (.int n)]) rfl (has_eq t (ht t htt).2 n)), fun _ => ⟨_, rfl, rfl⟩⟩))
  rw [filter_true] at h2
  rw [seq_n (set_n h2)]
  show gSeq _ _ [.brw S, .brw (txs ts), .val (nats N), .no, .no, .val (.lst (ts.map fun t => nats (setsOf N t))), .no, .no, .no] = _
  generalize hL : D.lst (ts.map fun t => nats (setsOf N t)) = L
  obtain ⟨k0, d0, h3, h4, h5, h6⟩ := dc_zero N (es := wipeE [.brw S, .brw (txs ts), .val (nats N), .no, .no, .val L, .no, .no, .no] [4]) (by simp [wipeE]) N [] [] rfl
  have h7 : gDcD 6 (fIt false (fVar 2)) [4] (.nm 4) (fVar 4) (fC (.int 0)) [.brw S, .brw (txs ts), .val (nats N), .no, .no, .val L, .no, .no, .no] = .nx [.brw S, .brw (txs ts), .val (nats N), .no, .no, .val L, .odc k0 d0, .no, .no] := by
    unfold gDcD
    rw [it_nats rfl, O.out_ok, if_pos ⟨by simp; omega, by simp⟩, h3]; rfl
  rw [seq_n h7]
  have c0 : Cts N (fun n => tally n []) k0 d0 := ⟨h4, by simpa using h5, fun n hn => by rw [h6 n (Or.inl hn)]; rfl⟩
  -- the counts
  have hs2 : ∀ {x3 x4 x6 x7 x8 : Sl}, fIt true (fVar 5) [.brw S, .brw (txs ts), .val (nats N), x3, x4, .val L, x6, x7, x8] = .ok (ts.map fun t => .val (nats (setsOf N t))) := fun {_ _ _ _ _} => by
    subst hL
    show O.of (some ((ts.map fun t => nats (setsOf N t)).map R.val)) = _
    rw [List.map_map]; rfl
  obtain ⟨e2, g1, done, k1, d1, x4, x7, rfl, g2, g3⟩ := for_inv (t := .nm 7) (body := (gFor (fIt true (fVar 7)) (.nm 4) (gAugD 6 (fun a b => a + b) (fVar 4) (fC (.int 1))))) (r := fun t => .val (nats (setsOf N t)))
    (fun rest es => ∃ done k d x4 x7, es = [.brw S, .brw (txs ts), .val (nats N), .no, x4, .val L, .odc k d, x7, .no] ∧ done ++ rest = ts ∧ Cts N (fun n => tally n done) k d) (fun t rest es ⟨done, k, d, x4, x7, he, e1, hcts⟩ => by
      subst he
      refine ⟨[.brw S, .brw (txs ts), .val (nats N), .no, x4, .val L, .odc k d, .val (nats (setsOf N t)), .no], rfl, ?_⟩
      obtain ⟨k', d', y4, q1, q2⟩ := aug_loop (f := fun a b => a + b) hN (a0 := .brw S) (a1 := .brw (txs ts)) (a2 := .val (nats N)) (a3 := .no) (a5 := .val L) (a7 := .val (nats (setsOf N t))) (a8 := .no) (setsOf N t) _ k d x4 (fun n hn => (List.mem_filter.mp hn).1) (nd.filter _) hcts
      refine ⟨_, (for_o (it_nats rfl)).trans q1, done ++ [t], k', d', y4, _, rfl, by simp [e1], q2.cong fun n hn => ?_⟩
      rw [tally_app, tally_one]
      by_cases ha : agB n 0 t = true
      · rw [if_pos (mem_sets.mpr ⟨hn, ha⟩), if_pos ha]
      · rw [if_neg (fun z => ha (mem_sets.mp z).2), if_neg ha]; omega) ts [.brw S, .brw (txs ts), .val (nats N), .no, .no, .val L, .odc k0 d0, .no, .no] ⟨[], k0, d0, _, _, rfl, rfl, c0⟩
  rw [List.append_nil] at g2
  subst g2
  rw [seq_n ((for_o hs2).trans g1)]
  rw [seq_n (set_own (xs := []) rfl)]
  show gSeq _ _ [.brw S, .brw (txs done), .val (nats N), .no, x4, .val L, .odc k1 d1, x7, .own []] = _
  have hz : fZip (fCons (fVar 1) (fCons (fVar 5) fNil)) [.brw S, .brw (txs done), .val (nats N), .no, x4, .val L, .odc k1 d1, x7, .own []] = .ok (done.map fun t => .val (.tup [.str t, nats (setsOf N t)])) := by
    subst hL
    show (match zArg (.brw (txs done)), some (done.map fun t => nats (setsOf N t)) with
      | some xs, some ys => O.ok (zD xs ys)
      | _, _ => .no) = _
    have : zArg (.brw (txs done)) = some (done.map .str) := if_pos (flat_strs done)
    rw [this]
    exact congrArg O.ok (zD_map N done)
  obtain ⟨e2, w1, K, k, d, x3, y4, y7, rfl, w2, w3, w4, w5⟩ := for_inv (t := .tp [3, 7]) (body := (gIf (fTest (fBi dAll (fCons (fLc (fIt false (fVar 7)) [4] (.nm 4) fYes (fBin dGt (fGetD 6 (fVar 4)) (fC (.int 1)))) fNil))) (gFor (fIt true (fVar 7)) (.nm 4) (gAugD 6 (fun a b => a - b) (fVar 4) (fC (.int 1)))) (gApp 8 (fVar 3)))) (r := fun t => .val (.tup [.str t, nats (setsOf N t)]))
    (fun rest es => ∃ K k d x3 x4 x7, es = [.brw S, .brw (txs done), .val (nats N), x3, x4, .val L, .odc k d, x7, .own (K.map .str)] ∧ Cts N (fun n => tally n (K ++ rest)) k d ∧ told N (K ++ rest) = true ∧ trimP (told N) K rest = trimP (told N) [] done ∧ K.length + rest.length ≤ 1000) (fun t rest es ⟨K, k, d, x3, x4, x7, he, hcts, htold, htrim, hlen⟩ => by
      subst he
      refine ⟨[.brw S, .brw (txs done), .val (nats N), .val (.str t), x4, .val L, .odc k d, .val (nats (setsOf N t)), .own (K.map .str)], rfl, ?_⟩
      have ha := all_bl (es := [.brw S, .brw (txs done), .val (nats N), .val (.str t), x4, .val L, .odc k d, .val (nats (setsOf N t)), .own (K.map .str)]) (l := setsOf N t) (p := fun n => decide (1 < tally n (K ++ t :: rest))) (f := fLc (fIt false (fVar 7)) [4] (.nm 4) fYes (fBin dGt (fGetD 6 (fVar 4)) (fC (.int 1)))) (by
        rw [lc_map (t := .nm 4) (vs := [4]) (r := fun i => .val (.int (i : Nat))) (fun _ => true) (fun n => .bl (decide (1 < tally n (K ++ t :: rest)))) (it_nats rfl) (Nat.le_trans (List.length_filter_le _ _) (by omega)) fun n hn => ⟨[.brw S, .brw (txs done), .val (nats N), .val (.str t), .val (.int n), .val L, .odc k d, .val (nats (setsOf N t)), .own (K.map .str)], rfl, rfl, fun _ => ⟨.val (.bl (decide (1 < tally n (K ++ t :: rest)))), ?_, rfl⟩⟩, filter_true]
        have hg : fGetD 6 (fVar 4) [.brw S, .brw (txs done), .val (nats N), .val (.str t), .val (.int n), .val L, .odc k d, .val (nats (setsOf N t)), .own (K.map .str)] = .ok (.val (.int (tally n (K ++ t :: rest)))) := by
          show O.of ((kGet k d (.inl (n : Int))).map R.val) = _
          rw [hcts.at_ n (List.mem_filter.mp hn).1]; rfl
        exact bin_o hg rfl rfl)
      rw [go_iff htold] at ha
      rw [if_o (test_o ha)]
      cases hgo : told N (K ++ rest) with
      | true =>
        rw [if_pos rfl]
        obtain ⟨k', d', y4, q1, q2⟩ := aug_loop (f := fun a b => a - b) hN (a0 := .brw S) (a1 := .brw (txs done)) (a2 := .val (nats N)) (a3 := .val (.str t)) (a5 := .val L) (a7 := .val (nats (setsOf N t))) (a8 := .own (K.map .str)) (setsOf N t) _ k d x4 (fun n hn => (List.mem_filter.mp hn).1) (nd.filter _) hcts
        refine ⟨_, (for_o (it_nats rfl)).trans q1, K, k', d', _, y4, _, rfl, q2.cong fun n hn => ?_, hgo, ?_, by simp at hlen; omega⟩
        · have e : tally n (K ++ t :: rest) = tally n (K ++ rest) + (if agB n 0 t = true then 1 else 0) := by
            rw [tally_app, show t :: rest = [t] ++ rest from rfl, tally_app, tally_app, tally_one]; omega
          by_cases ha : agB n 0 t = true
          · rw [if_pos (mem_sets.mpr ⟨hn, ha⟩), e, if_pos ha]; omega
          · rw [if_neg (fun z => ha (mem_sets.mp z).2), e, if_neg ha]; omega
        · rw [← htrim, trimP, if_pos hgo]
      | false =>
        rw [if_neg Bool.false_ne_true]
        refine ⟨_, app_o (xs := K.map .str) (d := .str t) rfl rfl (by simp at hlen ⊢; omega), K ++ [t], k, d, .val (.str t), x4, .val (nats (setsOf N t)), by rw [List.map_append]; rfl, ?_, ?_, ?_, by simp at hlen ⊢; omega⟩
        · rw [List.append_assoc]; exact hcts
        · rw [List.append_assoc]; exact htold
        · rw [← htrim, trimP, if_neg (by rw [hgo]; exact Bool.false_ne_true)]) done [.brw S, .brw (txs done), .val (nats N), .no, x4, .val L, .odc k1 d1, x7, .own []] ⟨[], k1, d1, _, _, _, rfl, g3, by simpa using hd, rfl, by simpa using hl⟩
  rw [seq_n ((for_o hz).trans w1)]
  show gRetV 8 [.brw S, .brw (txs done), .val (nats N), x3, y4, .val L, .odc k d, y7, .own (K.map .str)] = _
  have : K = trimP (told N) [] done := by rw [← w4]; rfl
  rw [← this]; rfl
end K05
namespace K05
open PySem PySem.Spec PyProof.Rows L2 Fw K02 K03 Mt
variable {cl : Cl}
theorem itB {es : Fw.Env} {f : Fw.Env → O R} {l : List Nat} {fz : Bool} (h : f es = .ok (.brw (nats l))) : fIt fz f es = .ok (l.map fun i => .val (.int (i : Nat))) := by
  unfold fIt; rw [h, O.bind_ok]
  show O.of (some ((l.map fun i => D.int (i : Nat)).map nrm)) = _
  rw [List.map_map]; rfl
theorem itT {es : Fw.Env} {f : Fw.Env → O R} {l : List (List Nat)} {fz : Bool} (h : f es = .ok (.brw (txs l))) : fIt fz f es = .ok (l.map fun t => .val (.str t)) := by
  unfold fIt; rw [h, O.bind_ok]
  show O.of (some ((l.map D.str).map nrm)) = _
  rw [List.map_map]; rfl
theorem notv_o {es : Fw.Env} {f : Fw.Env → O R} {b : Bool} (h : f es = .ok (.val (.bl b))) : fNotV f es = .ok (.val (.bl (!b))) := by
  unfold fNotV; rw [h]; rfl
theorem all_on_eq {N : List Nat} (hN : N.length ≤ 32) {ts : List (List Nat)} (hs : ∀ t ∈ ts, Sg t) (hl : ts.length ≤ 1000) : g_law_all_on cl [nats N, txs ts] = .ok (.val (.bl (told N ts))) := by
  show run0 4 (b_law_all_on cl) [nats N, txs ts] = _
  refine run0_rt (e := [.brw (nats N), .brw (txs ts), .no, .no]) rfl ?_
  unfold b_law_all_on
  refine ret_v ?_
  have hi : ∀ n : Nat, fNotV (fBi dAny (fCons (fLc (fIt false (fVar 1)) [3] (.nm 3) fYes (fCall0 (g_law_agrees cl) (fCons (fVar 3) (fCons (fVar 2) fNil)))) fNil)) [.brw (nats N), .brw (txs ts), .val (.int n), .no] = .ok (.val (.bl (!(ts.any fun t => agB n 0 t)))) := fun n => by
    refine notv_o (any_bl ?_)
    rw [lc_map (t := .nm 3) (vs := [3]) (r := fun t => .val (.str t)) (fun _ => true) (fun t => .bl (agB n 0 t)) (itT rfl) (by omega) fun t ht => ⟨[.brw (nats N), .brw (txs ts), .val (.int n), .val (.str t)], rfl, rfl, fun _ => ⟨_, call_o (rs := [.val (.str t), .val (.int n)]) rfl (agrees_eq t (hs t ht) n), rfl⟩⟩, filter_true]
  have ho : fBi dAny (fCons (fLc (fIt false (fVar 0)) [2] (.nm 2) fYes (fNotV (fBi dAny (fCons (fLc (fIt false (fVar 1)) [3] (.nm 3) fYes (fCall0 (g_law_agrees cl) (fCons (fVar 3) (fCons (fVar 2) fNil)))) fNil)))) fNil) [.brw (nats N), .brw (txs ts), .no, .no] = .ok (.val (.bl (N.any fun n => !(ts.any fun t => agB n 0 t)))) := by
    refine any_bl ?_
    rw [lc_map (t := .nm 2) (vs := [2]) (r := fun i => .val (.int (i : Nat))) (fun _ => true) (fun n => .bl (!(ts.any fun t => agB n 0 t))) (itB rfl) (by omega) fun n hn => ⟨[.brw (nats N), .brw (txs ts), .val (.int n), .no], rfl, rfl, fun _ => ⟨_, hi n, rfl⟩⟩, filter_true]
  rw [notv_o ho]
  have : (!(N.any fun n => !(ts.any fun t => agB n 0 t))) = told N ts := by
    unfold told
    rw [List.all_eq_not_any_not]
  rw [this]
theorem is_told_eq {m : Nat} {N off : List Nat} (hN : N.length ≤ 32) (ho : off.length ≤ 90000) {ts : List (List Nat)} (hs : ∀ t ∈ ts, Sg t) (hl : ts.length ≤ 1000) : g_law_is_told cl [.int m, nats N, nats off, txs ts] = .ok (.val (.bl (ts.all (clean off) && told N ts))) := by
  show run0 6 (b_law_is_told cl) [.int m, nats N, nats off, txs ts] = _
  refine run0_rt (e := [.val (.int m), .brw (nats N), .brw (nats off), .brw (txs ts), .no, .no]) rfl ?_
  unfold b_law_is_told
  have e1 : ts.attach.map (fun t : {t // t ∈ ts} => R.val (.str t.1)) = ts.map fun t => .val (.str t) := by
    rw [← List.attach_map_val (l := ts) (f := fun t => R.val (.str t))]
  have e2 : ts.attach.all (fun t => clean off t.1) = ts.all (clean off) := by
    rw [Bool.eq_iff_iff, List.all_eq_true, List.all_eq_true]
    exact ⟨fun h t ht => h ⟨t, ht⟩ (List.mem_attach _ _), fun h t _ => h t.1 t.2⟩
  have hf := for_all (t := .nm 4) (body := gIf (fTest (fBi dAny (fCons (fLc (fIt false (fVar 2)) [5] (.nm 5) fYes (fCall0 (g_law_agrees cl) (fCons (fVar 4) (fCons (fVar 5) fNil)))) fNil))) (gRet (fC (.bl false))) gNext) (r := fun t : {t // t ∈ ts} => .val (.str t.1)) (v := .val (.bl false))
    (fun es => ∃ z, es = [.val (.int m), .brw (nats N), .brw (nats off), .brw (txs ts), z, .no]) (fun t => clean off t.1) (fun t es ⟨z, he⟩ => by
      subst he
      have h := any_agrees (cl := cl) (E := [.val (.int m), .brw (nats N), .brw (nats off), .brw (txs ts), .val (.str t.1), .no]) (i := 4) (j := 2) (v := 5) (hs t.1 t.2) ho (itB rfl) (by simp) (fun _ => rfl)
      refine ⟨[.val (.int m), .brw (nats N), .brw (nats off), .brw (txs ts), .val (.str t.1), .no], rfl, fun hc => ?_, fun hc => ?_⟩
      · rw [hc] at h
        exact ⟨_, if_f (test_o h), .val (.str t.1), rfl⟩
      · rw [hc] at h
        exact (if_t (test_o h)).trans (ret_v rfl)) ts.attach [.val (.int m), .brw (nats N), .brw (nats off), .brw (txs ts), .no, .no] ⟨_, rfl⟩
  rw [e1, e2] at hf
  cases hc : ts.all (clean off) with
  | false => exact seq_r ((for_o (itT rfl)).trans (hf.2 hc))
  | true =>
    obtain ⟨e3, h3, z, rfl⟩ := hf.1 hc
    rw [seq_n ((for_o (itT rfl)).trans h3), Bool.true_and]
    exact ret_v (call_o (rs := [.brw (nats N), .brw (txs ts)]) rfl (all_on_eq hN hs hl))
theorem due_eq {N : List Nat} (hN : N.length ≤ 32) {ts : List (List Nat)} (hs : ∀ t ∈ ts, Sg t) (hl : ts.length ≤ 1000) : g_law_due cl [nats N, txs ts] = .ok (.val (txs (trimP (told N) [] ts))) := by
  show run0 6 (b_law_due cl) [nats N, txs ts] = _
  refine run0_rt (e := [.brw (nats N), .brw (txs ts), .no, .no, .no, .no]) rfl ?_
  unfold b_law_due
  have h0 : fBi dList (fCons (fVar 1) fNil) [.brw (nats N), .brw (txs ts), .no, .no, .no, .no] = .ok (.new (ts.map .str)) := by
    refine bi_o (rs := [.brw (txs ts)]) rfl ?_
    show (if (ts.map D.str).all flat then some (ts.map D.str) else none).map R.new = _
    rw [if_pos (flat_strs ts)]; rfl
  rw [seq_n (set_n h0)]
  rw [seq_n (set_v (a := .int 0) rfl)]
  show gSeq _ _ [.brw (nats N), .brw (txs ts), .val (txs ts), .val (.int 0), .no, .no] = _
  have hlen : fBi dLen (fCons (fVar 1) fNil) [.brw (nats N), .brw (txs ts), .val (txs ts), .val (.int 0), .no, .no] = .ok (.val (.int (ts.length : Nat))) := by
    refine bi_o (rs := [.brw (txs ts)]) rfl ?_
    show some (R.val (.int ((ts.map D.str).length : Nat))) = _
    rw [List.length_map]
  obtain ⟨e2, h2, K, rest, z4, z5, rfl, w1, w2, w3, w4⟩ := forL_rg (t := .nm 4) (n := ts.length) (body := (gSeq (gSet 5 true (fBin dAdd (fSl (fVar 2) fNoPart (fPart (fVar 3))) (fSl (fVar 2) (fPart (fBin dAdd (fVar 3) (fC (.int 1)))) fNoPart)))
    (gIf (fTest (fCall0 (g_law_all_on cl) (fCons (fVar 0) (fCons (fVar 5) fNil)))) (gSet 2 true (fVar 5)) (gSet 3 true (fBin dAdd (fVar 3) (fC (.int 1))))))) (es := [.brw (nats N), .brw (txs ts), .val (txs ts), .val (.int 0), .no, .no])
    (I := fun i es => ∃ K rest z4 z5, es = [.brw (nats N), .brw (txs ts), .val (txs (K ++ rest)), .val (.int (K.length : Nat)), z4, z5] ∧ rest = ts.drop i ∧ trimP (told N) K rest = trimP (told N) [] ts ∧ (∀ t ∈ K, t ∈ ts) ∧ K.length ≤ i) (fun i hi es ⟨K, rest, z4, z5, he, w1, w2, w3, w4⟩ => by
      subst he
      have hr : rest = ts[i] :: ts.drop (i + 1) := by rw [w1, List.drop_eq_getElem_cons hi]
      generalize ts[i] = t at hr
      have hd : ∀ u ∈ ts.drop (i + 1), u ∈ ts := fun u hu => List.mem_of_mem_drop hu
      have ht : t ∈ ts := List.mem_of_mem_drop (i := i) (by rw [← w1, hr]; simp)
      have hdl : (ts.drop (i + 1)).length ≤ 1000 - (i + 1) := by rw [List.length_drop]; omega
      generalize ts.drop (i + 1) = R at hr hd hdl
      rw [hr] at w2 ⊢
      refine ⟨[.brw (nats N), .brw (txs ts), .val (txs (K ++ t :: R)), .val (.int (K.length : Nat)), .val (.int i), z5], rfl, ?_⟩
      have s1 := slv_take (fa := fVar 2) (fb := fVar 3) (xs := (K ++ t :: R).map .str) (k := K.length) (es := [.brw (nats N), .brw (txs ts), .val (txs (K ++ t :: R)), .val (.int (K.length : Nat)), .val (.int i), z5]) (Or.inl rfl) rfl
      have s2 := slv_drop (fa := fVar 2) (fb := fBin dAdd (fVar 3) (fC (.int 1))) (xs := (K ++ t :: R).map .str) (k := K.length + 1) (es := [.brw (nats N), .brw (txs ts), .val (txs (K ++ t :: R)), .val (.int (K.length : Nat)), .val (.int i), z5]) rfl (bin_o rfl rfl (add_i _ _))
      have s3 := add_n s1 s2 (by simp; omega)
      have e1 : ((K ++ t :: R).map D.str).take K.length ++ ((K ++ t :: R).map D.str).drop (K.length + 1) = (K ++ R).map D.str := by
        rw [← List.map_take, ← List.map_drop, List.take_left, ← List.map_append]
        congr 2
        rw [show K ++ t :: R = (K ++ [t]) ++ R by simp, show K.length + 1 = (K ++ [t]).length by simp, List.drop_left]
      rw [e1] at s3
      show ∃ e2, gSeq _ _ [.brw (nats N), .brw (txs ts), .val (txs (K ++ t :: R)), .val (.int (K.length : Nat)), .val (.int i), z5] = _ ∧ _
      rw [seq_n (set_n s3)]
      show ∃ e2, gIf _ _ _ [.brw (nats N), .brw (txs ts), .val (txs (K ++ t :: R)), .val (.int (K.length : Nat)), .val (.int i), .val (txs (K ++ R))] = _ ∧ _
      have hall : fTest (fCall0 (g_law_all_on cl) (fCons (fVar 0) (fCons (fVar 5) fNil))) [.brw (nats N), .brw (txs ts), .val (txs (K ++ t :: R)), .val (.int (K.length : Nat)), .val (.int i), .val (txs (K ++ R))] = .ok (told N (K ++ R)) := test_o (call_o (rs := [.brw (nats N), .val (txs (K ++ R))]) rfl (all_on_eq hN (fun u hu => by
        rcases List.mem_append.mp hu with h | h
        · exact hs u (w3 u h)
        · exact hs u (hd u h)) (by simp; omega)))
      rw [if_o hall]
      cases hg : told N (K ++ R) with
      | true =>
        exact ⟨_, by rw [if_pos rfl]; exact set_v (a := txs (K ++ R)) rfl, K, R, _, _, rfl, by
          have := congrArg List.tail (hr.symm.trans w1)
          simpa using this, by rw [← w2, trimP, if_pos hg], w3, by omega⟩
      | false =>
        refine ⟨_, by rw [if_neg Bool.false_ne_true]; exact set_v (bin_o rfl rfl (add_i _ _)), K ++ [t], R, .val (.int i), .val (txs (K ++ R)), ?_, ?_, ?_, fun u hu => ?_, by simp; omega⟩
        · rw [List.append_assoc, List.length_append]; rfl
        · have := congrArg List.tail (hr.symm.trans w1)
          simpa using this
        · rw [← w2, trimP, if_neg (by rw [hg]; exact Bool.false_ne_true)]
        · rcases List.mem_append.mp hu with h | h
          · exact w3 u h
          · simp only [List.mem_singleton] at h
            subst h; exact ht) ⟨[], ts, _, _, rfl, rfl, rfl, fun _ h => (by cases h), by simp⟩
  rw [seq_n ((for_o (rg_o hlen hl)).trans h2)]
  rw [List.drop_length] at w1
  subst w1
  have : K = trimP (told N) [] ts := by rw [← w2]; rfl
  rw [List.append_nil, this]; rfl
/-! ### what of trimmed, or its refusal, is told -/
abbrev KnL (cl : Cl) : Prop := Kn cl "BadTelling" false false false true false
theorem caught_ok {m : Nat} {on fr : List Int} {l : List D} {ds : List D} (h : g_trimmed cl [sayD cl m on fr, .lst l] = .ok (.new ds)) : g_law_caught cl [sayD cl m on fr, .lst l] = .ok (.new ds) := by
  show run0 5 (b_law_caught cl) [sayD cl m on fr, .lst l] = _
  refine run0_rt (e := [.brw (sayD cl m on fr), .brw (.lst l), .no, .no, .no]) rfl ?_
  unfold b_law_caught
  have hc : fCall (g_trimmed cl) (fCons (fVar 0) (fCons (fVar 1) fNil)) [.brw (sayD cl m on fr), .brw (.lst l), .val .non, .val .non, .no] = .ok (.new ds) := by
    unfold fCall
    rw [show fCons (fVar 0) (fCons (fVar 1) fNil) [.brw (sayD cl m on fr), .brw (.lst l), .val .non, .val .non, .no] = .ok [.brw (sayD cl m on fr), .brw (.lst l)] from rfl, O.bind_ok]
    show (match g_trimmed cl [sayD cl m on fr, .lst l] with
      | O.ok (R.val d) => O.ok (R.val d)
      | O.ok (R.new xs) => O.ok (R.new xs)
      | O.exc c fs => O.exc c fs
      | x => O.no) = _
    rw [h]
  rw [seq_n (set_v (f := fC .non) rfl), seq_n (set_v (f := fC .non) rfl)]
  show gSeq _ _ [.brw (sayD cl m on fr), .brw (.lst l), .val .non, .val .non, .no] = _
  have ht : gTry (fun c => cl.ex c (cl.at_ "TermError")) 4 (gSet 3 false (fCall (g_trimmed cl) (fCons (fVar 0) (fCons (fVar 1) fNil)))) (gSet 2 true (fVar 4)) [.brw (sayD cl m on fr), .brw (.lst l), .val .non, .val .non, .no] = .nx [.brw (sayD cl m on fr), .brw (.lst l), .val .non, .own ds, .no] := by
    unfold gTry
    rw [set_own hc]; rfl
  rw [seq_n ht]
  rfl
theorem caught_x (K : KnL cl) {m : Nat} {on fr : List Int} {x : D} (h : g_trimmed cl [sayD cl m on fr, x] = .exc (cl.at_ "BadTelling") none) : g_law_caught cl [sayD cl m on fr, x] = .ok (.val (.str wTelling)) := by
  show run0 5 (b_law_caught cl) [sayD cl m on fr, x] = _
  refine run0_rt (e := [.brw (sayD cl m on fr), slotD x, .no, .no, .no]) rfl ?_
  unfold b_law_caught
  rw [seq_n (set_v (f := fC .non) rfl), seq_n (set_v (f := fC .non) rfl)]
  show gSeq _ _ [.brw (sayD cl m on fr), slotD x, .val .non, .val .non, .no] = _
  have hc : fCall (g_trimmed cl) (fCons (fVar 0) (fCons (fVar 1) fNil)) [.brw (sayD cl m on fr), slotD x, .val .non, .val .non, .no] = .exc (cl.at_ "BadTelling") none := by
    refine call_x (rs := [.brw (sayD cl m on fr), nrm x]) ?_ (by simp only [List.map_cons, List.map_nil, nrm_dat]; exact h)
    unfold fCons
    rw [show fVar 1 [.brw (sayD cl m on fr), slotD x, .val .non, .val .non, .no] = .ok (nrm x) from slot_nrm rfl]
    show O.ok [R.brw (sayD cl m on fr), (nrm x).fz] = _
    rw [nrm_fz]
  have ht : gTry (fun c => cl.ex c (cl.at_ "TermError")) 4 (gSet 3 false (fCall (g_trimmed cl) (fCons (fVar 0) (fCons (fVar 1) fNil)))) (gSet 2 true (fVar 4)) [.brw (sayD cl m on fr), slotD x, .val .non, .val .non, .no] = .nx [.brw (sayD cl m on fr), slotD x, .val (.exn (cl.at_ "BadTelling") [] []), .val .non, .no] := by
    unfold gTry gSet
    rw [hc]
    show (match cl.ex (cl.at_ "BadTelling") (cl.at_ "TermError") with | some true => _ | some false => _ | none => _) = _
    rw [K.x]
    rfl
  rw [seq_n ht]
  have hw : fCall0 (g_law_word cl) (fCons (fVar 2) fNil) [.brw (sayD cl m on fr), slotD x, .val (.exn (cl.at_ "BadTelling") [] []), .val .non, .no] = .ok (.val (.str wTelling)) := call_o (rs := [.val (.exn (cl.at_ "BadTelling") [] [])]) rfl (by
    show g_law_word cl [.exn (cl.at_ "BadTelling") [] []] = _
    rw [word_exn K]; rfl)
  exact ret_v hw
end K05
namespace K05
open PySem PySem.Spec PyProof.Rows L2 Fw K02 K03 Mt
variable {cl : Cl}
theorem spread_big (c k : Int) (h0 : 0 ≤ k) (h1 : k < 1000) : g_law_spread cl [.int c, .int k] = .ok (.val (.int (spr c k))) := by
  have m1 : mulC 2 k = true := mulC_l (by decide) (by decide)
  have m2 : mulC (2 * k) k = true := mulC_r (by omega) (by omega)
  have hk : 0 ≤ 2 * k * k ∧ 2 * k * k ≤ 2000000 := by
    constructor
    · exact Int.mul_nonneg (by omega) h0
    · calc 2 * k * k ≤ 2000 * 1000 := Int.mul_le_mul (by omega) (by omega) h0 (by omega)
        _ = 2000000 := by decide
  have m3 : mulC (c + 3) (48271 + 2 * k * k + k) = true := mulC_r (by omega) (by omega)
  show run0 2 (b_law_spread cl) [.int c, .int k] = _
  unfold b_law_spread
  simp only [run0, startE, slotD, flat, gRet, fBin, fVar, fC, R.fz, dAdd, dMulA, dMul, dMod, i2, modC, O.of, List.map, List.length, List.replicate, List.append, m1, m2, m3, if_true]
  simp [m1, m2, m3, spr]
theorem spr_big (c k : Int) (h0 : 0 ≤ k) (h1 : k < 1000) : ∃ m : Nat, g_law_spread cl [.int c, .int k] = .ok (.val (.int m)) := by
  obtain ⟨m, hm⟩ := of_nat (spr_lo c k)
  exact ⟨m, by rw [spread_big c k h0 h1, hm]⟩
theorem list_brw {es : Fw.Env} {f : Fw.Env → O R} {ts : List (List Nat)} (h : f es = .ok (.brw (txs ts))) : fBi dList (fCons f fNil) es = .ok (.new (ts.map .str)) := by
  refine bi_o (rs := [.brw (txs ts)]) (by unfold fCons; rw [h]; rfl) ?_
  show (if (ts.map D.str).all flat then some (ts.map D.str) else none).map R.new = _
  rw [if_pos (flat_strs ts)]; rfl
theorem len_brw {es : Fw.Env} {f : Fw.Env → O R} {ts : List (List Nat)} (h : f es = .ok (.brw (txs ts)) ∨ f es = .ok (.val (txs ts)) ∨ f es = .ok (.bor (ts.map .str))) : fBi dLen (fCons f fNil) es = .ok (.val (.int (ts.length : Nat))) := by
  have e : some (R.val (.int ((ts.map D.str).length : Nat))) = some (R.val (.int (ts.length : Nat))) := by rw [List.length_map]
  rcases h with h | h | h
  · exact bi_o (rs := [.brw (txs ts)]) (by unfold fCons; rw [h]; rfl) e
  · exact bi_o (rs := [.val (txs ts)]) (by unfold fCons; rw [h]; rfl) e
  · exact bi_o (rs := [.bor (ts.map .str)]) (by unfold fCons; rw [h]; rfl) e
/-! ### a drawn order -/
theorem pop_o {es : Fw.Env} {i j : Nat} {f : Fw.Env → O R} {xs ys : List D} {k : Nat} {d : D} (hi : es[i]? = some (.own xs)) (hj : es[j]? = some (.own ys)) (hf : f es = .ok (.val (.int k))) (hk : ys[k]? = some d) (h1 : xs.length < 90000) (h2 : ys.length < 90000) :
    gAppPop i j f es = .nx ((es.set j (.own (ys.eraseIdx k))).set i (.own (xs ++ [d]))) := by
  unfold gAppPop
  rw [hi, hj]
  show (f es).out es _ = _
  rw [hf, O.out_ok]
  show (match (if 0 ≤ (k : Int) then ys[(k : Int).toNat]? else none) with | some d => _ | none => _) = _
  rw [if_pos (by omega), Int.toNat_natCast, hk]
  show (if xs.length < 90000 ∧ ys.length < 90000 then _ else _) = _
  rw [if_pos ⟨h1, h2⟩]
theorem map_erase (l : List (List Nat)) (k : Nat) : (l.map D.str).eraseIdx k = (l.eraseIdx k).map D.str := by
  induction l generalizing k with
  | nil => rfl
  | cons a l ih =>
    cases k with
    | zero => rfl
    | succ k => simp [ih]
theorem mixed_eq {ts : List (List Nat)} (hl : ts.length ≤ 900) (c : Int) : ∃ us : List (List Nat), (∀ u ∈ us, u ∈ ts) ∧ us.length = ts.length ∧ g_law_mixed cl [txs ts, .int c] = .ok (.new (us.map .str)) := by
  show ∃ us : List (List Nat), _ ∧ _ ∧ run0 5 (b_law_mixed cl) [txs ts, .int c] = _
  obtain ⟨e2, h2, l, us, z4, rfl, w1, w2, w3, w4⟩ := forL_rg (t := .nm 4) (n := ts.length) (body := gAppPop 3 2 (fBin dMod (fCall0 (g_law_spread cl) (fCons (fVar 1) (fCons (fVar 4) fNil))) (fBi dLen (fCons (fVar 2) fNil)))) (es := [.brw (txs ts), .val (.int c), .own (ts.map .str), .own [], .no])
    (I := fun i es => ∃ (l us : List (List Nat)) (z4 : Sl), es = [.brw (txs ts), .val (.int c), .own (l.map .str), .own (us.map .str), z4] ∧ (∀ u ∈ l, u ∈ ts) ∧ (∀ u ∈ us, u ∈ ts) ∧ us.length = i ∧ l.length + i = ts.length) (fun i hi es ⟨l, us, z4, he, w1, w2, w3, w4⟩ => by
      subst he
      refine ⟨[.brw (txs ts), .val (.int c), .own (l.map .str), .own (us.map .str), .val (.int i)], rfl, ?_⟩
      obtain ⟨a, ha⟩ := spr_big (cl := cl) c i (by omega) (by omega)
      have lp : 0 < l.length := by omega
      have hm : a % l.length < l.length := Nat.mod_lt _ lp
      have hlen := len_brw (f := fVar 2) (es := [.brw (txs ts), .val (.int c), .own (l.map .str), .own (us.map .str), .val (.int i)]) (ts := l) (Or.inr (Or.inr rfl))
      have hk : fBin dMod (fCall0 (g_law_spread cl) (fCons (fVar 1) (fCons (fVar 4) fNil))) (fBi dLen (fCons (fVar 2) fNil)) [.brw (txs ts), .val (.int c), .own (l.map .str), .own (us.map .str), .val (.int i)] = .ok (.val (.int ((a % l.length : Nat) : Int))) := by
        rw [bin_o (call_o (rs := [.val (.int c), .val (.int i)]) rfl ha) hlen (mod_i (by omega))]
        rw [Int.natCast_emod]
      have hp := pop_o (i := 3) (j := 2) (es := [.brw (txs ts), .val (.int c), .own (l.map .str), .own (us.map .str), .val (.int i)]) (xs := us.map .str) (ys := l.map .str) (d := .str l[a % l.length]) rfl rfl hk (by rw [List.getElem?_map, List.getElem?_eq_getElem hm]; rfl) (by rw [List.length_map]; omega) (by rw [List.length_map]; omega)
      refine ⟨_, hp, l.eraseIdx (a % l.length), us ++ [l[a % l.length]], .val (.int i), ?_, fun u hu => w1 u (List.mem_of_mem_eraseIdx hu), fun u hu => ?_, by simp [w3], ?_⟩
      · rw [map_erase, List.map_append]; rfl
      · rcases List.mem_append.mp hu with h | h
        · exact w2 u h
        · simp only [List.mem_singleton] at h
          subst h; exact w1 _ (List.getElem_mem hm)
      · rw [List.length_eraseIdx_of_lt hm]; omega) ⟨ts, [], _, rfl, fun _ h => h, fun _ h => (by cases h), rfl, by omega⟩
  refine ⟨us, w2, w3, ?_⟩
  refine run0_rt (e := [.brw (txs ts), .val (.int c), .no, .no, .no]) rfl ?_
  unfold b_law_mixed
  rw [seq_n (set_own (list_brw rfl)), seq_n (set_own (xs := []) rfl)]
  show gSeq _ _ [.brw (txs ts), .val (.int c), .own (ts.map .str), .own [], .no] = _
  rw [seq_n ((for_o (rg_o (n := ts.length) (len_brw (Or.inl rfl)) (by omega))).trans h2)]
  rfl
/-! ### terms by digits -/
theorem digit_loop {m : Nat} (m1 : m ≤ 5) {x0 x3 x4 : Sl} : ∀ (v : Int) (y6 : Sl), ∃ (s : List Nat) (v' : Int) (z6 : Sl), Tm m s ∧ forL (.nm 6) (gSeq (gSet 5 true (fBin dAdd (fVar 5) (fBin dIx (fC (.str [48, 49, 45])) (fBin dMod (fBin dDiv (fVar 2) (fC (.int 224))) (fC (.int 3))))))
    (gSet 2 true (fBin dDiv (fVar 2) (fC (.int 3))))) (rgD 0 m) [x0, .val (.int m), .val (.int v), x3, x4, .val (.str []), y6] = .nx [x0, .val (.int m), .val (.int v'), x3, x4, .val (.str s), z6] := by
  intro v y6
  obtain ⟨e2, h2, s, v', z6, rfl, w1, w2⟩ := forL_rg (t := .nm 6) (n := m) (body := (gSeq (gSet 5 true (fBin dAdd (fVar 5) (fBin dIx (fC (.str [48, 49, 45])) (fBin dMod (fBin dDiv (fVar 2) (fC (.int 224))) (fC (.int 3))))))
    (gSet 2 true (fBin dDiv (fVar 2) (fC (.int 3)))))) (es := [x0, .val (.int m), .val (.int v), x3, x4, .val (.str []), y6]) (I := fun i es => ∃ (s : List Nat) (v' : Int) (z6 : Sl), es = [x0, .val (.int m), .val (.int v'), x3, x4, .val (.str s), z6] ∧ s.length = i ∧ Sg s) (fun i hi es ⟨s, v', z6, he, w1, w2⟩ => by
      subst he
      refine ⟨[x0, .val (.int m), .val (.int v'), x3, x4, .val (.str s), .val (.int i)], rfl, ?_⟩
      obtain ⟨c, hc, hc3⟩ := sign3 (i := v' / 224 % 3) (by omega) (by omega)
      have a1 : fBin dIx (fC (.str [48, 49, 45])) (fBin dMod (fBin dDiv (fVar 2) (fC (.int 224))) (fC (.int 3))) [x0, .val (.int m), .val (.int v'), x3, x4, .val (.str s), .val (.int i)] = .ok (.val (.str [c])) := bin_o rfl (bin_o (bin_o rfl rfl (div_i (by decide))) rfl (mod_i (by decide))) (ix_s (by decide) hc)
      have a2 : gSet 5 true (fBin dAdd (fVar 5) (fBin dIx (fC (.str [48, 49, 45])) (fBin dMod (fBin dDiv (fVar 2) (fC (.int 224))) (fC (.int 3))))) [x0, .val (.int m), .val (.int v'), x3, x4, .val (.str s), .val (.int i)] = .nx [x0, .val (.int m), .val (.int v'), x3, x4, .val (.str (s ++ [c])), .val (.int i)] := set_v (bin_o rfl a1 (add_s (by simp; omega)))
      have a3 : gSet 2 true (fBin dDiv (fVar 2) (fC (.int 3))) [x0, .val (.int m), .val (.int v'), x3, x4, .val (.str (s ++ [c])), .val (.int i)] = .nx [x0, .val (.int m), .val (.int (v' / 3)), x3, x4, .val (.str (s ++ [c])), .val (.int i)] := set_v (bin_o rfl rfl (div_i (by decide)))
      refine ⟨_, by rw [seq_n a2]; exact a3, s ++ [c], v' / 3, .val (.int i), rfl, by simp [w1], fun x hx => ?_⟩
      rcases List.mem_append.mp hx with h | h
      · exact w2 x h
      · simp only [List.mem_singleton] at h
        subst h; exact hc3) ⟨[], v, _, rfl, rfl, fun _ h => (by cases h)⟩
  exact ⟨s, v', z6, ⟨w1, w2⟩, h2⟩
theorem digits_eq {m : Nat} (m1 : m ≤ 5) (c : Int) : ∃ ts : List (List Nat), (∀ t ∈ ts, Tm m t) ∧ ts.length ≤ 900 ∧ g_law_digits cl [.int c, .int m] = .ok (.new (ts.map .str)) := by
  show ∃ ts : List (List Nat), _ ∧ _ ∧ run0 7 (b_law_digits cl) [.int c, .int m] = _
  obtain ⟨e2, h2, v, z3, rfl⟩ := forL_rg (t := .nm 3) (n := 2 ^ m) (body := gSet 2 true (fBin dDiv (fVar 2) (fC (.int 3)))) (es := [.val (.int c), .val (.int m), .val (.int (c / 8)), .no, .no, .no, .no]) (I := fun i es => ∃ (v : Int) (z3 : Sl), es = [.val (.int c), .val (.int m), .val (.int v), z3, .no, .no, .no]) (fun i hi es ⟨v, z3, he⟩ => by
    subst he
    refine ⟨[.val (.int c), .val (.int m), .val (.int v), .val (.int i), .no, .no, .no], rfl, _, set_v (bin_o rfl rfl (div_i (by decide))), v / 3, .val (.int i), rfl⟩) ⟨_, _, rfl⟩
  obtain ⟨n, hn⟩ := of_nat (i := v / 32 % 7) (by omega)
  have hn7 : n < 7 := by omega
  obtain ⟨e3, h3, ts, v', y3, y5, y6, rfl, w1, w2⟩ := forL_rg (t := .nm 3) (n := n) (body := (gSeq (gSet 5 true (fC (.str [])))
    (gSeq (gFor (fRg1 (fCons (fVar 1) fNil)) (.nm 6) (gSeq (gSet 5 true (fBin dAdd (fVar 5) (fBin dIx (fC (.str [48, 49, 45])) (fBin dMod (fBin dDiv (fVar 2) (fC (.int 224))) (fC (.int 3))))))
    (gSet 2 true (fBin dDiv (fVar 2) (fC (.int 3))))))
    (gApp 4 (fVar 5))))) (es := [.val (.int c), .val (.int m), .val (.int v), z3, .own [], .no, .no]) (I := fun i es => ∃ (ts : List (List Nat)) (v' : Int) (y3 y5 y6 : Sl), es = [.val (.int c), .val (.int m), .val (.int v'), y3, .own (ts.map .str), y5, y6] ∧ (∀ t ∈ ts, Tm m t) ∧ ts.length = i) (fun i hi es ⟨ts, v', y3, y5, y6, he, w1, w2⟩ => by
      subst he
      refine ⟨[.val (.int c), .val (.int m), .val (.int v'), .val (.int i), .own (ts.map .str), y5, y6], rfl, ?_⟩
      obtain ⟨s, v2, z6, q1, q2⟩ := digit_loop m1 (x0 := .val (.int c)) (x3 := .val (.int i)) (x4 := .own (ts.map .str)) v' y6
      rw [seq_n (set_v (f := fC (.str [])) rfl)]
      show ∃ e2, gSeq _ _ [.val (.int c), .val (.int m), .val (.int v'), .val (.int i), .own (ts.map .str), .val (.str []), y6] = _ ∧ _
      rw [seq_n ((for_o (rg_o (n := m) rfl (by omega))).trans q2)]
      refine ⟨_, app_o (xs := ts.map .str) (d := .str s) rfl rfl (by rw [List.length_map]; omega), ts ++ [s], v2, .val (.int i), .val (.str s), z6, by rw [List.map_append]; rfl, fun t ht => ?_, by simp [w2]⟩
      rcases List.mem_append.mp ht with h | h
      · exact w1 t h
      · simp only [List.mem_singleton] at h
        subst h; exact q1) ⟨[], v, _, _, _, rfl, fun _ h => (by cases h), rfl⟩
  refine ⟨ts, w1, by omega, ?_⟩
  refine run0_rt (e := [.val (.int c), .val (.int m), .no, .no, .no, .no, .no]) rfl ?_
  unfold b_law_digits
  rw [seq_n (set_v (bin_o rfl rfl (div_i (by decide))))]
  show gSeq _ _ [.val (.int c), .val (.int m), .val (.int (c / 8)), .no, .no, .no, .no] = _
  have p1 : fBin dShl (fC (.int 1)) (fVar 1) [.val (.int c), .val (.int m), .val (.int (c / 8)), .no, .no, .no, .no] = .ok (.val (.int ((2 ^ m : Nat) : Int))) := bin_o rfl rfl (shl_o (by omega))
  rw [seq_n ((for_o (rg_o (n := 2 ^ m) p1 (Nat.le_trans (pow_le m1) (by decide)))).trans h2)]
  rw [seq_n (set_own (xs := []) rfl)]
  show gSeq _ _ [.val (.int c), .val (.int m), .val (.int v), z3, .own [], .no, .no] = _
  have p2 : fBin dMod (fBin dDiv (fVar 2) (fC (.int 32))) (fC (.int 7)) [.val (.int c), .val (.int m), .val (.int v), z3, .own [], .no, .no] = .ok (.val (.int n)) := by
    rw [bin_o (bin_o rfl rfl (div_i (by decide))) rfl (mod_i (by decide)), hn]
  rw [seq_n ((for_o (rg_o (n := n) p2 (by omega))).trans h3)]
  rfl
end K05
namespace K05
open PySem PySem.Spec PyProof.Rows L2 Fw K02 K03 Mt
variable {cl : Cl}
theorem add_nv {es : Fw.Env} {fa fb : Fw.Env → O R} {xs ys : List D} (ha : fa es = .ok (.new xs)) (hb : fb es = .ok (.val (.lst ys))) (hl : xs.length + ys.length ≤ 100000) : fBin dAdd fa fb es = .ok (.new (xs ++ ys)) := bin_g ha hb (by
  show (if xs.length + ys.length ≤ 100000 then some (R.new (xs ++ ys)) else none) = _
  rw [if_pos hl])
theorem add_bn {es : Fw.Env} {fa fb : Fw.Env → O R} {xs ys : List D} (ha : fa es = .ok (.bor xs)) (hb : fb es = .ok (.new ys)) (hl : xs.length + ys.length ≤ 100000) : fBin dAdd fa fb es = .ok (.new (xs ++ ys)) := bin_g ha hb (by
  show (if xs.length + ys.length ≤ 100000 then some (R.new (xs ++ ys)) else none) = _
  rw [if_pos hl])
theorem take_map (l : List (List Nat)) (k : Nat) : (l.map D.str).take k = (l.take k).map D.str := (List.map_take).symm
/-- one of three lists -/
theorem pick3 {es : Fw.Env} {a b c : Nat} {us : List (List Nat)} {d : Int} (h4 : fVar a es = .ok (.val (txs us))) (h3 : fVar c es = .ok (.val (.int d))) : ∃ ps : List (List Nat), (∀ p ∈ ps, p ∈ us) ∧ ps.length ≤ us.length ∧
    fBin dIx (fLst (fCons (fVar a) (fCons (fLst fNil) (fCons (fSl (fVar a) fNoPart (fPart (fC (.int 3)))) fNil)))) (fBin dMod (fVar c) (fC (.int 3))) es = .ok (.val (txs ps)) := by
  have hL := lst_o (cons_o h4 (cons_n (fa := fLst fNil) (xs := []) rfl (cons_n (slv_take (k := 3) (Or.inl h4) (fb := fC (.int 3)) rfl) nil_o))) (ds := [txs us, .lst [], .lst ((us.map .str).take 3)]) rfl (by simp)
  have hi : fBin dMod (fVar c) (fC (.int 3)) es = .ok (.val (.int (d % 3))) := bin_o h3 rfl (mod_i (by decide))
  have hx : ∀ {p : List (List Nat)}, (atI [txs us, .lst [], .lst ((us.map .str).take 3)] (d % 3)) = some (txs p) → fBin dIx (fLst (fCons (fVar a) (fCons (fLst fNil) (fCons (fSl (fVar a) fNoPart (fPart (fC (.int 3)))) fNil)))) (fBin dMod (fVar c) (fC (.int 3))) es = .ok (.val (txs p)) := fun {p} h => bin_g hL hi (by
    show (atI [txs us, .lst [], .lst ((us.map .str).take 3)] (d % 3)).map R.val = _
    rw [h]; rfl)
  obtain ⟨n, hn⟩ := of_nat (i := d % 3) (by omega)
  have h : n = 0 ∨ n = 1 ∨ n = 2 := by omega
  rcases h with rfl | rfl | rfl
  · exact ⟨us, fun _ h => h, Nat.le_refl _, hx (by rw [hn]; rfl)⟩
  · exact ⟨[], fun _ h => (by cases h), by simp, hx (by rw [hn]; rfl)⟩
  · refine ⟨us.take 3, fun _ h => List.mem_of_mem_take h, List.length_take_le' _ _, hx ?_⟩
    rw [hn]
    show some (D.lst ((us.map .str).take 3)) = _
    rw [take_map]
theorem ne_nil {es : Fw.Env} {i : Nat} {us : List (List Nat)} (hs : ∀ u ∈ us, Sg u) (h : fVar i es = .ok (.bor (us.map .str))) : fTest (fBin dNe (fVar i) (fLst fNil)) es = .ok (!us.isEmpty) := by
  refine test_o (bin_g (ra := .bor (us.map .str)) (rb := .new []) h rfl ?_)
  show (if shp 60 (txs us) && shp 60 (.lst []) then some (R.val (.bl (!deqL (us.map D.str) []))) else none) = _
  rw [shp_strs hs]
  show some (R.val (.bl (!deqL (us.map D.str) []))) = _
  rw [deqL_nil]
  cases us <;> rfl
theorem q_eq {es : Fw.Env} {i : Nat} {d : Int} (k : Int) (h : fVar i es = .ok (.val (.int d))) : fTest (fBin dEq (fBin dMod (fBin dDiv (fVar i) (fC (.int 3))) (fC (.int 4))) (fC (.int k))) es = .ok (d / 3 % 4 == k) := test_o (bin_o (bin_o (bin_o h rfl (div_i (by decide))) rfl (mod_i (by decide))) rfl (eq_i _ _))
/-- one more of them -/
theorem some1 {m : Nat} {d : Int} {x0 x1 x2 x4 x6 x7 : Sl} {us : List (List Nat)} (ht : ∀ t ∈ us, Tm m t) (hl : us.length ≤ 400) : ∃ vs : List (List Nat), (∀ t ∈ vs, Tm m t) ∧ vs.length ≤ 401 ∧
    gIf (fAnd (fTest (fBin dEq (fBin dMod (fBin dDiv (fVar 3) (fC (.int 3))) (fC (.int 4))) (fC (.int 1)))) (fTest (fBin dNe (fVar 5) (fLst fNil)))) (gApp 5 (fBin dIx (fVar 5) (fBin dMod (fBin dDiv (fVar 3) (fC (.int 12))) (fBi dLen (fCons (fVar 5) fNil))))) gNext [x0, x1, x2, .val (.int d), x4, .own (us.map .str), x6, x7] = .nx [x0, x1, x2, .val (.int d), x4, .own (vs.map .str), x6, x7] := by
  have h1 := q_eq (i := 3) (es := [x0, x1, x2, .val (.int d), x4, .own (us.map .str), x6, x7]) 1 rfl
  have h2 := ne_nil (i := 5) (es := [x0, x1, x2, .val (.int d), x4, .own (us.map .str), x6, x7]) (fun u hu => (ht u hu).2) rfl
  have h3 := and_o h1 h2
  cases hb : ((d / 3 % 4 == 1) && !us.isEmpty) with
  | false => rw [hb] at h3; exact ⟨us, ht, by omega, if_f h3⟩
  | true =>
    rw [hb] at h3
    have lp : 0 < us.length := by
      rw [Bool.and_eq_true] at hb
      cases us with
      | nil => simp at hb
      | cons a b => simp
    obtain ⟨n, hn⟩ := of_nat (i := d / 12 % us.length) (Int.emod_nonneg _ (by omega))
    have hlt : n < us.length := by have := Int.emod_lt_of_pos (d / 12) (show (0 : Int) < us.length by omega); omega
    have hi : fBin dIx (fVar 5) (fBin dMod (fBin dDiv (fVar 3) (fC (.int 12))) (fBi dLen (fCons (fVar 5) fNil))) [x0, x1, x2, .val (.int d), x4, .own (us.map .str), x6, x7] = .ok (.val (.str us[n])) := by
      refine bin_g (ra := .bor (us.map .str)) rfl (bin_o (bin_o rfl rfl (div_i (by decide))) (len_brw (ts := us) (Or.inr (Or.inr rfl))) (mod_i (by omega))) ?_
      show (atI (us.map D.str) (d / 12 % us.length)).map R.val = _
      rw [hn, Fw.atI_nat, List.getElem?_map, List.getElem?_eq_getElem hlt]; rfl
    refine ⟨us ++ [us[n]], fun t h => ?_, by simp; omega, ?_⟩
    · rcases List.mem_append.mp h with h | h
      · exact ht t h
      · simp only [List.mem_singleton] at h
        subst h; exact ht _ (List.getElem_mem hlt)
    · rw [if_t h3, app_o (xs := us.map .str) rfl hi (by rw [List.length_map]; omega), List.map_append]; rfl
/-- the last one left out -/
theorem some2 {m : Nat} {d : Int} {x0 x1 x2 x4 x6 x7 : Sl} {us : List (List Nat)} (ht : ∀ t ∈ us, Tm m t) (hl : us.length ≤ 401) : ∃ vs : List (List Nat), (∀ t ∈ vs, Tm m t) ∧ vs.length ≤ 401 ∧
    gIf (fTest (fBin dEq (fBin dMod (fBin dDiv (fVar 3) (fC (.int 3))) (fC (.int 4))) (fC (.int 2)))) (gSet 5 false (fSl (fVar 5) fNoPart (fPart (fNeg (fC (.int 1)))))) gNext [x0, x1, x2, .val (.int d), x4, .own (us.map .str), x6, x7] = .nx [x0, x1, x2, .val (.int d), x4, .own (vs.map .str), x6, x7] := by
  have h1 := q_eq (i := 3) (es := [x0, x1, x2, .val (.int d), x4, .own (us.map .str), x6, x7]) 2 rfl
  cases hb : (d / 3 % 4 == 2) with
  | false => rw [hb] at h1; exact ⟨us, ht, hl, if_f h1⟩
  | true =>
    rw [hb] at h1
    have hs : ∃ k, fSl (fVar 5) fNoPart (fPart (fNeg (fC (.int 1)))) [x0, x1, x2, .val (.int d), x4, .own (us.map .str), x6, x7] = .ok (.new ((us.map D.str).take k)) := ⟨_, rfl⟩
    obtain ⟨k, hs⟩ := hs
    rw [take_map] at hs
    refine ⟨us.take k, fun t h => ht t (List.mem_of_mem_take h), Nat.le_trans (List.length_take_le' _ _) (by omega), ?_⟩
    rw [if_t h1, set_own hs]; rfl
/-- a drawn one more -/
theorem some3 {m : Nat} (m1 : m ≤ 5) {d : Int} {x1 x2 x4 : Sl} {us : List (List Nat)} (ht : ∀ t ∈ us, Tm m t) (hl : us.length ≤ 401) : ∃ vs : List (List Nat), (∀ t ∈ vs, Tm m t) ∧ vs.length ≤ 900 ∧
    gIf (fTest (fBin dEq (fBin dMod (fBin dDiv (fVar 3) (fC (.int 3))) (fC (.int 4))) (fC (.int 3)))) (gSet 5 false (fBin dAdd (fVar 5) (fLst (fCons (fM1 dJoin (fC (.str [])) (fLc (fRg1 (fCons (fVar 0) fNil)) [7] (.nm 7) fYes (fBin dIx (fC (.str [48, 49, 45])) (fBin dMod (fBin dDiv (fCall0 (g_law_spread cl) (fCons (fVar 3) (fCons (fVar 7) fNil))) (fC (.int 9))) (fC (.int 3)))))) fNil)))) gNext [.val (.int m), x1, x2, .val (.int d), x4, .own (us.map .str), .no, .no] = .nx [.val (.int m), x1, x2, .val (.int d), x4, .own (vs.map .str), .no, .no] := by
  have h1 := q_eq (i := 3) (es := [.val (.int m), x1, x2, .val (.int d), x4, .own (us.map .str), .no, .no]) 3 rfl
  cases hb : (d / 3 % 4 == 3) with
  | false => rw [hb] at h1; exact ⟨us, ht, by omega, if_f h1⟩
  | true =>
    rw [hb] at h1
    obtain ⟨s, hs, hj⟩ := drawn (gs := g_law_spread cl) (es := [.val (.int m), x1, x2, .val (.int d), x4, .own (us.map .str), .no, .no]) (i := 0) (j := 3) (l := 7) (n := m) (dd := d) m1 (fun k hk => spr_nat (cl := cl) d k (by omega) (by omega)) rfl (fun _ => rfl) (fun _ => rfl)
    have ha := add_bn (fa := fVar 5) (es := [.val (.int m), x1, x2, .val (.int d), x4, .own (us.map .str), .no, .no]) (xs := us.map .str) rfl (lst1 hj) (by simp; omega)
    refine ⟨us ++ [s], fun t h => ?_, by simp; omega, ?_⟩
    · rcases List.mem_append.mp h with h | h
      · exact ht t h
      · simp only [List.mem_singleton] at h
        subst h; exact hs
    · rw [if_t h1, set_own ha, List.map_append]; rfl
theorem list_eq {m : Nat} (m1 : m ≤ 5) {N : List Nat} (hN : N.length ≤ 32) (fr : List Int) (d : Int) : ∃ ts : List (List Nat), (∀ t ∈ ts, Tm m t) ∧ ts.length ≤ 900 ∧ g_law_list cl [.int m, .lst ((zs N).map .int), .lst (fr.map .int), .int d] = .ok (.new (ts.map .str)) := by
  rw [zs_int]
  have hE0 : g_law_ends cl [.int m, nats N, .lst (fr.map .int)] = .ok (.new ((endsT m (zs N) fr).map .str)) := by
    have := law_ends_eq (cl := cl) m1 (zs N) fr
    rw [zs_int] at this; exact this
  show ∃ ts : List (List Nat), _ ∧ _ ∧ run0 8 (b_law_list cl) [.int m, nats N, .lst (fr.map .int), .int d] = _
  have h4 : fLc (fIt false (fVar 1)) [6] (.nm 6) fYes (fM1 dJoin (fC (.str [])) (fLc (fRg1 (fCons (fVar 0) fNil)) [7] (.nm 7) fYes (fBin dIx (fC (.str [48, 49])) (fBin dAnd (fBin dShr (fVar 6) (fVar 7)) (fC (.int 1)))))) [.val (.int m), .brw (nats N), .brw (.lst (fr.map .int)), .val (.int d), .no, .no, .no, .no] = .ok (.new ((N.map (K04.bits m)).map .str)) := by
    rw [lc_map (t := .nm 6) (vs := [6]) (r := fun i => .val (.int (i : Nat))) (fun _ => true) (fun n => .str (K04.bits m n)) (itB (l := N) (es := [.val (.int m), .brw (nats N), .brw (.lst (fr.map .int)), .val (.int d), .no, .no, .no, .no]) (f := fVar 1) rfl) (by omega) fun n hn => ⟨[.val (.int m), .brw (nats N), .brw (.lst (fr.map .int)), .val (.int d), .no, .no, .val (.int n), .no], rfl, rfl, fun _ => ⟨_, K04.bits_o (E := [.val (.int m), .brw (nats N), .brw (.lst (fr.map .int)), .val (.int d), .no, .no, .val (.int n), .no]) (a := 0) (b := 6) (l := 7) (m := m) (n := n) (by omega) rfl (fun _ => rfl) (by simp), rfl⟩⟩, filter_true, List.map_map]
    rfl
  have hb : ∀ u ∈ N.map (K04.bits m), Tm m u := fun u hu => by
    obtain ⟨n, _, rfl⟩ := List.mem_map.mp hu
    exact K04.bits_tm m n
  have hbl : (N.map (K04.bits m)).length ≤ 32 := by simpa using hN
  generalize N.map (K04.bits m) = B at h4 hb hbl
  obtain ⟨P, p1, p2, p3⟩ := pick3 (a := 4) (b := 4) (c := 3) (us := B) (d := d) (es := [.val (.int m), .brw (nats N), .brw (.lst (fr.map .int)), .val (.int d), .val (txs B), .no, .no, .no]) rfl rfl
  have he : fCall0 (g_law_ends cl) (fCons (fVar 0) (fCons (fVar 1) (fCons (fVar 2) fNil))) [.val (.int m), .brw (nats N), .brw (.lst (fr.map .int)), .val (.int d), .val (txs B), .no, .no, .no] = .ok (.new ((endsT m (zs N) fr).map .str)) := call_n (rs := [.val (.int m), .brw (nats N), .brw (.lst (fr.map .int))]) rfl hE0
  have el := ends_len m1 (zs N) fr
  have ha := add_nv he p3 (by simp; omega)
  rw [← List.map_append] at ha
  obtain ⟨us, u1, u2, u3⟩ := mixed_eq (cl := cl) (ts := endsT m (zs N) fr ++ P) (by simp; omega) d
  have hm : fCall0 (g_law_mixed cl) (fCons (fBin dAdd (fCall0 (g_law_ends cl) (fCons (fVar 0) (fCons (fVar 1) (fCons (fVar 2) fNil)))) (fBin dIx (fLst (fCons (fVar 4) (fCons (fLst fNil) (fCons (fSl (fVar 4) fNoPart (fPart (fC (.int 3)))) fNil)))) (fBin dMod (fVar 3) (fC (.int 3))))) (fCons (fVar 3) fNil)) [.val (.int m), .brw (nats N), .brw (.lst (fr.map .int)), .val (.int d), .val (txs B), .no, .no, .no] = .ok (.new (us.map .str)) := call_n (cons_n ha (cons_o rfl nil_o)) u3
  have ut : ∀ u ∈ us, Tm m u := fun u hu => by
    rcases List.mem_append.mp (u1 u hu) with h | h
    · exact ends_tm h
    · exact hb u (p1 u h)
  have ul : us.length ≤ 400 := by rw [u2, List.length_append]; omega
  obtain ⟨v1, a1, a2, a3⟩ := some1 (d := d) (x0 := .val (.int m)) (x1 := .brw (nats N)) (x2 := .brw (.lst (fr.map .int))) (x4 := .val (txs B)) (x6 := .no) (x7 := .no) ut ul
  obtain ⟨v2, b1, b2, b3⟩ := some2 (d := d) (x0 := .val (.int m)) (x1 := .brw (nats N)) (x2 := .brw (.lst (fr.map .int))) (x4 := .val (txs B)) (x6 := .no) (x7 := .no) a1 a2
  obtain ⟨v3, c1, c2, c3⟩ := some3 (cl := cl) m1 (d := d) (x1 := .brw (nats N)) (x2 := .brw (.lst (fr.map .int))) (x4 := .val (txs B)) b1 b2
  refine ⟨v3, c1, c2, ?_⟩
  refine run0_rt (e := [.val (.int m), .brw (nats N), .brw (.lst (fr.map .int)), .val (.int d), .no, .no, .no, .no]) rfl ?_
  unfold b_law_list
  rw [seq_n (set_n h4)]
  show gSeq _ _ [.val (.int m), .brw (nats N), .brw (.lst (fr.map .int)), .val (.int d), .val (txs B), .no, .no, .no] = _
  rw [seq_n (set_own hm)]
  show gSeq _ _ [.val (.int m), .brw (nats N), .brw (.lst (fr.map .int)), .val (.int d), .val (txs B), .own (us.map .str), .no, .no] = _
  rw [seq_n a3, seq_n b3, seq_n c3]
  rfl
/-! ### what is no telling -/
def oddL (m : Nat) : List D := [.non, .int 5, .bl true, .str (List.replicate (m + 1) 48), .str [], .lst [.str [48]], .str (List.replicate m 120), .tup [.str [45]]]
theorem oddL_no {m : Nat} (m0 : 1 ≤ m) (m1 : m ≤ 5) : ∀ x ∈ oddL m, g_is_term cl [x, .int m] = .ok (.val (.bl false)) := by
  intro x hx
  simp only [oddL, List.mem_cons, List.not_mem_nil, or_false] at hx
  rcases hx with rfl | rfl | rfl | rfl | rfl | rfl | rfl | rfl
  · exact term_other rfl (by decide)
  · exact term_other rfl (by decide)
  · exact term_other rfl (by decide)
  · exact term_no (by simp; omega) (Or.inl (by simp))
  · exact term_no (by simp) (Or.inl (by simp; omega))
  · exact term_other rfl (by decide)
  · exact term_no (by simp; omega) (Or.inr (rep_no m0 rfl))
  · exact term_other rfl (by decide)
theorem odd_eq {m : Nat} (m0 : 1 ≤ m) (m1 : m ≤ 5) {on fr : List Int} {ts : List (List Nat)} (ht : ∀ t ∈ ts, Tm m t) (hl : ts.length ≤ 900) (d : Int) : ∃ x : D, g_law_odd cl [txs ts, .int m, .int d] = .ok (.val x) ∧ g_is_telling cl [sayD cl m on fr, x] = .ok (.val (.bl false)) := by
  obtain ⟨j, hj⟩ := of_nat (i := d % 8) (by omega)
  have hj8 : j < (oddL m).length := by show j < 8; omega
  have hx := oddL_no (cl := cl) m0 m1 (oddL m)[j] (List.getElem_mem hj8)
  have hL := lst_o (es := [.brw (txs ts), .val (.int m), .val (.int d), .no, .no]) (cons_o (fa := fC .non) rfl (cons_o (fa := fC (.int 5)) rfl (cons_o (fa := fC (.bl true)) rfl (cons_o (bin_o (fa := fC (.str [48])) rfl (bin_o (fa := fVar 1) (d := dAdd) rfl (fb := fC (.int 1)) rfl (add_i _ _)) (mul_s (c := 48) (n := m + 1) (by omega))) (cons_o (fa := fC (.str [])) rfl (cons_n (lst1 (fa := fC (.str [48])) rfl) (cons_o (bin_o (fa := fC (.str [120])) (fb := fVar 1) rfl rfl (mul_s (c := 120) (by omega))) (cons_o (tup1 (fa := fC (.str [45])) rfl) nil_o)))))))) (ds := oddL m) rfl (by simp [oddL])
  have hix := bin_g (d := dIx) hL (bin_o (fa := fVar 2) (fb := fC (.int 8)) rfl rfl (mod_i (by decide))) (c := .val (oddL m)[j]) (by
    show (atI (oddL m) (d % 8)).map R.val = _
    rw [hj, Fw.atI_nat, List.getElem?_eq_getElem hj8]; rfl)
  generalize (oddL m)[j] = y at hx hix
  obtain ⟨k, hk⟩ := of_nat (i := d / 8 % ((ts.length : Int) + 1)) (Int.emod_nonneg _ (by omega))
  have h4 : fBin dMod (fBin dDiv (fVar 2) (fC (.int 8))) (fBin dAdd (fBi dLen (fCons (fVar 0) fNil)) (fC (.int 1))) [.brw (txs ts), .val (.int m), .val (.int d), .val y, .no] = .ok (.val (.int k)) := by
    rw [← hk]
    exact bin_o (bin_o rfl rfl (div_i (by decide))) (bin_o (len_brw (ts := ts) (Or.inl rfl)) rfl (add_i _ _)) (mod_i (by omega))
  have hfl := flat_strs ts
  have s1 : fSl (fVar 0) fNoPart (fPart (fVar 4)) [.brw (txs ts), .val (.int m), .val (.int d), .val y, .val (.int k)] = .ok (.new ((ts.map D.str).take k)) := by
    show O.of (((if (ts.map D.str).all flat then some (ts.map D.str) else none) : Option (List D)).map fun xs => R.new (cutL xs none (some (k : Int)))) = _
    rw [if_pos hfl]
    show O.ok (R.new (cutL (ts.map D.str) none (some (k : Int)))) = _
    rw [Fw.cut_take]
  have s2 : fSl (fVar 0) (fPart (fVar 4)) fNoPart [.brw (txs ts), .val (.int m), .val (.int d), .val y, .val (.int k)] = .ok (.new ((ts.map D.str).drop k)) := by
    show O.of (((if (ts.map D.str).all flat then some (ts.map D.str) else none) : Option (List D)).map fun xs => R.new (cutL xs (some (k : Int)) none)) = _
    rw [if_pos hfl]
    show O.ok (R.new (cutL (ts.map D.str) (some (k : Int)) none)) = _
    rw [Fw.cut_drop]
  have s3 := add_n (add_n s1 (lst1 (fa := fVar 3) (x := y) rfl) (by simp; omega)) s2 (by simp; omega)
  have hG : g_is_telling cl [sayD cl m on fr, .lst ((ts.map D.str).take k ++ [y] ++ (ts.map D.str).drop k)] = .ok (.val (.bl false)) := by
    rw [take_map, List.append_assoc]
    exact telling_bad (are_good_bad m1 (fun t h => ht t (List.mem_of_mem_take h)) hx _)
  generalize (ts.map D.str).take k ++ [y] ++ (ts.map D.str).drop k = G at s3 hG
  have ht2 : fBi dTupOf (fCons (fVar 0) fNil) [.brw (txs ts), .val (.int m), .val (.int d), .val y, .val (.int k)] = .ok (.val (.tup (ts.map .str))) := by
    refine bi_o (rs := [.brw (txs ts)]) rfl ?_
    show (if (ts.map D.str).all flat then some (ts.map D.str) else none).map (fun xs => R.val (.tup xs)) = _
    rw [if_pos hfl]; rfl
  have hL2 := lst_o (es := [.brw (txs ts), .val (.int m), .val (.int d), .val y, .val (.int k)]) (cons_n s3 (cons_o ht2 (cons_o (fa := fC .non) rfl (cons_o (bin_o (fa := fC (.str [45])) (fb := fVar 1) rfl rfl (mul_s (c := 45) (n := m) (by omega))) (cons_o (fa := fC .emp) rfl (cons_o (fa := fC (.int 5)) rfl nil_o)))))) (ds := [.lst G, .tup (ts.map .str), .non, .str (List.replicate m 45), .emp, .int 5]) rfl (by simp)
  obtain ⟨i, hi⟩ := of_nat (i := d / 300 % 6) (by omega)
  have hi6 : i < ([.lst G, .tup (ts.map .str), .non, .str (List.replicate m 45), .emp, .int 5] : List D).length := by show i < 6; omega
  have hix2 := bin_g (d := dIx) hL2 (bin_o (bin_o (fa := fVar 2) (fb := fC (.int 300)) rfl rfl (div_i (by decide))) (fb := fC (.int 6)) rfl (mod_i (by decide))) (c := .val ([.lst G, .tup (ts.map .str), .non, .str (List.replicate m 45), .emp, .int 5] : List D)[i]) (by
    show (atI ([.lst G, .tup (ts.map .str), .non, .str (List.replicate m 45), .emp, .int 5] : List D) (d / 300 % 6)).map R.val = _
    rw [hi, Fw.atI_nat, List.getElem?_eq_getElem hi6]; rfl)
  have hno : ∀ x ∈ ([.lst G, .tup (ts.map .str), .non, .str (List.replicate m 45), .emp, .int 5] : List D), g_is_telling cl [sayD cl m on fr, x] = .ok (.val (.bl false)) := fun x hx => by
    simp only [List.mem_cons, List.not_mem_nil, or_false] at hx
    rcases hx with rfl | rfl | rfl | rfl | rfl | rfl
    · exact hG
    · exact telling_off (n := "tuple") rfl (by decide)
    · exact telling_off (n := "NoneType") rfl (by decide)
    · exact telling_off (n := "str") rfl (by decide)
    · exact telling_off (n := "dict") rfl (by decide)
    · exact telling_off (n := "int") rfl (by decide)
  refine ⟨_, ?_, hno _ (List.getElem_mem hi6)⟩
  show run0 5 (b_law_odd cl) [txs ts, .int m, .int d] = _
  refine run0_rt (e := [.brw (txs ts), .val (.int m), .val (.int d), .no, .no]) rfl ?_
  unfold b_law_odd
  rw [seq_n (set_v hix)]
  show gSeq _ _ [.brw (txs ts), .val (.int m), .val (.int d), .val y, .no] = _
  rw [seq_n (set_v h4)]
  exact ret_v hix2
end K05
namespace K05
open PySem PySem.Spec PyProof.Rows L2 Fw K02 K03 Mt
variable {cl : Cl}
theorem isx_bool (b : Bool) : dIsX cl [.val (.bl b), .val (.ty "bool")] = some (.val (.bl true)) := by
  unfold dIsX isX
  exact isi_o b
theorem zs_of : ∀ l : List Int, (∀ n ∈ l, 0 ≤ n) → ∃ N : List Nat, l = zs N
  | [], _ => ⟨[], rfl⟩
  | a :: l, h => by
    obtain ⟨i, rfl⟩ := of_nat (h a (by simp))
    obtain ⟨N, rfl⟩ := zs_of l fun n hn => h n (by simp [hn])
    exact ⟨i :: N, rfl⟩
theorem zs_inj {a b : Nat} (h : (a : Int) = b) : a = b := by omega
theorem zs_nodup {N : List Nat} : (zs N).Nodup → N.Nodup := fun h => by
  unfold zs at h
  exact (List.pairwise_map.mp h).imp fun hne e => hne (by rw [e])
theorem zs_perm {A B : List Nat} (h : (zs A).Perm (zs B)) : A.Perm B := by
  have := h.map Int.toNat
  simpa [zs, List.map_map, Function.comp_def] using this
noncomputable def lawBody (cl : Cl) : Fw.Env → Out := (gSeq (gSet 3 true (fCall0 (g_law_spread cl) (fCons (fVar 2) (fCons (fBin dMod (fVar 1) (fC (.int 60))) fNil))))
    (gSeq (gAsg (.tp [4, 5, 6]) (fCall0 (g_law_rows cl) (fCons (fVar 2) (fCons (fBin dMod (fVar 1) (fC (.int 60))) (fCons (fC (.int 4)) fNil)))))
    (gSeq (gSet 7 true (fLc (fRg1 (fCons (fBin dShl (fC (.int 1)) (fVar 4)) fNil)) [14] (.nm 14) (fAnd (fTest (fBin dNin (fVar 14) (fVar 5))) (fTest (fBin dNin (fVar 14) (fVar 6)))) (fVar 14)))
    (gSeq (gSet 8 true (fMake (mk_Saying cl) [] (fCons (fVar 4) (fCons (fVar 5) (fCons (fVar 6) fNil)))))
    (gSeq (gSet 9 true (fIf (fAnd (fTest (fBin dEq (fBin dMod (fVar 2) (fC (.int 2))) (fC (.int 1)))) (fTest (fBin dEq (fBin dMod (fVar 3) (fC (.int 2))) (fC (.int 1))))) (fCall0 (g_law_digits cl) (fCons (fVar 2) (fCons (fVar 4) fNil))) (fCall0 (g_law_list cl) (fCons (fVar 4) (fCons (fVar 5) (fCons (fVar 6) (fCons (fBin dDiv (fVar 3) (fC (.int 7))) fNil)))))))
    (gSeq (gSet 10 true (fCall0 (g_law_is_told cl) (fCons (fVar 4) (fCons (fVar 5) (fCons (fVar 7) (fCons (fVar 9) fNil))))))
    (gSeq (gSet 11 true (fBi dList (fCons (fVar 9) fNil)))
    (gSeq (gIf (fOr (fTest (fBin dNe (fCall (g_is_telling cl) (fCons (fVar 8) (fCons (fVar 11) fNil))) (fVar 10))) (fNot (fTest (fBi (dIsX cl) (fCons (fCall (g_is_telling cl) (fCons (fVar 8) (fCons (fVar 11) fNil))) (fCons (fC (.ty "bool")) fNil)))))) (gRet (fC (.bl false))) gNext)
    (gSeq (gSet 12 false (fCall0 (g_law_caught cl) (fCons (fVar 8) (fCons (fVar 11) fNil))))
    (gSeq (gIf (fTest (fBin dNe (fVar 12) (fIf (fTest (fVar 10)) (fCall0 (g_law_due cl) (fCons (fVar 5) (fCons (fVar 9) fNil))) (fC (.str [116, 101, 108, 108, 105, 110, 103, 32]))))) (gRet (fC (.bl false))) gNext)
    (gSeq (gIf (fTest (fVar 10)) (gApp 12 (fC .non)) gNext)
    (gSeq (gIf (fTest (fBin dNe (fVar 11) (fVar 9))) (gRet (fC (.bl false))) gNext)
    (gSeq (gSet 13 true (fCall0 (g_law_odd cl) (fCons (fVar 9) (fCons (fVar 4) (fCons (fBin dDiv (fVar 3) (fC (.int 11))) fNil)))))
    (gIf (fOr (fTest (fBin dNis (fCall (g_is_telling cl) (fCons (fVar 8) (fCons (fVar 13) fNil))) (fC (.bl false)))) (fTest (fBin dNe (fCall0 (g_law_caught cl) (fCons (fVar 8) (fCons (fVar 13) fNil))) (fC (.str [116, 101, 108, 108, 105, 110, 103, 32]))))) (gRet (fC (.bl false))) gNext))))))))))))))
/-- what is handed in: terms of as many lamps -/
theorem some_eq {m : Nat} (m1 : m ≤ 5) {N : List Nat} (hN : N.length ≤ 32) {fr : List Int} {c d : Int} {k : Nat} {L x7 x8 x9 x10 x11 x12 x13 : Sl} : ∃ ts : List (List Nat), (∀ t ∈ ts, Tm m t) ∧ ts.length ≤ 900 ∧
    (fIf (fAnd (fTest (fBin dEq (fBin dMod (fVar 2) (fC (.int 2))) (fC (.int 1)))) (fTest (fBin dEq (fBin dMod (fVar 3) (fC (.int 2))) (fC (.int 1))))) (fCall0 (g_law_digits cl) (fCons (fVar 2) (fCons (fVar 4) fNil))) (fCall0 (g_law_list cl) (fCons (fVar 4) (fCons (fVar 5) (fCons (fVar 6) (fCons (fBin dDiv (fVar 3) (fC (.int 7))) fNil)))))) [L, .val (.int k), .val (.int c), .val (.int d), .val (.int m), .val (nats N), .val (.lst (fr.map .int)), x7, x8, x9, x10, x11, x12, x13, .no] = .ok (.new (ts.map .str)) := by
  have h1 : fAnd (fTest (fBin dEq (fBin dMod (fVar 2) (fC (.int 2))) (fC (.int 1)))) (fTest (fBin dEq (fBin dMod (fVar 3) (fC (.int 2))) (fC (.int 1)))) [L, .val (.int k), .val (.int c), .val (.int d), .val (.int m), .val (nats N), .val (.lst (fr.map .int)), x7, x8, x9, x10, x11, x12, x13, .no] = .ok ((c % 2 == 1) && (d % 2 == 1)) := and_o (test_o (bin_o (bin_o rfl rfl (mod_i (by decide))) rfl (eq_i _ _))) (test_o (bin_o (bin_o rfl rfl (mod_i (by decide))) rfl (eq_i _ _)))
  cases hb : ((c % 2 == 1) && (d % 2 == 1)) with
  | true =>
    obtain ⟨ts, h2, h3, h4⟩ := digits_eq (cl := cl) m1 c
    refine ⟨ts, h2, h3, ?_⟩
    rw [ifv_o h1, hb, if_pos rfl]
    exact call_n (rs := [.val (.int c), .val (.int m)]) rfl h4
  | false =>
    obtain ⟨ts, h2, h3, h4⟩ := list_eq (cl := cl) m1 hN fr (d / 7)
    rw [zs_int] at h4
    refine ⟨ts, h2, h3, ?_⟩
    rw [ifv_o h1, hb, if_neg Bool.false_ne_true]
    exact call_n (rs := [.val (.int m), .val (nats N), .val (.lst (fr.map .int)), .val (.int (d / 7))]) (cons_o rfl (cons_o rfl (cons_o rfl (cons_o (bin_o rfl rfl (div_i (by decide))) nil_o)))) h4
theorem law_body (K : KnL cl) {L : Sl} {k : Nat} {c : Int} {x3 x4 x5 x6 x7 x8 x9 x10 x11 x12 x13 : Sl} : ∃ y3 y4 y5 y6 y7 y8 y9 y10 y11 y12 y13, lawBody cl [L, .val (.int k), .val (.int c), x3, x4, x5, x6, x7, x8, x9, x10, x11, x12, x13, .no] = .nx [L, .val (.int k), .val (.int c), y3, y4, y5, y6, y7, y8, y9, y10, y11, y12, y13, .no] := by
  obtain ⟨d, hd⟩ := spr_nat (cl := cl) c ((k : Int) % 60) (by omega) (by omega)
  obtain ⟨m, on, fr, R0, hp⟩ := rows_eqM (cl := cl) c ((k : Int) % 60) 4 (by omega) (by omega) (by omega) (by omega)
  have m0 := R0.m0
  have m1 := R0.m1
  have lo := R0.lo
  have lf := R0.lf
  obtain ⟨N, rfl⟩ := zs_of on fun n hn => (R0.gon n hn).1
  have hN : N.length ≤ 32 := by simpa using lo
  obtain ⟨N', hN'⟩ := zs_of (sortI (zs N)) fun n hn => (R0.gon n ((sort_perm _).mem_iff.mp hn)).1
  have hp' : N'.Perm N := zs_perm (by rw [← hN']; exact sort_perm _)
  have hNl : N'.length ≤ 32 := by rw [hp'.length_eq]; exact hN
  have nd : N'.Nodup := hp'.nodup_iff.mpr (zs_nodup (List.nodup_append.mp R0.nd).1)
  have hS : Say cl m (zs N) fr = sayD cl m (zs N') (sortI fr) := by unfold Say; rw [hN']
  have hof : offs m (zs N' ++ sortI fr) = offs m (zs N ++ fr) := by rw [← hN']; exact offs_sort m (zs N) fr
  have m60 : ∀ E : Fw.Env, E[1]? = some (.val (.int k)) → fBin dMod (fVar 1) (fC (.int 60)) E = .ok (.val (.int ((k : Int) % 60))) := fun E h => bin_o (by unfold fVar; rw [h]) rfl (mod_i (by decide))
  have hmade := made_eq (cl := cl) R0
  rw [zs_int] at hp hmade
  unfold lawBody
  rw [seq_n (set_v (call_o (cons_o rfl (cons_o (m60 _ rfl) nil_o)) hd))]
  show ∃ y3 y4 y5 y6 y7 y8 y9 y10 y11 y12 y13, gSeq _ _ [L, .val (.int k), .val (.int c), .val (.int d), x4, x5, x6, x7, x8, x9, x10, x11, x12, x13, .no] = _
  rw [seq_n (asg_v (call_o (cons_o rfl (cons_o (m60 _ rfl) (cons_o rfl nil_o))) hp) rfl)]
  show ∃ y3 y4 y5 y6 y7 y8 y9 y10 y11 y12 y13, gSeq _ _ [L, .val (.int k), .val (.int c), .val (.int d), .val (.int m), .val (nats N), .val (.lst (fr.map .int)), x7, x8, x9, x10, x11, x12, x13, .no] = _
  have hoff := off_o (on := zs N) (fr := fr) (a := 4) (b := 5) (c := 6) (v := 14) (E := [L, .val (.int k), .val (.int c), .val (.int d), .val (.int m), .val (nats N), .val (.lst (fr.map .int)), x7, x8, x9, x10, x11, x12, x13, .no]) m1 rfl (fun _ => by rw [zs_int]; rfl) (fun _ => rfl) (by simp)
  rw [seq_n (set_n hoff)]
  show ∃ y3 y4 y5 y6 y7 y8 y9 y10 y11 y12 y13, gSeq _ _ [L, .val (.int k), .val (.int c), .val (.int d), .val (.int m), .val (nats N), .val (.lst (fr.map .int)), .val (nats (offs m (zs N ++ fr))), x8, x9, x10, x11, x12, x13, .no] = _
  rw [seq_n (set_v (make_v (rs := [.val (.int m), .val (nats N), .val (.lst (fr.map .int))]) rfl hmade))]
  show ∃ y3 y4 y5 y6 y7 y8 y9 y10 y11 y12 y13, gSeq _ _ [L, .val (.int k), .val (.int c), .val (.int d), .val (.int m), .val (nats N), .val (.lst (fr.map .int)), .val (nats (offs m (zs N ++ fr))), .val (Say cl m (zs N) fr), x9, x10, x11, x12, x13, .no] = _
  obtain ⟨ts, ht, hl, h9⟩ := some_eq (cl := cl) m1 hN (fr := fr) (c := c) (d := d) (k := k) (L := L) (x7 := .val (nats (offs m (zs N ++ fr)))) (x8 := .val (Say cl m (zs N) fr)) (x9 := x9) (x10 := x10) (x11 := x11) (x12 := x12) (x13 := x13)
  rw [seq_n (set_n h9)]
  show ∃ y3 y4 y5 y6 y7 y8 y9 y10 y11 y12 y13, gSeq _ _ [L, .val (.int k), .val (.int c), .val (.int d), .val (.int m), .val (nats N), .val (.lst (fr.map .int)), .val (nats (offs m (zs N ++ fr))), .val (Say cl m (zs N) fr), .val (txs ts), x10, x11, x12, x13, .no] = _
  have sg : ∀ t ∈ ts, Sg t := fun t h => (ht t h).2
  have ol := offs_le m1 (zs N ++ fr)
  obtain ⟨g, hg⟩ : ∃ g : Bool, g = (ts.all (clean (offs m (zs N ++ fr))) && told N ts) := ⟨_, rfl⟩
  have h10 := is_told_eq (cl := cl) (m := m) hN ol sg (by omega)
  rw [← hg] at h10
  rw [seq_n (set_v (call_o (rs := [.val (.int m), .val (nats N), .val (nats (offs m (zs N ++ fr))), .val (txs ts)]) rfl h10))]
  show ∃ y3 y4 y5 y6 y7 y8 y9 y10 y11 y12 y13, gSeq _ _ [L, .val (.int k), .val (.int c), .val (.int d), .val (.int m), .val (nats N), .val (.lst (fr.map .int)), .val (nats (offs m (zs N ++ fr))), .val (Say cl m (zs N) fr), .val (txs ts), .val (.bl g), x11, x12, x13, .no] = _
  have h11 : fBi dList (fCons (fVar 9) fNil) [L, .val (.int k), .val (.int c), .val (.int d), .val (.int m), .val (nats N), .val (.lst (fr.map .int)), .val (nats (offs m (zs N ++ fr))), .val (Say cl m (zs N) fr), .val (txs ts), .val (.bl g), x11, x12, x13, .no] = .ok (.new (ts.map .str)) := rfl
  rw [seq_n (set_n h11)]
  show ∃ y3 y4 y5 y6 y7 y8 y9 y10 y11 y12 y13, gSeq _ _ [L, .val (.int k), .val (.int c), .val (.int d), .val (.int m), .val (nats N), .val (.lst (fr.map .int)), .val (nats (offs m (zs N ++ fr))), .val (Say cl m (zs N) fr), .val (txs ts), .val (.bl g), .val (txs ts), x12, x13, .no] = _
  have htl : g_is_telling cl [Say cl m (zs N) fr, txs ts] = .ok (.val (.bl g)) := by
    rw [hS, telling_eq m1 hNl ht, hof, told_perm hp', hg]
  have hc12 : fCall (g_is_telling cl) (fCons (fVar 8) (fCons (fVar 11) fNil)) [L, .val (.int k), .val (.int c), .val (.int d), .val (.int m), .val (nats N), .val (.lst (fr.map .int)), .val (nats (offs m (zs N ++ fr))), .val (Say cl m (zs N) fr), .val (txs ts), .val (.bl g), .val (txs ts), x12, x13, .no] = .ok (.val (.bl g)) := call_val (rs := [.val (Say cl m (zs N) fr), .val (txs ts)]) rfl htl
  have t12 : fOr (fTest (fBin dNe (fCall (g_is_telling cl) (fCons (fVar 8) (fCons (fVar 11) fNil))) (fVar 10))) (fNot (fTest (fBi (dIsX cl) (fCons (fCall (g_is_telling cl) (fCons (fVar 8) (fCons (fVar 11) fNil))) (fCons (fC (.ty "bool")) fNil))))) [L, .val (.int k), .val (.int c), .val (.int d), .val (.int m), .val (nats N), .val (.lst (fr.map .int)), .val (nats (offs m (zs N ++ fr))), .val (Say cl m (zs N) fr), .val (txs ts), .val (.bl g), .val (txs ts), x12, x13, .no] = .ok false :=
    (or_f (test_o (bin_o hc12 rfl (ne_b g)))).trans (not_o (k := true) (test_o (bi_o (cons_o hc12 (cons_o rfl nil_o)) (isx_bool g))))
  rw [seq_n (if_f t12)]
  -- the two ways
  obtain ⟨x12', h12, h14, h15⟩ : ∃ s12 : Sl, gSet 12 false (fCall0 (g_law_caught cl) (fCons (fVar 8) (fCons (fVar 11) fNil))) [L, .val (.int k), .val (.int c), .val (.int d), .val (.int m), .val (nats N), .val (.lst (fr.map .int)), .val (nats (offs m (zs N ++ fr))), .val (Say cl m (zs N) fr), .val (txs ts), .val (.bl g), .val (txs ts), x12, x13, .no] = .nx [L, .val (.int k), .val (.int c), .val (.int d), .val (.int m), .val (nats N), .val (.lst (fr.map .int)), .val (nats (offs m (zs N ++ fr))), .val (Say cl m (zs N) fr), .val (txs ts), .val (.bl g), .val (txs ts), s12, x13, .no] ∧ fTest (fBin dNe (fVar 12) (fIf (fTest (fVar 10)) (fCall0 (g_law_due cl) (fCons (fVar 5) (fCons (fVar 9) fNil))) (fC (.str [116, 101, 108, 108, 105, 110, 103, 32])))) [L, .val (.int k), .val (.int c), .val (.int d), .val (.int m), .val (nats N), .val (.lst (fr.map .int)), .val (nats (offs m (zs N ++ fr))), .val (Say cl m (zs N) fr), .val (txs ts), .val (.bl g), .val (txs ts), s12, x13, .no] = .ok false ∧ ∃ u12, gIf (fTest (fVar 10)) (gApp 12 (fC .non)) gNext [L, .val (.int k), .val (.int c), .val (.int d), .val (.int m), .val (nats N), .val (.lst (fr.map .int)), .val (nats (offs m (zs N ++ fr))), .val (Say cl m (zs N) fr), .val (txs ts), .val (.bl g), .val (txs ts), s12, x13, .no] = .nx [L, .val (.int k), .val (.int c), .val (.int d), .val (.int m), .val (nats N), .val (.lst (fr.map .int)), .val (nats (offs m (zs N ++ fr))), .val (Say cl m (zs N) fr), .val (txs ts), .val (.bl g), .val (txs ts), u12, x13, .no] := by
    cases g with
    | true =>
      have hgg := hg.symm
      rw [Bool.and_eq_true] at hgg
      have tr := trimmed_eq (cl := cl) m1 hNl (fr := sortI fr) nd ht (by omega) (by rw [hof]; exact hgg.1) (by rw [told_perm hp']; exact hgg.2)
      rw [← hS] at tr
      have et : trimP (told N') [] ts = trimP (told N) [] ts := by rw [show told N' = told N from funext fun ts => told_perm hp' ts]
      rw [et] at tr
      have tm : ∀ t ∈ trimP (told N) [] ts, Sg t := fun t h => by
        rcases trim_mem _ _ _ _ h with h | h
        · cases h
        · exact sg t h
      have tlen := trim_len (told N) ts []
      refine ⟨.own ((trimP (told N) [] ts).map .str), set_own (call_n (rs := [.val (Say cl m (zs N) fr), .val (txs ts)]) rfl (caught_ok (on := sortI (zs N)) (fr := sortI fr) tr)), ?_, .own ((trimP (told N) [] ts).map .str ++ [.non]), ?_⟩
      · have hd2 : fIf (fTest (fVar 10)) (fCall0 (g_law_due cl) (fCons (fVar 5) (fCons (fVar 9) fNil))) (fC (.str [116, 101, 108, 108, 105, 110, 103, 32])) [L, .val (.int k), .val (.int c), .val (.int d), .val (.int m), .val (nats N), .val (.lst (fr.map .int)), .val (nats (offs m (zs N ++ fr))), .val (Say cl m (zs N) fr), .val (txs ts), .val (.bl true), .val (txs ts), .own ((trimP (told N) [] ts).map .str), x13, .no] = .ok (.val (txs (trimP (told N) [] ts))) := by
          rw [ifv_o (k := true) rfl, if_pos rfl]
          exact call_o (rs := [.val (nats N), .val (txs ts)]) rfl (due_eq hN sg (by omega))
        exact test_o (bin_g (ra := .bor ((trimP (told N) [] ts).map .str)) rfl hd2 (ne_strs tm rfl rfl))
      · rw [if_t (tt := fTest (fVar 10)) rfl]
        exact app_o (xs := (trimP (told N) [] ts).map .str) (d := .non) rfl rfl (by rw [List.length_map]; simp at tlen; omega)
    | false =>
      have hx := caught_x K (trimmed_bad (cl := cl) (on := sortI (zs N)) (fr := sortI fr) (x := txs ts) htl (nrm_dat _))
      refine ⟨.val (.str wTelling), set_v (call_o (rs := [.val (Say cl m (zs N) fr), .val (txs ts)]) rfl hx), ?_, _, if_f (tt := fTest (fVar 10)) rfl⟩
      refine test_o (bin_o (b := .str wTelling) rfl (by rw [ifv_o (k := false) rfl, if_neg Bool.false_ne_true]; rfl) ?_)
      rw [K04.ne_txt (by decide) (by decide)]; rfl
  obtain ⟨u12, h15⟩ := h15
  rw [seq_n h12, seq_n (if_f h14), seq_n h15]
  have t16 : fTest (fBin dNe (fVar 11) (fVar 9)) [L, .val (.int k), .val (.int c), .val (.int d), .val (.int m), .val (nats N), .val (.lst (fr.map .int)), .val (nats (offs m (zs N ++ fr))), .val (Say cl m (zs N) fr), .val (txs ts), .val (.bl g), .val (txs ts), u12, x13, .no] = .ok false := test_o (bin_o (a := txs ts) (b := txs ts) rfl rfl (ne_strs sg rfl rfl))
  rw [seq_n (if_f t16)]
  obtain ⟨x, h17, hx⟩ := odd_eq (cl := cl) m0 m1 (on := sortI (zs N)) (fr := sortI fr) ht hl ((d : Int) / 11)
  rw [seq_n (set_v (call_o (rs := [.val (txs ts), .val (.int m), .val (.int ((d : Int) / 11))]) (cons_o rfl (cons_o rfl (cons_o (bin_o rfl rfl (div_i (by decide))) nil_o))) h17))]
  show ∃ y3 y4 y5 y6 y7 y8 y9 y10 y11 y12 y13, gIf _ _ _ [L, .val (.int k), .val (.int c), .val (.int d), .val (.int m), .val (nats N), .val (.lst (fr.map .int)), .val (nats (offs m (zs N ++ fr))), .val (Say cl m (zs N) fr), .val (txs ts), .val (.bl g), .val (txs ts), u12, .val x, .no] = _
  have c18 : fCall (g_is_telling cl) (fCons (fVar 8) (fCons (fVar 13) fNil)) [L, .val (.int k), .val (.int c), .val (.int d), .val (.int m), .val (nats N), .val (.lst (fr.map .int)), .val (nats (offs m (zs N ++ fr))), .val (Say cl m (zs N) fr), .val (txs ts), .val (.bl g), .val (txs ts), u12, .val x, .no] = .ok (.val (.bl false)) := call_val (rs := [.val (Say cl m (zs N) fr), .val x]) rfl hx
  have t18 : fOr (fTest (fBin dNis (fCall (g_is_telling cl) (fCons (fVar 8) (fCons (fVar 13) fNil))) (fC (.bl false)))) (fTest (fBin dNe (fCall0 (g_law_caught cl) (fCons (fVar 8) (fCons (fVar 13) fNil))) (fC (.str [116, 101, 108, 108, 105, 110, 103, 32])))) [L, .val (.int k), .val (.int c), .val (.int d), .val (.int m), .val (nats N), .val (.lst (fr.map .int)), .val (nats (offs m (zs N ++ fr))), .val (Say cl m (zs N) fr), .val (txs ts), .val (.bl g), .val (txs ts), u12, .val x, .no] = .ok false :=
    (or_f (test_o (bin_o c18 rfl rfl))).trans (test_o (bin_o (call_o (rs := [.val (Say cl m (zs N) fr), .val x]) rfl (caught_x K (trimmed_bad (cl := cl) hx (nrm_dat _)))) rfl (by rw [K04.ne_txt (by decide) (by decide)]; rfl)))
  exact ⟨_, _, _, _, _, _, _, _, _, _, _, if_f t18⟩
theorem law_eq (K : KnL cl) (ns : List Int) (hn : ns.length ≤ 1000) : g_law cl [.lst (ns.map .int)] = .ok (.val (.bl true)) := by
  show run0 15 (b_law cl) [.lst (ns.map .int)] = _
  refine run0_rt (e := [.brw (.lst (ns.map .int)), .no, .no, .no, .no, .no, .no, .no, .no, .no, .no, .no, .no, .no, .no]) rfl ?_
  unfold b_law
  obtain ⟨e2, h2, _⟩ := forL_en (t := .tp [1, 2]) (body := lawBody cl) (I := fun es => ∃ L x1 x2 x3 x4 x5 x6 x7 x8 x9 x10 x11 x12 x13, es = [L, x1, x2, x3, x4, x5, x6, x7, x8, x9, x10, x11, x12, x13, .no]) (fun k c es ⟨L, x1, x2, x3, x4, x5, x6, x7, x8, x9, x10, x11, x12, x13, h⟩ => by
    subst h
    obtain ⟨y3, y4, y5, y6, y7, y8, y9, y10, y11, y12, y13, e⟩ := law_body K (L := L) (k := k) (c := c) (x3 := x3) (x4 := x4) (x5 := x5) (x6 := x6) (x7 := x7) (x8 := x8) (x9 := x9) (x10 := x10) (x11 := x11) (x12 := x12) (x13 := x13)
    exact ⟨_, rfl, _, e, _, _, _, _, _, _, _, _, _, _, _, _, _, _, rfl⟩) (ns ++ [0]) 0 [.brw (.lst (ns.map .int)), .no, .no, .no, .no, .no, .no, .no, .no, .no, .no, .no, .no, .no, .no] ⟨_, _, _, _, _, _, _, _, _, _, _, _, _, _, rfl⟩
  show gSeq (gFor (fEnum true (fCons (fBin dAdd (fVar 0) (fLst (fCons (fC (.int 0)) fNil))) fNil)) (.tp [1, 2]) (lawBody cl)) _ _ = _
  rw [seq_n ((for_o (cells_o hn rfl)).trans h2)]
  rfl
end K05
namespace K05
open PySem PySem.Spec PyProof.Rows L2 Fw
open K02 K03
section
variable {P : Program} {w : World} {K : PySem.W.Frag} {mg : Str → Option Value} {base : Heap} {T : List Addr} {cl : Cl}
theorem ok_all_settings {f_all_settings : Addr} {fd_all_settings : FuncData} (D_all_settings : Def K mg "all_settings" s_all_settings P_all_settings f_all_settings fd_all_settings) (okcl : ClOk K cl) (z_list : mg "list" = none) (z_range : mg "range" = none) :
    FnOk P w K mg base CX0 1 f_all_settings fd_all_settings P_all_settings (spD K T 1 (g_all_settings cl)) :=
  def_ok0 D_all_settings sc_all_settings (b_all_settings cl) fun cdv A outer s H E hr =>
      (dss_one (ds_ret (de_lrg1 z_list z_range (de_bin op_shl od_shl de_int (de_var 0)))))
theorem ok_is_count {f_is_count : Addr} {fd_is_count : FuncData} (D_is_count : Def K mg "is_count" s_is_count P_is_count f_is_count fd_is_count) (okcl : ClOk K cl) (z_int : mg "int" = none) (z_type : mg "type" = none) (c_MOST_LAMPS : ∃ t, mg "MOST_LAMPS" = some (.int 5 t)) :
    FnOk P w K mg base CX0 1 f_is_count fd_is_count P_is_count (spD K T 1 (g_is_count cl)) :=
  def_ok0 D_is_count sc_is_count (b_is_count cl) fun cdv A outer s H E hr =>
      (dss_one (ds_ret (de_and (de_cmp op_isA od_is (de_biT call_type1 cd_type z_type boot_type (da_cons (de_var 0) da_nil)) (de_bltn z_int boot_int)) (de_one (de_chain op_le od_le op_le od_le de_int (de_var 0) (de_gint 5 c_MOST_LAMPS))))))
theorem ok_is_setting {f_is_setting : Addr} {fd_is_setting : FuncData} (D_is_setting : Def K mg "is_setting" s_is_setting P_is_setting f_is_setting fd_is_setting) (okcl : ClOk K cl) (z_int : mg "int" = none) (z_type : mg "type" = none) :
    FnOk P w K mg base CX0 1 f_is_setting fd_is_setting P_is_setting (spD K T 2 (g_is_setting cl)) :=
  def_ok0 D_is_setting sc_is_setting (b_is_setting cl) fun cdv A outer s H E hr =>
      (dss_one (ds_ret (de_and (de_cmp op_isA od_is (de_biT call_type1 cd_type z_type boot_type (da_cons (de_var 0) da_nil)) (de_bltn z_int boot_int)) (de_one (de_chain op_le od_le op_lt od_lt de_int (de_var 0) (de_bin op_shl od_shl de_int (de_var 1)))))))
theorem ok_rising_settings {f_rising_settings : Addr} {fd_rising_settings : FuncData} (D_rising_settings : Def K mg "rising_settings" s_rising_settings P_rising_settings f_rising_settings fd_rising_settings) {f_is_setting : Addr} {fd_is_setting : FuncData} (D_is_setting : Def K mg "is_setting" s_is_setting P_is_setting f_is_setting fd_is_setting) (okcl : ClOk K cl) (G_is_setting : FnOk P w K mg base CX0 1 f_is_setting fd_is_setting P_is_setting (spD K T 2 (g_is_setting cl))) (x_BadRows : Exq K mg "BadRows" (cl.at_ "BadRows")) (z_len : mg "len" = none) (z_list : mg "list" = none) (z_set : mg "set" = none) (z_sorted : mg "sorted" = none) (z_type : mg "type" = none) :
    FnOk P w K mg base (L2.CX P w) 2 f_rising_settings fd_rising_settings P_rising_settings (spD K T 2 (g_rising_settings cl)) :=
  fn_okX D_rising_settings.fn sc_rising_settings (b_rising_settings cl) fun cdv A outer s H E hr =>
      (dss_cons (ds_if (dt_cmp op_nisA od_nis (de_biT call_type1 cd_type z_type boot_type (da_cons (de_var 0) da_nil)) (de_bltn z_list boot_list)) (dss_one (ds_raise tkX x_BadRows)) dss_nil)
      (dss_cons (ds_for (t := (.nm 2)) (di_any (de_var 0)) (pgN 2 sc_rising_settings.nd) (dss_one (ds_if (dt_not (dt_val (de_call G_is_setting pass0 (hr.mono (by decide)) D_is_setting.at_ D_is_setting.fn.kp D_is_setting.bd (da_cons (de_var 2) (da_cons (de_var 1) da_nil)) (fCons_len (fCons_len fNil_len))))) (dss_one (ds_raise tkX x_BadRows)) dss_nil)) (passes_of rfl))
      (dss_cons (ds_if (dt_cmp (op_neD (hq hr)) od_ne (de_lenSet z_len z_set (de_var 0)) (de_bi call_len cd_len z_len boot_len (da_cons (de_var 0) da_nil))) (dss_one (ds_raise tkX x_BadRows)) dss_nil)
      (dss_one (ds_ret (de_bi cr_sortedA cd_sorted z_sorted boot_sorted (da_cons (de_var 0) da_nil)))))))
theorem ok_Saying___init {f_Saying___init : Addr} {fd_Saying___init : FuncData} (D_Saying___init : FunD K "__init__" "Saying.__init__" (defArgs s_Saying___init) (defBody s_Saying___init) (defScope s_Saying___init) [.non] [] f_Saying___init fd_Saying___init) {f_all_settings : Addr} {fd_all_settings : FuncData} (D_all_settings : Def K mg "all_settings" s_all_settings P_all_settings f_all_settings fd_all_settings) {f_is_count : Addr} {fd_is_count : FuncData} (D_is_count : Def K mg "is_count" s_is_count P_is_count f_is_count fd_is_count) {f_rising_settings : Addr} {fd_rising_settings : FuncData} (D_rising_settings : Def K mg "rising_settings" s_rising_settings P_rising_settings f_rising_settings fd_rising_settings) (okcl : ClOk K cl) (G_all_settings : FnOk P w K mg base CX0 1 f_all_settings fd_all_settings P_all_settings (spD K T 1 (g_all_settings cl))) (G_is_count : FnOk P w K mg base CX0 1 f_is_count fd_is_count P_is_count (spD K T 1 (g_is_count cl))) (G_rising_settings : FnOk P w K mg base (L2.CX P w) 2 f_rising_settings fd_rising_settings P_rising_settings (spD K T 2 (g_rising_settings cl))) (C_Saying : Cls K (cl.at_ "Saying")) (NA_Saying_free : NoAttr K (cl.at_ "Saying") "_free") (NA_Saying_many : NoAttr K (cl.at_ "Saying") "_many") (NA_Saying_off : NoAttr K (cl.at_ "Saying") "_off") (NA_Saying_on : NoAttr K (cl.at_ "Saying") "_on") (x_BadCount : Exq K mg "BadCount" (cl.at_ "BadCount")) (x_BadRows : Exq K mg "BadRows" (cl.at_ "BadRows")) (z_len : mg "len" = none) (z_set : mg "set" = none) :
    FnOk P w K mg base (L2.CX P w) 3 f_Saying___init fd_Saying___init P_Saying___init (spI K T 4 (cl.at_ "Saying") (g_Saying___init cl)) :=
  fn_okI D_Saying___init sc_Saying___init (b_Saying___init cl) (by decide) fun x cdv A outer s H E hr =>
      (dbs_cons (db_of (ds_if (dt_not (dt_val (de_call G_is_count pass0 (hr.mono (by decide)) D_is_count.at_ D_is_count.fn.kp D_is_count.bd (da_cons (de_var 1) da_nil) (fCons_len fNil_len)))) (dss_one (ds_raise tkX x_BadCount)) dss_nil) (nrt_if nrt_raise nrt_next))
      (dbs_cons (db_fld (de_var 1) C_Saying NA_Saying_many (de_var 0))
      (dbs_cons (db_fld (de_callX G_rising_settings tkX (hr.mono (by decide)) D_rising_settings.at_ D_rising_settings.fn.kp D_rising_settings.bd (da_cons (de_var 2) (da_cons (de_var 1) da_nil)) (fCons_len (fCons_len fNil_len))) C_Saying NA_Saying_on (de_var 0))
      (dbs_cons (db_fld (de_if (dt_cmp op_isA od_is (de_var 3) de_non) (de_lst da_nil) (de_callX G_rising_settings tkX (hr.mono (by decide)) D_rising_settings.at_ D_rising_settings.fn.kp D_rising_settings.bd (da_cons (de_var 3) (da_cons (de_var 1) da_nil)) (fCons_len (fCons_len fNil_len)))) C_Saying NA_Saying_free (de_var 0))
      (dbs_cons (db_of (ds_set (i := 4) (fz := true) sc_Saying___init.nd (de_bin op_addA od_add (de_fld (de_var 0) C_Saying NA_Saying_on) (de_fld (de_var 0) C_Saying NA_Saying_free))) nrt_set)
      (dbs_cons (db_of (ds_if (dt_cmp (op_neD (hq hr)) od_ne (de_lenSet z_len z_set (de_var 4)) (de_bi call_len cd_len z_len boot_len (da_cons (de_var 4) da_nil))) (dss_one (ds_raise tkX x_BadRows)) dss_nil) (nrt_if nrt_raise nrt_next))
      (dbs_one (db_fld (de_lc (own := [("setting", 5)]) (t := (.nm 5)) sc_Saying___init.nd (di_any (de_call G_all_settings pass0 (hr.mono (by decide)) D_all_settings.at_ D_all_settings.fn.kp D_all_settings.bd (da_cons (de_var 1) da_nil) (fCons_len fNil_len))) (blkOk_by (N := N_Saying___init) (sc := defScope s_Saying___init) (by decide +kernel)) (fun _ _ _ _ _ => (pgN 5 sc_Saying___init.nd)) (fun _ _ _ _ _ => (dts_one (dt_cmp op_notIn_seq od_nin (de_var 5) (de_var 4)))) (fun _ _ _ _ _ => (de_var 5))) C_Saying NA_Saying_off (de_var 0)))))))))
theorem ok_law_word {f_law_word : Addr} {fd_law_word : FuncData} (D_law_word : Def K mg "_law_word" s_law_word P_law_word f_law_word fd_law_word) (okcl : ClOk K cl) (xg_BadCount : mg "BadCount" = some (.ref (cl.at_ "BadCount"))) (xg_BadNote : mg "BadNote" = some (.ref (cl.at_ "BadNote"))) (xg_BadRows : mg "BadRows" = some (.ref (cl.at_ "BadRows"))) (xg_BadTelling : mg "BadTelling" = some (.ref (cl.at_ "BadTelling"))) (xg_BadTerm : mg "BadTerm" = some (.ref (cl.at_ "BadTerm"))) (z_ValueError : mg "ValueError" = none) (z_int : mg "int" = none) (z_isinstance : mg "isinstance" = none) :
    FnOk P w K mg base CX0 1 f_law_word fd_law_word P_law_word (spD K T 1 (g_law_word cl)) :=
  def_ok0 D_law_word sc_law_word (b_law_word cl) fun cdv A outer s H E hr =>
      (dss_cons (ds_if (dt_w (dw_or (dt_cmp op_isA od_is (de_var 0) de_non) (dw_or1 (dt_not (dt_val (de_bi call_isiX (cd_isX okcl) z_isinstance boot_isinstance (da_cons (de_var 0) (da_cons (de_bltn z_ValueError rfl) da_nil)))))))) (dss_one (ds_ret (de_str [110, 111, 110, 101]))) dss_nil)
      (dss_cons (ds_set (i := 1) (fz := true) sc_law_word.nd (de_bin op_addA od_add (de_bin op_mulA od_mulA (de_str [99, 111, 117, 110, 116, 32]) (de_biT call_intA cd_int z_int boot_int (da_cons (de_bi call_isiX (cd_isX okcl) z_isinstance boot_isinstance (da_cons (de_var 0) (da_cons (de_cls xg_BadCount) da_nil))) da_nil))) (de_bin op_mulA od_mulA (de_str [114, 111, 119, 115, 32]) (de_biT call_intA cd_int z_int boot_int (da_cons (de_bi call_isiX (cd_isX okcl) z_isinstance boot_isinstance (da_cons (de_var 0) (da_cons (de_cls xg_BadRows) da_nil))) da_nil)))))
      (dss_cons (ds_set (i := 1) (fz := true) sc_law_word.nd (de_bin op_addA od_add (de_bin op_addA od_add (de_var 1) (de_bin op_mulA od_mulA (de_str [116, 101, 114, 109, 32]) (de_biT call_intA cd_int z_int boot_int (da_cons (de_bi call_isiX (cd_isX okcl) z_isinstance boot_isinstance (da_cons (de_var 0) (da_cons (de_cls xg_BadTerm) da_nil))) da_nil)))) (de_bin op_mulA od_mulA (de_str [116, 101, 108, 108, 105, 110, 103, 32]) (de_biT call_intA cd_int z_int boot_int (da_cons (de_bi call_isiX (cd_isX okcl) z_isinstance boot_isinstance (da_cons (de_var 0) (da_cons (de_cls xg_BadTelling) da_nil))) da_nil)))))
      (dss_one (ds_ret (de_bin op_addA od_add (de_var 1) (de_bin op_mulA od_mulA (de_str [110, 111, 116, 101, 32]) (de_biT call_intA cd_int z_int boot_int (da_cons (de_bi call_isiX (cd_isX okcl) z_isinstance boot_isinstance (da_cons (de_var 0) (da_cons (de_cls xg_BadNote) da_nil))) da_nil)))))))))
theorem ok_Saying_on {f_Saying_on : Addr} {fd_Saying_on : FuncData} (D_Saying_on : Fun K "on" "Saying.on" s_Saying_on f_Saying_on fd_Saying_on) (okcl : ClOk K cl) (C_Saying : Cls K (cl.at_ "Saying")) (NA_Saying_on : NoAttr K (cl.at_ "Saying") "_on") (z_list : mg "list" = none) :
    FnOk P w K mg base CX0 1 f_Saying_on fd_Saying_on P_Saying_on (spD K T 1 (g_Saying_on cl)) :=
  fn_ok00 D_Saying_on sc_Saying_on (b_Saying_on cl) fun cdv A outer s H E hr =>
      (dss_one (ds_ret (de_biT (call_listA rfl) cd_list z_list boot_list (da_cons (de_fld (de_var 0) C_Saying NA_Saying_on) da_nil))))
theorem ok_is_lit {f_is_lit : Addr} {fd_is_lit : FuncData} (D_is_lit : Def K mg "is_lit" s_is_lit P_is_lit f_is_lit fd_is_lit) (okcl : ClOk K cl) :
    FnOk P w K mg base CX0 1 f_is_lit fd_is_lit P_is_lit (spD K T 2 (g_is_lit cl)) :=
  def_ok0 D_is_lit sc_is_lit (b_is_lit cl) fun cdv A outer s H E hr =>
      (dss_one (ds_ret (de_cmp (op_eqD (hq hr)) od_eq (de_bin op_and od_and (de_bin op_shr od_shr (de_var 0) (de_var 1)) de_int) de_int)))
theorem ok_sign_at {f_sign_at : Addr} {fd_sign_at : FuncData} (D_sign_at : Def K mg "sign_at" s_sign_at P_sign_at f_sign_at fd_sign_at) {f_is_lit : Addr} {fd_is_lit : FuncData} (D_is_lit : Def K mg "is_lit" s_is_lit P_is_lit f_is_lit fd_is_lit) (okcl : ClOk K cl) (G_is_lit : FnOk P w K mg base CX0 1 f_is_lit fd_is_lit P_is_lit (spD K T 2 (g_is_lit cl))) (c_DARK : ∃ t, mg "DARK" = some (.str (tx [48]) t)) (c_LIT : ∃ t, mg "LIT" = some (.str (tx [49]) t)) :
    FnOk P w K mg base CX0 2 f_sign_at fd_sign_at P_sign_at (spD K T 2 (g_sign_at cl)) :=
  def_ok0 D_sign_at sc_sign_at (b_sign_at cl) fun cdv A outer s H E hr =>
      (dss_one (ds_ret (de_if (dt_val (de_call G_is_lit pass0 (hr.mono (by decide)) D_is_lit.at_ D_is_lit.fn.kp D_is_lit.bd (da_cons (de_var 0) (da_cons (de_var 1) da_nil)) (fCons_len (fCons_len fNil_len)))) (de_gstr [49] c_LIT) (de_gstr [48] c_DARK))))
theorem ok_has {f_has : Addr} {fd_has : FuncData} (D_has : Def K mg "has" s_has P_has f_has fd_has) {f_sign_at : Addr} {fd_sign_at : FuncData} (D_sign_at : Def K mg "sign_at" s_sign_at P_sign_at f_sign_at fd_sign_at) (okcl : ClOk K cl) (G_sign_at : FnOk P w K mg base CX0 2 f_sign_at fd_sign_at P_sign_at (spD K T 2 (g_sign_at cl))) (z_enumerate : mg "enumerate" = none) (c_EITHER : ∃ t, mg "EITHER" = some (.str (tx [45]) t)) :
    FnOk P w K mg base CX0 3 f_has fd_has P_has (spD K T 2 (g_has cl)) :=
  def_ok0 D_has sc_has (b_has cl) fun cdv A outer s H E hr =>
      (dss_cons (ds_for (t := (.tp [2, 3])) (di_enum z_enumerate (da_cons (de_var 0) da_nil)) (pgT (pgs1 (pgN 2 sc_has.nd) (pgs1 (pgN 3 sc_has.nd) pgs0))) (dss_one (ds_if (dt_w (dw_and (dt_cmp (op_neD (hq hr)) od_ne (de_var 3) (de_gstr [45] c_EITHER)) (dw_and1 (dt_cmp (op_neD (hq hr)) od_ne (de_var 3) (de_call G_sign_at pass0 (hr.mono (by decide)) D_sign_at.at_ D_sign_at.fn.kp D_sign_at.bd (da_cons (de_var 1) (da_cons (de_var 2) da_nil)) (fCons_len (fCons_len fNil_len))))))) (dss_one (ds_ret de_bl)) dss_nil)) PassesOwn.never)
      (dss_one (ds_ret de_bl)))
theorem ok_is_term {f_is_term c_is_term p_is_term : Addr} {fd_is_term : FuncData} (D_is_term : DefC K mg "is_term" s_is_term P_is_term f_is_term fd_is_term c_is_term) (tb : GxR.TabB base mg c_is_term p_is_term) (hP : p_is_term ∈ T) (md : base.Ns mainGlobals mg) (okcl : ClOk K cl) (z_all : mg "all" = none) (z_len : mg "len" = none) (z_str : mg "str" = none) (z_type : mg "type" = none) (c_SIGNS : ∃ t, mg "SIGNS" = some (.str (tx [45, 48, 49]) t)) :
    FnOk P w K mg base CX0 1 f_is_term fd_is_term P_is_term (spD K T 2 (g_is_term cl)) :=
  def_ok0C D_is_term sc_is_term (b_is_term cl) fun A outer s H E hr =>
      (dss_cons (ds_if (dt_w (dw_or (dt_cmp op_nisA od_nis (de_biT call_type1 cd_type z_type boot_type (da_cons (de_var 0) da_nil)) (de_bltn z_str boot_str)) (dw_or1 (dt_cmp (op_neD (hq hr)) od_ne (de_bi call_len cd_len z_len boot_len (da_cons (de_var 0) da_nil)) (de_var 1))))) (dss_one (ds_ret de_bl)) dss_nil)
      (dss_one (ds_ret (de_allG (pb := (inT [45, 48, 49])) hr z_all tb hP rfl ⟨rfl, rfl, by decide +kernel, rfl, rfl, gen_free (by decide +kernel)⟩ (de_var 0) (elt_inT (md) c_SIGNS)))))
theorem ok_Saying_is_good {f_Saying_is_good : Addr} {fd_Saying_is_good : FuncData} (D_Saying_is_good : Fun K "is_good" "Saying.is_good" s_Saying_is_good f_Saying_is_good fd_Saying_is_good) {f_has : Addr} {fd_has : FuncData} (D_has : Def K mg "has" s_has P_has f_has fd_has) {f_is_term : Addr} {fd_is_term : FuncData} (D_is_term : Def K mg "is_term" s_is_term P_is_term f_is_term fd_is_term) (okcl : ClOk K cl) (G_has : FnOk P w K mg base CX0 3 f_has fd_has P_has (spD K T 2 (g_has cl))) (G_is_term : FnOk P w K mg base CX0 1 f_is_term fd_is_term P_is_term (spD K T 2 (g_is_term cl))) (C_Saying : Cls K (cl.at_ "Saying")) (NA_Saying_many : NoAttr K (cl.at_ "Saying") "_many") (NA_Saying_off : NoAttr K (cl.at_ "Saying") "_off") (x_BadTerm : Exq K mg "BadTerm" (cl.at_ "BadTerm")) :
    FnOk P w K mg base (L2.CX P w) 4 f_Saying_is_good fd_Saying_is_good P_Saying_is_good (spD K T 2 (g_Saying_is_good cl)) :=
  fn_okX D_Saying_is_good sc_Saying_is_good (b_Saying_is_good cl) fun cdv A outer s H E hr =>
      (dss_cons (ds_if (dt_not (dt_val (de_call G_is_term pass0 (hr.mono (by decide)) D_is_term.at_ D_is_term.fn.kp D_is_term.bd (da_cons (de_var 1) (da_cons (de_fld (de_var 0) C_Saying NA_Saying_many) da_nil)) (fCons_len (fCons_len fNil_len))))) (dss_one (ds_raise tkX x_BadTerm)) dss_nil)
      (dss_cons (ds_for (t := (.nm 2)) (di_any (de_fld (de_var 0) C_Saying NA_Saying_off)) (pgN 2 sc_Saying_is_good.nd) (dss_one (ds_if (dt_val (de_call G_has pass0 (hr.mono (by decide)) D_has.at_ D_has.fn.kp D_has.bd (da_cons (de_var 1) (da_cons (de_var 2) da_nil)) (fCons_len (fCons_len fNil_len)))) (dss_one (ds_ret de_bl)) dss_nil)) (passes_of rfl))
      (dss_one (ds_ret de_bl))))
theorem ok_Saying_many {f_Saying_many : Addr} {fd_Saying_many : FuncData} (D_Saying_many : Fun K "many" "Saying.many" s_Saying_many f_Saying_many fd_Saying_many) (okcl : ClOk K cl) (C_Saying : Cls K (cl.at_ "Saying")) (NA_Saying_many : NoAttr K (cl.at_ "Saying") "_many") :
    FnOk P w K mg base CX0 1 f_Saying_many fd_Saying_many P_Saying_many (spD K T 1 (g_Saying_many cl)) :=
  fn_ok00 D_Saying_many sc_Saying_many (b_Saying_many cl) fun cdv A outer s H E hr =>
      (dss_one (ds_ret (de_fld (de_var 0) C_Saying NA_Saying_many)))
theorem ok_are_good_terms {f_are_good_terms : Addr} {fd_are_good_terms : FuncData} (D_are_good_terms : Def K mg "are_good_terms" s_are_good_terms P_are_good_terms f_are_good_terms fd_are_good_terms) {f_Saying_is_good : Addr} {fd_Saying_is_good : FuncData} {f_Saying_many : Addr} {fd_Saying_many : FuncData} {f_is_term : Addr} {fd_is_term : FuncData} (D_is_term : Def K mg "is_term" s_is_term P_is_term f_is_term fd_is_term) (okcl : ClOk K cl) (G_Saying_is_good : FnOk P w K mg base (L2.CX P w) 4 f_Saying_is_good fd_Saying_is_good P_Saying_is_good (spD K T 2 (g_Saying_is_good cl))) (G_Saying_many : FnOk P w K mg base CX0 1 f_Saying_many fd_Saying_many P_Saying_many (spD K T 1 (g_Saying_many cl))) (G_is_term : FnOk P w K mg base CX0 1 f_is_term fd_is_term P_is_term (spD K T 2 (g_is_term cl))) (M_Saying_is_good : Meth K (cl.at_ "Saying") "is_good" f_Saying_is_good) (B_Saying_is_good : Binds K fd_Saying_is_good P_Saying_is_good []) (M_Saying_many : Meth K (cl.at_ "Saying") "many" f_Saying_many) (B_Saying_many : Binds K fd_Saying_many P_Saying_many []) (C_Saying : Cls K (cl.at_ "Saying")) :
    FnOk P w K mg base (L2.CX P w) 5 f_are_good_terms fd_are_good_terms P_are_good_terms (spD K T 2 (g_are_good_terms cl)) :=
  fn_okX D_are_good_terms.fn sc_are_good_terms (b_are_good_terms cl) fun cdv A outer s H E hr =>
      (dss_cons (ds_for (t := (.nm 2)) (di_any (de_var 1)) (pgN 2 sc_are_good_terms.nd) (dss_one (ds_if (dt_w (dw_or (dt_not (dt_val (de_call G_is_term pass0 (hr.mono (by decide)) D_is_term.at_ D_is_term.fn.kp D_is_term.bd (da_cons (de_var 2) (da_cons (de_meth0 (de_var 0) C_Saying M_Saying_many G_Saying_many (hr.mono (by decide)) B_Saying_many pas0) da_nil)) (fCons_len (fCons_len fNil_len))))) (dw_or1 (dt_not (dt_val (de_meth (de_var 0) C_Saying M_Saying_is_good G_Saying_is_good (hr.mono (by decide)) B_Saying_is_good (fun σ => passAt tkX σ) (da_cons (de_var 2) da_nil) (fun es rs h => by rw [(fCons_len fNil_len) es rs h]))))))) (dss_one (ds_ret de_bl)) dss_nil)) (passes_of rfl))
      (dss_one (ds_ret de_bl)))
theorem ok_is_telling {f_is_telling : Addr} {fd_is_telling : FuncData} (D_is_telling : Def K mg "is_telling" s_is_telling P_is_telling f_is_telling fd_is_telling) {f_Saying_on : Addr} {fd_Saying_on : FuncData} {f_are_good_terms : Addr} {fd_are_good_terms : FuncData} (D_are_good_terms : Def K mg "are_good_terms" s_are_good_terms P_are_good_terms f_are_good_terms fd_are_good_terms) {f_has : Addr} {fd_has : FuncData} (D_has : Def K mg "has" s_has P_has f_has fd_has) (okcl : ClOk K cl) (G_Saying_on : FnOk P w K mg base CX0 1 f_Saying_on fd_Saying_on P_Saying_on (spD K T 1 (g_Saying_on cl))) (G_are_good_terms : FnOk P w K mg base (L2.CX P w) 5 f_are_good_terms fd_are_good_terms P_are_good_terms (spD K T 2 (g_are_good_terms cl))) (G_has : FnOk P w K mg base CX0 3 f_has fd_has P_has (spD K T 2 (g_has cl))) (M_Saying_on : Meth K (cl.at_ "Saying") "on" f_Saying_on) (B_Saying_on : Binds K fd_Saying_on P_Saying_on []) (C_Saying : Cls K (cl.at_ "Saying")) (z_list : mg "list" = none) (z_type : mg "type" = none) :
    FnOk P w K mg base (L2.CX P w) 6 f_is_telling fd_is_telling P_is_telling (spD K T 2 (g_is_telling cl)) :=
  fn_okX D_is_telling.fn sc_is_telling (b_is_telling cl) fun cdv A outer s H E hr =>
      (dss_cons (ds_if (dt_w (dw_or (dt_cmp op_nisA od_nis (de_biT call_type1 cd_type z_type boot_type (da_cons (de_var 1) da_nil)) (de_bltn z_list boot_list)) (dw_or1 (dt_not (dt_val (de_callX G_are_good_terms tkX (hr.mono (by decide)) D_are_good_terms.at_ D_are_good_terms.fn.kp D_are_good_terms.bd (da_cons (de_var 0) (da_cons (de_var 1) da_nil)) (fCons_len (fCons_len fNil_len)))))))) (dss_one (ds_ret de_bl)) dss_nil)
      (dss_cons (ds_set (i := 2) (fz := true) sc_is_telling.nd (de_meth0 (de_var 0) C_Saying M_Saying_on G_Saying_on (hr.mono (by decide)) B_Saying_on pas0))
      (dss_cons (ds_for (t := (.nm 3)) (di_any (de_var 1)) (pgN 3 sc_is_telling.nd) (dss_one (ds_setLc (i := 2) (fz := true) (own := [("setting", 4)]) (t := (.nm 4)) sc_is_telling.nd (di_any (de_var 2)) (blkOk_by (N := N_is_telling) (sc := defScope s_is_telling) (by decide +kernel)) (fun _ _ _ _ _ => (pgN 4 sc_is_telling.nd)) (fun _ _ _ _ _ => (dts_one (dt_not (dt_val (de_call G_has pass0 (hr.mono (by decide)) D_has.at_ D_has.fn.kp D_has.bd (da_cons (de_var 3) (da_cons (de_var 4) da_nil)) (fCons_len (fCons_len fNil_len))))))) (fun _ _ _ _ _ => (de_var 4)))) (passes_of rfl))
      (dss_one (ds_ret (de_cmp (op_eqD (hq hr)) od_eq (de_var 2) (de_lst da_nil)))))))
theorem ok_trimmed {f_trimmed : Addr} {fd_trimmed : FuncData} (D_trimmed : Def K mg "trimmed" s_trimmed P_trimmed f_trimmed fd_trimmed) {f_Saying_on : Addr} {fd_Saying_on : FuncData} {f_has : Addr} {fd_has : FuncData} (D_has : Def K mg "has" s_has P_has f_has fd_has) {f_is_telling : Addr} {fd_is_telling : FuncData} (D_is_telling : Def K mg "is_telling" s_is_telling P_is_telling f_is_telling fd_is_telling) (okcl : ClOk K cl) (G_Saying_on : FnOk P w K mg base CX0 1 f_Saying_on fd_Saying_on P_Saying_on (spD K T 1 (g_Saying_on cl))) (G_has : FnOk P w K mg base CX0 3 f_has fd_has P_has (spD K T 2 (g_has cl))) (G_is_telling : FnOk P w K mg base (L2.CX P w) 6 f_is_telling fd_is_telling P_is_telling (spD K T 2 (g_is_telling cl))) (M_Saying_on : Meth K (cl.at_ "Saying") "on" f_Saying_on) (B_Saying_on : Binds K fd_Saying_on P_Saying_on []) (C_Saying : Cls K (cl.at_ "Saying")) (x_BadTelling : Exq K mg "BadTelling" (cl.at_ "BadTelling")) (z_all : mg "all" = none) (z_zip : mg "zip" = none) :
    FnOk P w K mg base (L2.CX P w) 7 f_trimmed fd_trimmed P_trimmed (spD K T 2 (g_trimmed cl)) :=
  fn_okX D_trimmed.fn sc_trimmed (b_trimmed cl) fun cdv A outer s H E hr =>
      (dss_cons (ds_if (dt_not (dt_val (de_callX G_is_telling tkX (hr.mono (by decide)) D_is_telling.at_ D_is_telling.fn.kp D_is_telling.bd (da_cons (de_var 0) (da_cons (de_var 1) da_nil)) (fCons_len (fCons_len fNil_len))))) (dss_one (ds_raise tkX x_BadTelling)) dss_nil)
      (dss_cons (ds_set (i := 2) (fz := true) sc_trimmed.nd (de_meth0 (de_var 0) C_Saying M_Saying_on G_Saying_on (hr.mono (by decide)) B_Saying_on pas0))
      (dss_cons (ds_setLc (i := 5) (fz := true) (own := [("term", 3)]) (t := (.nm 3)) sc_trimmed.nd (di_any (de_var 1)) (blkOk_by (N := N_trimmed) (sc := defScope s_trimmed) (by decide +kernel)) (fun _ _ _ _ _ => (pgN 3 sc_trimmed.nd)) (fun _ _ _ _ _ => dts_nil) (fun _ _ _ _ _ => (de_lc (own := [("setting", 4)]) (t := (.nm 4)) sc_trimmed.nd (di_any (de_var 2)) (blkOk_by (N := N_trimmed) (sc := (⟨.function, [(".0", .local), ("term", .cell), ("on", .cell)], false, false, []⟩ : Scope)) (by decide +kernel)) (fun _ _ _ _ _ => (pgN 4 sc_trimmed.nd)) (fun _ _ _ _ _ => (dts_one (dt_val (de_call G_has pass0 (hr.mono (by decide)) D_has.at_ D_has.fn.kp D_has.bd (da_cons (de_var 3) (da_cons (de_var 4) da_nil)) (fCons_len (fCons_len fNil_len)))))) (fun _ _ _ _ _ => (de_var 4)))))
      (dss_cons (ds_setDcC (i := 6) (own := [("setting", 4)]) (t := (.nm 4)) sc_trimmed.nd (di_any (de_var 2)) (blkOk_by (N := N_trimmed) (sc := defScope s_trimmed) (by decide +kernel)) (fun _ _ _ _ _ => (pgN 4 sc_trimmed.nd)) (fun _ _ _ _ _ => (de_var 4)) (fun _ _ _ _ _ => de_int))
      (dss_cons (ds_for (t := (.nm 7)) (di_any (de_var 5)) (pgN 7 sc_trimmed.nd) (dss_one (ds_for (t := (.nm 4)) (di_any (de_var 7)) (pgN 4 sc_trimmed.nd) (dss_one (ds_addD (i := 6) (hu_of hr) (de_var 4) de_int)) (passes_of rfl))) (passes_of rfl))
      (dss_cons (ds_set (i := 8) (fz := false) sc_trimmed.nd (de_lst da_nil))
      (dss_cons (ds_for (t := (.tp [3, 7])) (di_zip z_zip (da_cons (de_var 1) (da_cons (de_var 5) da_nil))) (pgT (pgs1 (pgN 3 sc_trimmed.nd) (pgs1 (pgN 7 sc_trimmed.nd) pgs0))) (dss_one (ds_if (dt_val (de_bi (cr_all rfl) cd_all z_all boot_all (da_cons (de_lc (own := [("setting", 4)]) (t := (.nm 4)) sc_trimmed.nd (di_any (de_var 7)) (blkOk_by (N := N_trimmed) (sc := defScope s_trimmed) (by decide +kernel)) (fun _ _ _ _ _ => (pgN 4 sc_trimmed.nd)) (fun _ _ _ _ _ => dts_nil) (fun _ _ _ _ _ => (de_cmp op_gt od_gt (de_getD (i := 6) (hu_of hr) (de_var 4)) de_int))) da_nil))) (dss_one (ds_for (t := (.nm 4)) (di_any (de_var 7)) (pgN 4 sc_trimmed.nd) (dss_one (ds_subD (i := 6) (hu_of hr) (de_var 4) de_int)) (passes_of rfl))) (dss_one (ds_app 8 (de_var 3))))) (passes_of rfl))
      (dss_one (ds_retV 8)))))))))
theorem ok_law_caught {f_law_caught : Addr} {fd_law_caught : FuncData} (D_law_caught : Def K mg "_law_caught" s_law_caught P_law_caught f_law_caught fd_law_caught) {f_law_word : Addr} {fd_law_word : FuncData} (D_law_word : Def K mg "_law_word" s_law_word P_law_word f_law_word fd_law_word) {f_trimmed : Addr} {fd_trimmed : FuncData} (D_trimmed : Def K mg "trimmed" s_trimmed P_trimmed f_trimmed fd_trimmed) (okcl : ClOk K cl) (G_law_word : FnOk P w K mg base CX0 1 f_law_word fd_law_word P_law_word (spD K T 1 (g_law_word cl))) (G_trimmed : FnOk P w K mg base (L2.CX P w) 7 f_trimmed fd_trimmed P_trimmed (spD K T 2 (g_trimmed cl))) (xg_TermError : mg "TermError" = some (.ref (cl.at_ "TermError"))) :
    FnOk P w K mg base CX0 8 f_law_caught fd_law_caught P_law_caught (spD K T 2 (g_law_caught cl)) :=
  def_ok0 D_law_caught sc_law_caught (b_law_caught cl) fun cdv A outer s H E hr =>
      (dss_cons (ds_set (i := 2) (fz := true) sc_law_caught.nd de_non)
      (dss_cons (ds_set (i := 3) (fz := false) sc_law_caught.nd de_non)
      (dss_cons (ds_try (i := 4) sc_law_caught.nd rfl takes0 xg_TermError (fun c' b h => okcl.ex c' _ b h) (fun W pn xe tk po => (dss_one (ds_set (i := 3) (fz := false) sc_law_caught.nd (de_callX G_trimmed tk (hr.mono (by decide)) D_trimmed.at_ D_trimmed.fn.kp D_trimmed.bd (da_cons (de_var 0) (da_cons (de_var 1) da_nil)) (fCons_len (fCons_len fNil_len)))))) (fun a pn => (dss_one (ds_set (i := 2) (fz := true) sc_law_caught.nd (de_var 4)))))
      (dss_one (ds_retIf 3 (dt_cmp op_isA od_is (de_var 2) de_non) (de_call G_law_word pass0 (hr.mono (by decide)) D_law_word.at_ D_law_word.fn.kp D_law_word.bd (da_cons (de_var 2) da_nil) (fCons_len fNil_len)))))))
theorem ok_law_digits {f_law_digits : Addr} {fd_law_digits : FuncData} (D_law_digits : Def K mg "_law_digits" s_law_digits P_law_digits f_law_digits fd_law_digits) (okcl : ClOk K cl) (z_range : mg "range" = none) :
    FnOk P w K mg base CX0 1 f_law_digits fd_law_digits P_law_digits (spD K T 2 (g_law_digits cl)) :=
  def_ok0 D_law_digits sc_law_digits (b_law_digits cl) fun cdv A outer s H E hr =>
      (dss_cons (ds_set (i := 2) (fz := true) sc_law_digits.nd (de_bin op_fdiv od_div (de_var 0) de_int))
      (dss_cons (ds_for (t := (.nm 3)) (di_range1 z_range (da_cons (de_bin op_shl od_shl de_int (de_var 1)) da_nil)) (pgN 3 sc_law_digits.nd) (dss_one (ds_set (i := 2) (fz := true) sc_law_digits.nd (de_bin op_fdiv od_div (de_var 2) de_int))) PassesOwn.never)
      (dss_cons (ds_set (i := 4) (fz := false) sc_law_digits.nd (de_lst da_nil))
      (dss_cons (ds_for (t := (.nm 3)) (di_range1 z_range (da_cons (de_bin op_mod od_mod (de_bin op_fdiv od_div (de_var 2) de_int) de_int) da_nil)) (pgN 3 sc_law_digits.nd) (dss_cons (ds_set (i := 5) (fz := true) sc_law_digits.nd (de_str []))
      (dss_cons (ds_for (t := (.nm 6)) (di_range1 z_range (da_cons (de_var 1) da_nil)) (pgN 6 sc_law_digits.nd) (dss_cons (ds_set (i := 5) (fz := true) sc_law_digits.nd (de_bin op_addA od_add (de_var 5) (de_ix ix_seq od_ix (de_str [48, 49, 45]) (de_bin op_mod od_mod (de_bin op_fdiv od_div (de_var 2) de_int) de_int))))
      (dss_one (ds_set (i := 2) (fz := true) sc_law_digits.nd (de_bin op_fdiv od_div (de_var 2) de_int)))) PassesOwn.never)
      (dss_one (ds_app 4 (de_var 5))))) PassesOwn.never)
      (dss_one (ds_retV 4))))))
theorem ok_law_agrees {f_law_agrees : Addr} {fd_law_agrees : FuncData} (D_law_agrees : Def K mg "_law_agrees" s_law_agrees P_law_agrees f_law_agrees fd_law_agrees) (okcl : ClOk K cl) (z_enumerate : mg "enumerate" = none) (z_int : mg "int" = none) :
    FnOk P w K mg base CX0 1 f_law_agrees fd_law_agrees P_law_agrees (spD K T 2 (g_law_agrees cl)) :=
  def_ok0 D_law_agrees sc_law_agrees (b_law_agrees cl) fun cdv A outer s H E hr =>
      (dss_cons (ds_for (t := (.tp [2, 3])) (di_enum z_enumerate (da_cons (de_var 0) da_nil)) (pgT (pgs1 (pgN 2 sc_law_agrees.nd) (pgs1 (pgN 3 sc_law_agrees.nd) pgs0))) (dss_one (ds_if (dt_w (dw_and (dt_cmp (op_neD (hq hr)) od_ne (de_var 3) (de_str [45])) (dw_and1 (dt_cmp (op_neD (hq hr)) od_ne (de_biT call_intA cd_int z_int boot_int (da_cons (de_var 3) da_nil)) (de_bin op_and od_and (de_bin op_shr od_shr (de_var 1) (de_var 2)) de_int))))) (dss_one (ds_ret de_bl)) dss_nil)) PassesOwn.never)
      (dss_one (ds_ret de_bl)))
theorem ok_law_all_on {f_law_all_on : Addr} {fd_law_all_on : FuncData} (D_law_all_on : Def K mg "_law_all_on" s_law_all_on P_law_all_on f_law_all_on fd_law_all_on) {f_law_agrees : Addr} {fd_law_agrees : FuncData} (D_law_agrees : Def K mg "_law_agrees" s_law_agrees P_law_agrees f_law_agrees fd_law_agrees) (okcl : ClOk K cl) (G_law_agrees : FnOk P w K mg base CX0 1 f_law_agrees fd_law_agrees P_law_agrees (spD K T 2 (g_law_agrees cl))) (z_any : mg "any" = none) :
    FnOk P w K mg base CX0 2 f_law_all_on fd_law_all_on P_law_all_on (spD K T 2 (g_law_all_on cl)) :=
  def_ok0 D_law_all_on sc_law_all_on (b_law_all_on cl) fun cdv A outer s H E hr =>
      (dss_one (ds_ret (de_not (de_bi (cr_any rfl) cd_any z_any boot_any (da_cons (de_lc (own := [("_law_one", 2)]) (t := (.nm 2)) sc_law_all_on.nd (di_any (de_var 0)) (blkOk_by (N := N_law_all_on) (sc := defScope s_law_all_on) (by decide +kernel)) (fun _ _ _ _ _ => (pgN 2 sc_law_all_on.nd)) (fun _ _ _ _ _ => dts_nil) (fun _ _ _ _ _ => (de_not (de_bi (cr_any rfl) cd_any z_any boot_any (da_cons (de_lc (own := [("_law_term", 3)]) (t := (.nm 3)) sc_law_all_on.nd (di_any (de_var 1)) (blkOk_by (N := N_law_all_on) (sc := (⟨.function, [(".0", .local), ("_law_one", .cell), ("any", .globalImplicit), ("_law_terms_here", .cell)], false, false, []⟩ : Scope)) (by decide +kernel)) (fun _ _ _ _ _ => (pgN 3 sc_law_all_on.nd)) (fun _ _ _ _ _ => dts_nil) (fun _ _ _ _ _ => (de_call G_law_agrees pass0 (hr.mono (by decide)) D_law_agrees.at_ D_law_agrees.fn.kp D_law_agrees.bd (da_cons (de_var 3) (da_cons (de_var 2) da_nil)) (fCons_len (fCons_len fNil_len))))) da_nil))))) da_nil)))))
theorem ok_law_due {f_law_due : Addr} {fd_law_due : FuncData} (D_law_due : Def K mg "_law_due" s_law_due P_law_due f_law_due fd_law_due) {f_law_all_on : Addr} {fd_law_all_on : FuncData} (D_law_all_on : Def K mg "_law_all_on" s_law_all_on P_law_all_on f_law_all_on fd_law_all_on) (okcl : ClOk K cl) (G_law_all_on : FnOk P w K mg base CX0 2 f_law_all_on fd_law_all_on P_law_all_on (spD K T 2 (g_law_all_on cl))) (z_len : mg "len" = none) (z_list : mg "list" = none) (z_range : mg "range" = none) :
    FnOk P w K mg base CX0 3 f_law_due fd_law_due P_law_due (spD K T 2 (g_law_due cl)) :=
  def_ok0 D_law_due sc_law_due (b_law_due cl) fun cdv A outer s H E hr =>
      (dss_cons (ds_set (i := 2) (fz := true) sc_law_due.nd (de_biT (call_listA rfl) cd_list z_list boot_list (da_cons (de_var 1) da_nil)))
      (dss_cons (ds_set (i := 3) (fz := true) sc_law_due.nd de_int)
      (dss_cons (ds_for (t := (.nm 4)) (di_range1 z_range (da_cons (de_bi call_len cd_len z_len boot_len (da_cons (de_var 1) da_nil)) da_nil)) (pgN 4 sc_law_due.nd) (dss_cons (ds_set (i := 5) (fz := true) sc_law_due.nd (de_bin op_addA od_add (de_slice (de_var 2) do_none (do_some (de_var 3))) (de_slice (de_var 2) (do_some (de_bin op_addA od_add (de_var 3) de_int)) do_none)))
      (dss_one (ds_if (dt_val (de_call G_law_all_on pass0 (hr.mono (by decide)) D_law_all_on.at_ D_law_all_on.fn.kp D_law_all_on.bd (da_cons (de_var 0) (da_cons (de_var 5) da_nil)) (fCons_len (fCons_len fNil_len)))) (dss_one (ds_set (i := 2) (fz := true) sc_law_due.nd (de_var 5))) (dss_one (ds_set (i := 3) (fz := true) sc_law_due.nd (de_bin op_addA od_add (de_var 3) de_int)))))) PassesOwn.never)
      (dss_one (ds_retV 2)))))
theorem ok_law_is_told {f_law_is_told : Addr} {fd_law_is_told : FuncData} (D_law_is_told : Def K mg "_law_is_told" s_law_is_told P_law_is_told f_law_is_told fd_law_is_told) {f_law_agrees : Addr} {fd_law_agrees : FuncData} (D_law_agrees : Def K mg "_law_agrees" s_law_agrees P_law_agrees f_law_agrees fd_law_agrees) {f_law_all_on : Addr} {fd_law_all_on : FuncData} (D_law_all_on : Def K mg "_law_all_on" s_law_all_on P_law_all_on f_law_all_on fd_law_all_on) (okcl : ClOk K cl) (G_law_agrees : FnOk P w K mg base CX0 1 f_law_agrees fd_law_agrees P_law_agrees (spD K T 2 (g_law_agrees cl))) (G_law_all_on : FnOk P w K mg base CX0 2 f_law_all_on fd_law_all_on P_law_all_on (spD K T 2 (g_law_all_on cl))) (z_any : mg "any" = none) :
    FnOk P w K mg base CX0 3 f_law_is_told fd_law_is_told P_law_is_told (spD K T 4 (g_law_is_told cl)) :=
  def_ok0 D_law_is_told sc_law_is_told (b_law_is_told cl) fun cdv A outer s H E hr =>
      (dss_cons (ds_for (t := (.nm 4)) (di_any (de_var 3)) (pgN 4 sc_law_is_told.nd) (dss_one (ds_if (dt_val (de_bi (cr_any rfl) cd_any z_any boot_any (da_cons (de_lc (own := [("_law_one", 5)]) (t := (.nm 5)) sc_law_is_told.nd (di_any (de_var 2)) (blkOk_by (N := N_law_is_told) (sc := defScope s_law_is_told) (by decide +kernel)) (fun _ _ _ _ _ => (pgN 5 sc_law_is_told.nd)) (fun _ _ _ _ _ => dts_nil) (fun _ _ _ _ _ => (de_call G_law_agrees pass0 (hr.mono (by decide)) D_law_agrees.at_ D_law_agrees.fn.kp D_law_agrees.bd (da_cons (de_var 4) (da_cons (de_var 5) da_nil)) (fCons_len (fCons_len fNil_len))))) da_nil))) (dss_one (ds_ret de_bl)) dss_nil)) PassesOwn.never)
      (dss_one (ds_ret (de_call G_law_all_on pass0 (hr.mono (by decide)) D_law_all_on.at_ D_law_all_on.fn.kp D_law_all_on.bd (da_cons (de_var 1) (da_cons (de_var 3) da_nil)) (fCons_len (fCons_len fNil_len))))))
theorem ok_law_terms {f_law_terms : Addr} {fd_law_terms : FuncData} (D_law_terms : Def K mg "_law_terms" s_law_terms P_law_terms f_law_terms fd_law_terms) (okcl : ClOk K cl) (z_range : mg "range" = none) :
    FnOk P w K mg base CX0 1 f_law_terms fd_law_terms P_law_terms (spD K T 1 (g_law_terms cl)) :=
  def_ok0 D_law_terms sc_law_terms (b_law_terms cl) fun cdv A outer s H E hr =>
      (dss_cons (ds_set (i := 1) (fz := true) sc_law_terms.nd (de_lst (da_cons (de_str []) da_nil)))
      (dss_cons (ds_for (t := (.nm 2)) (di_range1 z_range (da_cons (de_var 0) da_nil)) (pgN 2 sc_law_terms.nd) (dss_one (ds_set (i := 1) (fz := true) sc_law_terms.nd (de_bin op_addA od_add (de_bin op_addA od_add (de_lc (own := [("_law_term", 3)]) (t := (.nm 3)) sc_law_terms.nd (di_any (de_var 1)) (blkOk_by (N := N_law_terms) (sc := defScope s_law_terms) (by decide +kernel)) (fun _ _ _ _ _ => (pgN 3 sc_law_terms.nd)) (fun _ _ _ _ _ => dts_nil) (fun _ _ _ _ _ => (de_bin op_addA od_add (de_var 3) (de_str [48])))) (de_lc (own := [("_law_term", 3)]) (t := (.nm 3)) sc_law_terms.nd (di_any (de_var 1)) (blkOk_by (N := N_law_terms) (sc := defScope s_law_terms) (by decide +kernel)) (fun _ _ _ _ _ => (pgN 3 sc_law_terms.nd)) (fun _ _ _ _ _ => dts_nil) (fun _ _ _ _ _ => (de_bin op_addA od_add (de_var 3) (de_str [49]))))) (de_lc (own := [("_law_term", 3)]) (t := (.nm 3)) sc_law_terms.nd (di_any (de_var 1)) (blkOk_by (N := N_law_terms) (sc := defScope s_law_terms) (by decide +kernel)) (fun _ _ _ _ _ => (pgN 3 sc_law_terms.nd)) (fun _ _ _ _ _ => dts_nil) (fun _ _ _ _ _ => (de_bin op_addA od_add (de_var 3) (de_str [45]))))))) PassesOwn.never)
      (dss_one (ds_retV 1))))
theorem ok_law_ends {f_law_ends : Addr} {fd_law_ends : FuncData} (D_law_ends : Def K mg "_law_ends" s_law_ends P_law_ends f_law_ends fd_law_ends) {f_law_agrees : Addr} {fd_law_agrees : FuncData} (D_law_agrees : Def K mg "_law_agrees" s_law_agrees P_law_agrees f_law_agrees fd_law_agrees) {f_law_terms : Addr} {fd_law_terms : FuncData} (D_law_terms : Def K mg "_law_terms" s_law_terms P_law_terms f_law_terms fd_law_terms) (okcl : ClOk K cl) (G_law_agrees : FnOk P w K mg base CX0 1 f_law_agrees fd_law_agrees P_law_agrees (spD K T 2 (g_law_agrees cl))) (G_law_terms : FnOk P w K mg base CX0 1 f_law_terms fd_law_terms P_law_terms (spD K T 1 (g_law_terms cl))) (z_any : mg "any" = none) (z_range : mg "range" = none) (z_sorted : mg "sorted" = none) :
    FnOk P w K mg base CX0 2 f_law_ends fd_law_ends P_law_ends (spD K T 3 (g_law_ends cl)) :=
  def_ok0 D_law_ends sc_law_ends (b_law_ends cl) fun cdv A outer s H E hr =>
      (dss_cons (ds_set (i := 3) (fz := true) sc_law_ends.nd (de_lc (own := [("_law_one", 8)]) (t := (.nm 8)) sc_law_ends.nd (di_range1 z_range (da_cons (de_bin op_shl od_shl de_int (de_var 0)) da_nil)) (blkOk_by (N := N_law_ends) (sc := defScope s_law_ends) (by decide +kernel)) (fun _ _ _ _ _ => (pgN 8 sc_law_ends.nd)) (fun _ _ _ _ _ => (dts_one (dt_w (dw_and (dt_cmp op_notIn_seq od_nin (de_var 8) (de_var 1)) (dw_and1 (dt_cmp op_notIn_seq od_nin (de_var 8) (de_var 2))))))) (fun _ _ _ _ _ => (de_var 8))))
      (dss_cons (ds_set (i := 5) (fz := true) sc_law_ends.nd (de_lc (own := [("_law_term", 4)]) (t := (.nm 4)) sc_law_ends.nd (di_any (de_call G_law_terms pass0 (hr.mono (by decide)) D_law_terms.at_ D_law_terms.fn.kp D_law_terms.bd (da_cons (de_var 0) da_nil) (fCons_len fNil_len))) (blkOk_by (N := N_law_ends) (sc := defScope s_law_ends) (by decide +kernel)) (fun _ _ _ _ _ => (pgN 4 sc_law_ends.nd)) (fun _ _ _ _ _ => (dts_one (dt_not (dt_val (de_bi (cr_any rfl) cd_any z_any boot_any (da_cons (de_lc (own := [("_law_one", 8)]) (t := (.nm 8)) sc_law_ends.nd (di_any (de_var 3)) (blkOk_by (N := N_law_ends) (sc := (⟨.function, [(".0", .local), ("_law_term", .cell), ("any", .globalImplicit), ("_law_off", .cell)], false, false, []⟩ : Scope)) (by decide +kernel)) (fun _ _ _ _ _ => (pgN 8 sc_law_ends.nd)) (fun _ _ _ _ _ => dts_nil) (fun _ _ _ _ _ => (de_call G_law_agrees pass0 (hr.mono (by decide)) D_law_agrees.at_ D_law_agrees.fn.kp D_law_agrees.bd (da_cons (de_var 4) (da_cons (de_var 8) da_nil)) (fCons_len (fCons_len fNil_len))))) da_nil)))))) (fun _ _ _ _ _ => (de_var 4))))
      (dss_cons (ds_set (i := 6) (fz := false) sc_law_ends.nd (de_lst da_nil))
      (dss_cons (ds_for (t := (.nm 4)) (di_any (de_var 5)) (pgN 4 sc_law_ends.nd) (dss_cons (ds_setLc (i := 7) (fz := true) (own := [("_law_lamp", 9)]) (t := (.nm 9)) sc_law_ends.nd (di_range1 z_range (da_cons (de_var 0) da_nil)) (blkOk_by (N := N_law_ends) (sc := defScope s_law_ends) (by decide +kernel)) (fun _ _ _ _ _ => (pgN 9 sc_law_ends.nd)) (fun _ _ _ _ _ => (dts_one (dt_cmp (op_neD (hq hr)) od_ne (de_ix ix_seq od_ix (de_var 4) (de_var 9)) (de_str [45])))) (fun _ _ _ _ _ => (de_bin op_addA od_add (de_bin op_addA od_add (de_slice (de_var 4) do_none (do_some (de_var 9))) (de_str [45])) (de_slice (de_var 4) (do_some (de_bin op_addA od_add (de_var 9) de_int)) do_none))))
      (dss_one (ds_if (dt_not (dt_val (de_bi (cr_any rfl) cd_any z_any boot_any (da_cons (de_lc (own := [("_law_one", 8)]) (t := (.nm 8)) sc_law_ends.nd (di_any (de_var 7)) (blkOk_by (N := N_law_ends) (sc := defScope s_law_ends) (by decide +kernel)) (fun _ _ _ _ _ => (pgN 8 sc_law_ends.nd)) (fun _ _ _ _ _ => dts_nil) (fun _ _ _ _ _ => (de_cmp op_in_seq od_in (de_var 8) (de_var 5)))) da_nil)))) (dss_one (ds_app 6 (de_var 4))) dss_nil))) PassesOwn.never)
      (dss_one (ds_ret (de_bi cr_sortedSA cd_sortedN z_sorted boot_sorted (da_cons (de_var 6) da_nil))))))))
theorem ok_law_spread {f_law_spread : Addr} {fd_law_spread : FuncData} (D_law_spread : Def K mg "_law_spread" s_law_spread P_law_spread f_law_spread fd_law_spread) (okcl : ClOk K cl) :
    FnOk P w K mg base CX0 1 f_law_spread fd_law_spread P_law_spread (spD K T 2 (g_law_spread cl)) :=
  def_ok0 D_law_spread sc_law_spread (b_law_spread cl) fun cdv A outer s H E hr =>
      (dss_one (ds_ret (de_bin op_mod od_mod (de_bin op_mulA od_mulA (de_bin op_addA od_add (de_var 0) de_int) (de_bin op_addA od_add (de_bin op_addA od_add de_int (de_bin op_mulA od_mulA (de_bin op_mulA od_mulA de_int (de_var 1)) (de_var 1))) (de_var 1))) de_int)))
theorem ok_law_mixed {f_law_mixed : Addr} {fd_law_mixed : FuncData} (D_law_mixed : Def K mg "_law_mixed" s_law_mixed P_law_mixed f_law_mixed fd_law_mixed) {f_law_spread : Addr} {fd_law_spread : FuncData} (D_law_spread : Def K mg "_law_spread" s_law_spread P_law_spread f_law_spread fd_law_spread) (okcl : ClOk K cl) (G_law_spread : FnOk P w K mg base CX0 1 f_law_spread fd_law_spread P_law_spread (spD K T 2 (g_law_spread cl))) (z_len : mg "len" = none) (z_list : mg "list" = none) (z_range : mg "range" = none) :
    FnOk P w K mg base CX0 2 f_law_mixed fd_law_mixed P_law_mixed (spD K T 2 (g_law_mixed cl)) :=
  def_ok0 D_law_mixed sc_law_mixed (b_law_mixed cl) fun cdv A outer s H E hr =>
      (dss_cons (ds_set (i := 2) (fz := false) sc_law_mixed.nd (de_biT (call_listA rfl) cd_list z_list boot_list (da_cons (de_var 0) da_nil)))
      (dss_cons (ds_set (i := 3) (fz := false) sc_law_mixed.nd (de_lst da_nil))
      (dss_cons (ds_for (t := (.nm 4)) (di_range1 z_range (da_cons (de_bi call_len cd_len z_len boot_len (da_cons (de_var 0) da_nil)) da_nil)) (pgN 4 sc_law_mixed.nd) (dss_one (ds_appPop 3 2 (by decide) (de_bin op_mod od_mod (de_call G_law_spread pass0 (hr.mono (by decide)) D_law_spread.at_ D_law_spread.fn.kp D_law_spread.bd (da_cons (de_var 1) (da_cons (de_var 4) da_nil)) (fCons_len (fCons_len fNil_len))) (de_bi call_len cd_len z_len boot_len (da_cons (de_var 2) da_nil))))) PassesOwn.never)
      (dss_one (ds_retV 3)))))
theorem ok_law_list {f_law_list : Addr} {fd_law_list : FuncData} (D_law_list : Def K mg "_law_list" s_law_list P_law_list f_law_list fd_law_list) {f_law_ends : Addr} {fd_law_ends : FuncData} (D_law_ends : Def K mg "_law_ends" s_law_ends P_law_ends f_law_ends fd_law_ends) {f_law_mixed : Addr} {fd_law_mixed : FuncData} (D_law_mixed : Def K mg "_law_mixed" s_law_mixed P_law_mixed f_law_mixed fd_law_mixed) {f_law_spread : Addr} {fd_law_spread : FuncData} (D_law_spread : Def K mg "_law_spread" s_law_spread P_law_spread f_law_spread fd_law_spread) (okcl : ClOk K cl) (G_law_ends : FnOk P w K mg base CX0 2 f_law_ends fd_law_ends P_law_ends (spD K T 3 (g_law_ends cl))) (G_law_mixed : FnOk P w K mg base CX0 2 f_law_mixed fd_law_mixed P_law_mixed (spD K T 2 (g_law_mixed cl))) (G_law_spread : FnOk P w K mg base CX0 1 f_law_spread fd_law_spread P_law_spread (spD K T 2 (g_law_spread cl))) (z_len : mg "len" = none) (z_range : mg "range" = none) :
    FnOk P w K mg base CX0 3 f_law_list fd_law_list P_law_list (spD K T 4 (g_law_list cl)) :=
  def_ok0 D_law_list sc_law_list (b_law_list cl) fun cdv A outer s H E hr =>
      (dss_cons (ds_setLc (i := 4) (fz := true) (own := [("_law_one", 6)]) (t := (.nm 6)) sc_law_list.nd (di_any (de_var 1)) (blkOk_by (N := N_law_list) (sc := defScope s_law_list) (by decide +kernel)) (fun _ _ _ _ _ => (pgN 6 sc_law_list.nd)) (fun _ _ _ _ _ => dts_nil) (fun _ _ _ _ _ => (de_join (de_str []) (de_lc (own := [("_law_lamp", 7)]) (t := (.nm 7)) sc_law_list.nd (di_range1 z_range (da_cons (de_var 0) da_nil)) (blkOk_by (N := N_law_list) (sc := (⟨.function, [(".0", .local), ("_law_one", .cell), ("range", .globalImplicit), ("_law_many", .cell)], false, false, []⟩ : Scope)) (by decide +kernel)) (fun _ _ _ _ _ => (pgN 7 sc_law_list.nd)) (fun _ _ _ _ _ => dts_nil) (fun _ _ _ _ _ => (de_ix ix_seq od_ix (de_str [48, 49]) (de_bin op_and od_and (de_bin op_shr od_shr (de_var 6) (de_var 7)) de_int)))))))
      (dss_cons (ds_set (i := 5) (fz := false) sc_law_list.nd (de_call G_law_mixed pass0 (hr.mono (by decide)) D_law_mixed.at_ D_law_mixed.fn.kp D_law_mixed.bd (da_cons (de_bin op_addA od_add (de_call G_law_ends pass0 (hr.mono (by decide)) D_law_ends.at_ D_law_ends.fn.kp D_law_ends.bd (da_cons (de_var 0) (da_cons (de_var 1) (da_cons (de_var 2) da_nil))) (fCons_len (fCons_len (fCons_len fNil_len)))) (de_ix ix_seq od_ix (de_lst (da_cons (de_var 4) (da_cons (de_lst da_nil) (da_cons (de_slice (de_var 4) do_none (do_some de_int)) da_nil)))) (de_bin op_mod od_mod (de_var 3) de_int))) (da_cons (de_var 3) da_nil)) (fCons_len (fCons_len fNil_len))))
      (dss_cons (ds_if (dt_w (dw_and (dt_cmp (op_eqD (hq hr)) od_eq (de_bin op_mod od_mod (de_bin op_fdiv od_div (de_var 3) de_int) de_int) de_int) (dw_and1 (dt_cmp (op_neD (hq hr)) od_ne (de_var 5) (de_lst da_nil))))) (dss_one (ds_app 5 (de_ix ix_seq od_ix (de_var 5) (de_bin op_mod od_mod (de_bin op_fdiv od_div (de_var 3) de_int) (de_bi call_len cd_len z_len boot_len (da_cons (de_var 5) da_nil)))))) dss_nil)
      (dss_cons (ds_if (dt_cmp (op_eqD (hq hr)) od_eq (de_bin op_mod od_mod (de_bin op_fdiv od_div (de_var 3) de_int) de_int) de_int) (dss_one (ds_set (i := 5) (fz := false) sc_law_list.nd (de_slice (de_var 5) do_none (do_some (de_neg de_int))))) dss_nil)
      (dss_cons (ds_if (dt_cmp (op_eqD (hq hr)) od_eq (de_bin op_mod od_mod (de_bin op_fdiv od_div (de_var 3) de_int) de_int) de_int) (dss_one (ds_set (i := 5) (fz := false) sc_law_list.nd (de_bin op_addA od_add (de_var 5) (de_lst (da_cons (de_join (de_str []) (de_lc (own := [("_law_lamp", 7)]) (t := (.nm 7)) sc_law_list.nd (di_range1 z_range (da_cons (de_var 0) da_nil)) (blkOk_by (N := N_law_list) (sc := defScope s_law_list) (by decide +kernel)) (fun _ _ _ _ _ => (pgN 7 sc_law_list.nd)) (fun _ _ _ _ _ => dts_nil) (fun _ _ _ _ _ => (de_ix ix_seq od_ix (de_str [48, 49, 45]) (de_bin op_mod od_mod (de_bin op_fdiv od_div (de_call G_law_spread pass0 (hr.mono (by decide)) D_law_spread.at_ D_law_spread.fn.kp D_law_spread.bd (da_cons (de_var 3) (da_cons (de_var 7) da_nil)) (fCons_len (fCons_len fNil_len))) de_int) de_int))))) da_nil))))) dss_nil)
      (dss_one (ds_retV 5)))))))
theorem ok_law_odd {f_law_odd : Addr} {fd_law_odd : FuncData} (D_law_odd : Def K mg "_law_odd" s_law_odd P_law_odd f_law_odd fd_law_odd) (okcl : ClOk K cl) (z_len : mg "len" = none) (z_tuple : mg "tuple" = none) :
    FnOk P w K mg base CX0 1 f_law_odd fd_law_odd P_law_odd (spD K T 3 (g_law_odd cl)) :=
  def_ok0 D_law_odd sc_law_odd (b_law_odd cl) fun cdv A outer s H E hr =>
      (dss_cons (ds_set (i := 3) (fz := true) sc_law_odd.nd (de_ix ix_seq od_ix (de_lst (da_cons de_non (da_cons de_int (da_cons de_bl (da_cons (de_bin op_mulA od_mulA (de_str [48]) (de_bin op_addA od_add (de_var 1) de_int)) (da_cons (de_str []) (da_cons (de_lst (da_cons (de_str [48]) da_nil)) (da_cons (de_bin op_mulA od_mulA (de_str [120]) (de_var 1)) (da_cons (de_tup (da_cons (de_str [45]) da_nil)) da_nil))))))))) (de_bin op_mod od_mod (de_var 2) de_int)))
      (dss_cons (ds_set (i := 4) (fz := true) sc_law_odd.nd (de_bin op_mod od_mod (de_bin op_fdiv od_div (de_var 2) de_int) (de_bin op_addA od_add (de_bi call_len cd_len z_len boot_len (da_cons (de_var 0) da_nil)) de_int)))
      (dss_one (ds_ret (de_ix ix_seq od_ix (de_lst (da_cons (de_bin op_addA od_add (de_bin op_addA od_add (de_slice (de_var 0) do_none (do_some (de_var 4))) (de_lst (da_cons (de_var 3) da_nil))) (de_slice (de_var 0) (do_some (de_var 4)) do_none)) (da_cons (de_biT call_tuple_of cd_tupOf z_tuple boot_tuple (da_cons (de_var 0) da_nil)) (da_cons de_non (da_cons (de_bin op_mulA od_mulA (de_str [45]) (de_var 1)) (da_cons de_dict0 (da_cons de_int da_nil))))))) (de_bin op_mod od_mod (de_bin op_fdiv od_div (de_var 2) de_int) de_int))))))
theorem ok_law_rows {f_law_rows : Addr} {fd_law_rows : FuncData} (D_law_rows : Def K mg "_law_rows" s_law_rows P_law_rows f_law_rows fd_law_rows) {f_law_spread : Addr} {fd_law_spread : FuncData} (D_law_spread : Def K mg "_law_spread" s_law_spread P_law_spread f_law_spread fd_law_spread) (okcl : ClOk K cl) (G_law_spread : FnOk P w K mg base CX0 1 f_law_spread fd_law_spread P_law_spread (spD K T 2 (g_law_spread cl))) (z_int : mg "int" = none) (z_range : mg "range" = none) (z_sum : mg "sum" = none) :
    FnOk P w K mg base CX0 2 f_law_rows fd_law_rows P_law_rows (spD K T 3 (g_law_rows cl)) :=
  def_ok0 D_law_rows sc_law_rows (b_law_rows cl) fun cdv A outer s H E hr =>
      (dss_cons (ds_set (i := 3) (fz := true) sc_law_rows.nd (de_call G_law_spread pass0 (hr.mono (by decide)) D_law_spread.at_ D_law_spread.fn.kp D_law_spread.bd (da_cons (de_call G_law_spread pass0 (hr.mono (by decide)) D_law_spread.at_ D_law_spread.fn.kp D_law_spread.bd (da_cons (de_var 0) (da_cons (de_var 1) da_nil)) (fCons_len (fCons_len fNil_len))) (da_cons de_int da_nil)) (fCons_len (fCons_len fNil_len))))
      (dss_cons (ds_set (i := 4) (fz := true) sc_law_rows.nd (de_if (dt_cmp (op_eqD (hq hr)) od_eq (de_bin op_mod od_mod (de_var 0) de_int) de_int) (de_bin op_fdiv od_div (de_var 0) de_int) (de_var 3)))
      (dss_cons (ds_set (i := 5) (fz := true) sc_law_rows.nd (de_bin op_addA od_add de_int (de_bin op_mod od_mod (de_var 4) (de_var 2))))
      (dss_cons (ds_set (i := 4) (fz := true) sc_law_rows.nd (de_bin op_fdiv od_div (de_var 4) (de_var 2)))
      (dss_cons (ds_set (i := 6) (fz := false) sc_law_rows.nd (de_lst da_nil))
      (dss_cons (ds_set (i := 7) (fz := false) sc_law_rows.nd (de_lst da_nil))
      (dss_cons (ds_for (t := (.nm 8)) (di_range1 z_range (da_cons (de_bin op_shl od_shl de_int (de_var 5)) da_nil)) (pgN 8 sc_law_rows.nd) (dss_cons (ds_set (i := 9) (fz := true) sc_law_rows.nd (de_bin op_mod od_mod (de_call G_law_spread pass0 (hr.mono (by decide)) D_law_spread.at_ D_law_spread.fn.kp D_law_spread.bd (da_cons (de_bin op_addA od_add (de_var 3) (de_bin op_mulA od_mulA de_int (de_var 8))) (da_cons (de_var 8) da_nil)) (fCons_len (fCons_len fNil_len))) de_int))
      (dss_cons (ds_set (i := 10) (fz := true) sc_law_rows.nd (de_bin op_mod od_mod (de_bi (cr_sum rfl) cd_sum z_sum boot_sum (da_cons (de_lc (own := [("_law_lamp", 15)]) (t := (.nm 15)) sc_law_rows.nd (di_range1 z_range (da_cons (de_var 5) da_nil)) (blkOk_by (N := N_law_rows) (sc := defScope s_law_rows) (by decide +kernel)) (fun _ _ _ _ _ => (pgN 15 sc_law_rows.nd)) (fun _ _ _ _ _ => dts_nil) (fun _ _ _ _ _ => (de_bin op_and od_and (de_bin op_shr od_shr (de_var 8) (de_var 15)) de_int))) da_nil)) de_int))
      (dss_cons (ds_asg (t := (.tp [11, 12])) (de_ix ix_seq od_ix (de_lst (da_cons (de_tup (da_cons de_int (da_cons de_int da_nil))) (da_cons (de_tup (da_cons de_int (da_cons de_int da_nil))) (da_cons (de_tup (da_cons de_int (da_cons de_int da_nil))) (da_cons (de_tup (da_cons (de_bin op_mulA od_mulA de_int (de_var 10)) (da_cons (de_bin op_mulA od_mulA de_int (de_var 10)) da_nil))) da_nil))))) (de_bin op_mod od_mod (de_bin op_fdiv od_div (de_var 3) de_int) de_int)) (pgT (pgs1 (pgN 11 sc_law_rows.nd) (pgs1 (pgN 12 sc_law_rows.nd) pgs0))))
      (dss_cons (ds_set (i := 13) (fz := true) sc_law_rows.nd (de_bin op_addA od_add (de_biT call_intA cd_int z_int boot_int (da_cons (de_cmp op_ge od_ge (de_var 9) (de_var 11)) da_nil)) (de_biT call_intA cd_int z_int boot_int (da_cons (de_cmp op_ge od_ge (de_var 9) (de_var 12)) da_nil))))
      (dss_cons (ds_if (dt_cmp (op_eqD (hq hr)) od_eq (de_bin op_mod od_mod (de_var 0) de_int) de_int) (dss_cons (ds_set (i := 13) (fz := true) sc_law_rows.nd (de_bin op_mod od_mod (de_var 4) de_int))
      (dss_one (ds_set (i := 4) (fz := true) sc_law_rows.nd (de_bin op_fdiv od_div (de_var 4) de_int)))) dss_nil)
      (dss_one (ds_if (dt_cmp (op_eqD (hq hr)) od_eq (de_var 13) de_int) (dss_one (ds_app 6 (de_var 8))) (dss_one (ds_if (dt_cmp (op_eqD (hq hr)) od_eq (de_var 13) de_int) (dss_one (ds_app 7 (de_var 8))) dss_nil))))))))) PassesOwn.never)
      (dss_cons (ds_set (i := 14) (fz := true) sc_law_rows.nd (de_bin op_mod od_mod (de_var 4) de_int))
      (dss_one (ds_ret (de_tup (da_cons (de_var 5) (da_cons (de_bin op_addA od_add (de_slice (de_var 6) (do_some (de_var 14)) do_none) (de_slice (de_var 6) do_none (do_some (de_var 14)))) (da_cons (de_bin op_addA od_add (de_slice (de_var 7) (do_some (de_var 14)) do_none) (de_slice (de_var 7) do_none (do_some (de_var 14)))) da_nil))))))))))))))
theorem ok_law {f_law : Addr} {fd_law : FuncData} (D_law : Def K mg "law" s_law P_law f_law fd_law) {f_Saying___init : Addr} {fd_Saying___init : FuncData} {f_law_caught : Addr} {fd_law_caught : FuncData} (D_law_caught : Def K mg "_law_caught" s_law_caught P_law_caught f_law_caught fd_law_caught) {f_law_digits : Addr} {fd_law_digits : FuncData} (D_law_digits : Def K mg "_law_digits" s_law_digits P_law_digits f_law_digits fd_law_digits) {f_law_due : Addr} {fd_law_due : FuncData} (D_law_due : Def K mg "_law_due" s_law_due P_law_due f_law_due fd_law_due) {f_law_is_told : Addr} {fd_law_is_told : FuncData} (D_law_is_told : Def K mg "_law_is_told" s_law_is_told P_law_is_told f_law_is_told fd_law_is_told) {f_law_list : Addr} {fd_law_list : FuncData} (D_law_list : Def K mg "_law_list" s_law_list P_law_list f_law_list fd_law_list) {f_law_odd : Addr} {fd_law_odd : FuncData} (D_law_odd : Def K mg "_law_odd" s_law_odd P_law_odd f_law_odd fd_law_odd) {f_law_rows : Addr} {fd_law_rows : FuncData} (D_law_rows : Def K mg "_law_rows" s_law_rows P_law_rows f_law_rows fd_law_rows) {f_law_spread : Addr} {fd_law_spread : FuncData} (D_law_spread : Def K mg "_law_spread" s_law_spread P_law_spread f_law_spread fd_law_spread) {f_is_telling : Addr} {fd_is_telling : FuncData} (D_is_telling : Def K mg "is_telling" s_is_telling P_is_telling f_is_telling fd_is_telling) (okcl : ClOk K cl) (G_Saying___init : FnOk P w K mg base (L2.CX P w) 3 f_Saying___init fd_Saying___init P_Saying___init (spI K T 4 (cl.at_ "Saying") (g_Saying___init cl))) (G_law_caught : FnOk P w K mg base CX0 8 f_law_caught fd_law_caught P_law_caught (spD K T 2 (g_law_caught cl))) (G_law_digits : FnOk P w K mg base CX0 1 f_law_digits fd_law_digits P_law_digits (spD K T 2 (g_law_digits cl))) (G_law_due : FnOk P w K mg base CX0 3 f_law_due fd_law_due P_law_due (spD K T 2 (g_law_due cl))) (G_law_is_told : FnOk P w K mg base CX0 3 f_law_is_told fd_law_is_told P_law_is_told (spD K T 4 (g_law_is_told cl))) (G_law_list : FnOk P w K mg base CX0 3 f_law_list fd_law_list P_law_list (spD K T 4 (g_law_list cl))) (G_law_odd : FnOk P w K mg base CX0 1 f_law_odd fd_law_odd P_law_odd (spD K T 3 (g_law_odd cl))) (G_law_rows : FnOk P w K mg base CX0 2 f_law_rows fd_law_rows P_law_rows (spD K T 3 (g_law_rows cl))) (G_law_spread : FnOk P w K mg base CX0 1 f_law_spread fd_law_spread P_law_spread (spD K T 2 (g_law_spread cl))) (G_is_telling : FnOk P w K mg base (L2.CX P w) 6 f_is_telling fd_is_telling P_is_telling (spD K T 2 (g_is_telling cl))) (C_Saying : Cls K (cl.at_ "Saying")) (MK_Saying : Mk K (cl.at_ "Saying") f_Saying___init) (k_Saying : mg "Saying" = some (.ref (cl.at_ "Saying"))) (hmk_Saying : ∀ ds, mk_Saying cl ds ≠ .no → ∀ y, g_Saying___init cl y ds = mk_Saying cl ds) {vd3_Saying : List Value} (B3_Saying : Binds K fd_Saying___init P_Saying___init vd3_Saying) (V3_Saying : Vals [] vd3_Saying) (z_bool : mg "bool" = none) (z_enumerate : mg "enumerate" = none) (z_isinstance : mg "isinstance" = none) (z_list : mg "list" = none) (z_range : mg "range" = none) :
    FnOk P w K mg base CX0 9 f_law fd_law P_law (spD K T 1 (g_law cl)) :=
  def_ok0 D_law sc_law (b_law cl) fun cdv A outer s H E hr =>
      (dss_cons (ds_for (t := (.tp [1, 2])) (di_enum z_enumerate (da_cons (de_bin op_addA od_add (de_var 0) (de_lst (da_cons de_int da_nil))) da_nil)) (pgT (pgs1 (pgN 1 sc_law.nd) (pgs1 (pgN 2 sc_law.nd) pgs0))) (dss_cons (ds_set (i := 3) (fz := true) sc_law.nd (de_call G_law_spread pass0 (hr.mono (by decide)) D_law_spread.at_ D_law_spread.fn.kp D_law_spread.bd (da_cons (de_var 2) (da_cons (de_bin op_mod od_mod (de_var 1) de_int) da_nil)) (fCons_len (fCons_len fNil_len))))
      (dss_cons (ds_asg (t := (.tp [4, 5, 6])) (de_call G_law_rows pass0 (hr.mono (by decide)) D_law_rows.at_ D_law_rows.fn.kp D_law_rows.bd (da_cons (de_var 2) (da_cons (de_bin op_mod od_mod (de_var 1) de_int) (da_cons de_int da_nil))) (fCons_len (fCons_len (fCons_len fNil_len)))) (pgT (pgs1 (pgN 4 sc_law.nd) (pgs1 (pgN 5 sc_law.nd) (pgs1 (pgN 6 sc_law.nd) pgs0)))))
      (dss_cons (ds_setLc (i := 7) (fz := true) (own := [("_law_one", 14)]) (t := (.nm 14)) sc_law.nd (di_range1 z_range (da_cons (de_bin op_shl od_shl de_int (de_var 4)) da_nil)) (blkOk_by (N := N_law) (sc := defScope s_law) (by decide +kernel)) (fun _ _ _ _ _ => (pgN 14 sc_law.nd)) (fun _ _ _ _ _ => (dts_one (dt_w (dw_and (dt_cmp op_notIn_seq od_nin (de_var 14) (de_var 5)) (dw_and1 (dt_cmp op_notIn_seq od_nin (de_var 14) (de_var 6))))))) (fun _ _ _ _ _ => (de_var 14)))
      (dss_cons (ds_set (i := 8) (fz := true) sc_law.nd (de_make MK_Saying G_Saying___init hmk_Saying takes0 (hr.mono (by decide)) k_Saying B3_Saying V3_Saying (fun _ => RpL.nil) (da_cons (de_var 4) (da_cons (de_var 5) (da_cons (de_var 6) da_nil))) (fun es rs h => by rw [(fCons_len (fCons_len (fCons_len fNil_len))) es rs h]; rfl)))
      (dss_cons (ds_set (i := 9) (fz := true) sc_law.nd (de_if (dt_w (dw_and (dt_cmp (op_eqD (hq hr)) od_eq (de_bin op_mod od_mod (de_var 2) de_int) de_int) (dw_and1 (dt_cmp (op_eqD (hq hr)) od_eq (de_bin op_mod od_mod (de_var 3) de_int) de_int)))) (de_call G_law_digits pass0 (hr.mono (by decide)) D_law_digits.at_ D_law_digits.fn.kp D_law_digits.bd (da_cons (de_var 2) (da_cons (de_var 4) da_nil)) (fCons_len (fCons_len fNil_len))) (de_call G_law_list pass0 (hr.mono (by decide)) D_law_list.at_ D_law_list.fn.kp D_law_list.bd (da_cons (de_var 4) (da_cons (de_var 5) (da_cons (de_var 6) (da_cons (de_bin op_fdiv od_div (de_var 3) de_int) da_nil)))) (fCons_len (fCons_len (fCons_len (fCons_len fNil_len)))))))
      (dss_cons (ds_set (i := 10) (fz := true) sc_law.nd (de_call G_law_is_told pass0 (hr.mono (by decide)) D_law_is_told.at_ D_law_is_told.fn.kp D_law_is_told.bd (da_cons (de_var 4) (da_cons (de_var 5) (da_cons (de_var 7) (da_cons (de_var 9) da_nil)))) (fCons_len (fCons_len (fCons_len (fCons_len fNil_len))))))
      (dss_cons (ds_set (i := 11) (fz := true) sc_law.nd (de_biT (call_listA rfl) cd_list z_list boot_list (da_cons (de_var 9) da_nil)))
      (dss_cons (ds_if (dt_w (dw_or (dt_cmp (op_neD (hq hr)) od_ne (de_callX G_is_telling takes0 (hr.mono (by decide)) D_is_telling.at_ D_is_telling.fn.kp D_is_telling.bd (da_cons (de_var 8) (da_cons (de_var 11) da_nil)) (fCons_len (fCons_len fNil_len))) (de_var 10)) (dw_or1 (dt_not (dt_val (de_bi call_isiX (cd_isX okcl) z_isinstance boot_isinstance (da_cons (de_callX G_is_telling takes0 (hr.mono (by decide)) D_is_telling.at_ D_is_telling.fn.kp D_is_telling.bd (da_cons (de_var 8) (da_cons (de_var 11) da_nil)) (fCons_len (fCons_len fNil_len))) (da_cons (de_bltn z_bool boot_bool) da_nil)))))))) (dss_one (ds_ret de_bl)) dss_nil)
      (dss_cons (ds_set (i := 12) (fz := false) sc_law.nd (de_call G_law_caught pass0 (hr.mono (by decide)) D_law_caught.at_ D_law_caught.fn.kp D_law_caught.bd (da_cons (de_var 8) (da_cons (de_var 11) da_nil)) (fCons_len (fCons_len fNil_len))))
      (dss_cons (ds_if (dt_cmp (op_neD (hq hr)) od_ne (de_var 12) (de_if (dt_val (de_var 10)) (de_call G_law_due pass0 (hr.mono (by decide)) D_law_due.at_ D_law_due.fn.kp D_law_due.bd (da_cons (de_var 5) (da_cons (de_var 9) da_nil)) (fCons_len (fCons_len fNil_len))) (de_str [116, 101, 108, 108, 105, 110, 103, 32]))) (dss_one (ds_ret de_bl)) dss_nil)
      (dss_cons (ds_if (dt_val (de_var 10)) (dss_one (ds_app 12 de_non)) dss_nil)
      (dss_cons (ds_if (dt_cmp (op_neD (hq hr)) od_ne (de_var 11) (de_var 9)) (dss_one (ds_ret de_bl)) dss_nil)
      (dss_cons (ds_set (i := 13) (fz := true) sc_law.nd (de_call G_law_odd pass0 (hr.mono (by decide)) D_law_odd.at_ D_law_odd.fn.kp D_law_odd.bd (da_cons (de_var 9) (da_cons (de_var 4) (da_cons (de_bin op_fdiv od_div (de_var 3) de_int) da_nil))) (fCons_len (fCons_len (fCons_len fNil_len)))))
      (dss_one (ds_if (dt_w (dw_or (dt_cmp op_nisA od_nis (de_callX G_is_telling takes0 (hr.mono (by decide)) D_is_telling.at_ D_is_telling.fn.kp D_is_telling.bd (da_cons (de_var 8) (da_cons (de_var 13) da_nil)) (fCons_len (fCons_len fNil_len))) de_bl) (dw_or1 (dt_cmp (op_neD (hq hr)) od_ne (de_call G_law_caught pass0 (hr.mono (by decide)) D_law_caught.at_ D_law_caught.fn.kp D_law_caught.bd (da_cons (de_var 8) (da_cons (de_var 13) da_nil)) (fCons_len (fCons_len fNil_len))) (de_str [116, 101, 108, 108, 105, 110, 103, 32]))))) (dss_one (ds_ret de_bl)) dss_nil))))))))))))))) PassesOwn.never)
      (dss_one (ds_ret de_bl)))
end
end K05
namespace K05
open PySem PySem.Spec PyProof.Rows L2 Fw
open K02 K03
theorem all_mk {w : World} {K : PySem.W.Frag} {h : Heap} {mg : Str → Option Value} {fa : Addr} {q : Program} (X : K.In h) (G : h.Ns mainGlobals mg) (hfa : mg "law" = some (.ref fa))
    (own : ∀ (y : Str) (f : Addr), ((recsOf q).any fun e => e.name == y) = true → mg y = some (.ref f) → OwnT K f h)
    {c_Saying : Addr}
    {c_BadCount : Addr}
    {c_BadNote : Addr}
    {c_BadRows : Addr}
    {c_BadTelling : Addr}
    {c_BadTerm : Addr}
    {c_TermError : Addr}
    {f_all_settings : Addr} {od_all_settings an_all_settings : Option Addr} {sl_all_settings : Array (Option Value)} {oc_all_settings kV_all_settings dc_all_settings pm_all_settings ct_all_settings cd_all_settings : Value}
    {f_is_count : Addr} {od_is_count an_is_count : Option Addr} {sl_is_count : Array (Option Value)} {oc_is_count kV_is_count dc_is_count pm_is_count ct_is_count cd_is_count : Value}
    {f_is_setting : Addr} {od_is_setting an_is_setting : Option Addr} {sl_is_setting : Array (Option Value)} {oc_is_setting kV_is_setting dc_is_setting pm_is_setting ct_is_setting cd_is_setting : Value}
    {f_rising_settings : Addr} {od_rising_settings an_rising_settings : Option Addr} {sl_rising_settings : Array (Option Value)} {oc_rising_settings kV_rising_settings dc_rising_settings pm_rising_settings ct_rising_settings cd_rising_settings : Value}
    {f_Saying___init : Addr} {od_Saying___init an_Saying___init : Option Addr} {sl_Saying___init : Array (Option Value)} {oc_Saying___init kV_Saying___init dc_Saying___init pm_Saying___init ct_Saying___init cd_Saying___init : Value}
    {dv_Saying___init : Addr} {do_Saying___init : Option Addr} {de_Saying___init : Value} {dn_Saying___init : Nat} {ds_Saying___init : Array (Option Value)}
    {f_law_word : Addr} {od_law_word an_law_word : Option Addr} {sl_law_word : Array (Option Value)} {oc_law_word kV_law_word dc_law_word pm_law_word ct_law_word cd_law_word : Value}
    {f_Saying_on : Addr} {od_Saying_on an_Saying_on : Option Addr} {sl_Saying_on : Array (Option Value)} {oc_Saying_on kV_Saying_on dc_Saying_on pm_Saying_on ct_Saying_on cd_Saying_on : Value}
    {f_is_lit : Addr} {od_is_lit an_is_lit : Option Addr} {sl_is_lit : Array (Option Value)} {oc_is_lit kV_is_lit dc_is_lit pm_is_lit ct_is_lit cd_is_lit : Value}
    {f_sign_at : Addr} {od_sign_at an_sign_at : Option Addr} {sl_sign_at : Array (Option Value)} {oc_sign_at kV_sign_at dc_sign_at pm_sign_at ct_sign_at cd_sign_at : Value}
    {f_has : Addr} {od_has an_has : Option Addr} {sl_has : Array (Option Value)} {oc_has kV_has dc_has pm_has ct_has cd_has : Value}
    {f_is_term : Addr} {od_is_term an_is_term : Option Addr} {sl_is_term : Array (Option Value)} {oc_is_term kV_is_term dc_is_term pm_is_term ct_is_term : Value}
    {c_is_term p_is_term : Addr} {te_is_term : Value} {td_is_term : Option Addr} {tv_is_term : Array Value} {ts_is_term : Array (Option Value)}
    {f_Saying_is_good : Addr} {od_Saying_is_good an_Saying_is_good : Option Addr} {sl_Saying_is_good : Array (Option Value)} {oc_Saying_is_good kV_Saying_is_good dc_Saying_is_good pm_Saying_is_good ct_Saying_is_good cd_Saying_is_good : Value}
    {f_Saying_many : Addr} {od_Saying_many an_Saying_many : Option Addr} {sl_Saying_many : Array (Option Value)} {oc_Saying_many kV_Saying_many dc_Saying_many pm_Saying_many ct_Saying_many cd_Saying_many : Value}
    {f_are_good_terms : Addr} {od_are_good_terms an_are_good_terms : Option Addr} {sl_are_good_terms : Array (Option Value)} {oc_are_good_terms kV_are_good_terms dc_are_good_terms pm_are_good_terms ct_are_good_terms cd_are_good_terms : Value}
    {f_is_telling : Addr} {od_is_telling an_is_telling : Option Addr} {sl_is_telling : Array (Option Value)} {oc_is_telling kV_is_telling dc_is_telling pm_is_telling ct_is_telling cd_is_telling : Value}
    {f_trimmed : Addr} {od_trimmed an_trimmed : Option Addr} {sl_trimmed : Array (Option Value)} {oc_trimmed kV_trimmed dc_trimmed pm_trimmed ct_trimmed cd_trimmed : Value}
    {f_law_caught : Addr} {od_law_caught an_law_caught : Option Addr} {sl_law_caught : Array (Option Value)} {oc_law_caught kV_law_caught dc_law_caught pm_law_caught ct_law_caught cd_law_caught : Value}
    {f_law_digits : Addr} {od_law_digits an_law_digits : Option Addr} {sl_law_digits : Array (Option Value)} {oc_law_digits kV_law_digits dc_law_digits pm_law_digits ct_law_digits cd_law_digits : Value}
    {f_law_agrees : Addr} {od_law_agrees an_law_agrees : Option Addr} {sl_law_agrees : Array (Option Value)} {oc_law_agrees kV_law_agrees dc_law_agrees pm_law_agrees ct_law_agrees cd_law_agrees : Value}
    {f_law_all_on : Addr} {od_law_all_on an_law_all_on : Option Addr} {sl_law_all_on : Array (Option Value)} {oc_law_all_on kV_law_all_on dc_law_all_on pm_law_all_on ct_law_all_on cd_law_all_on : Value}
    {f_law_due : Addr} {od_law_due an_law_due : Option Addr} {sl_law_due : Array (Option Value)} {oc_law_due kV_law_due dc_law_due pm_law_due ct_law_due cd_law_due : Value}
    {f_law_is_told : Addr} {od_law_is_told an_law_is_told : Option Addr} {sl_law_is_told : Array (Option Value)} {oc_law_is_told kV_law_is_told dc_law_is_told pm_law_is_told ct_law_is_told cd_law_is_told : Value}
    {f_law_terms : Addr} {od_law_terms an_law_terms : Option Addr} {sl_law_terms : Array (Option Value)} {oc_law_terms kV_law_terms dc_law_terms pm_law_terms ct_law_terms cd_law_terms : Value}
    {f_law_ends : Addr} {od_law_ends an_law_ends : Option Addr} {sl_law_ends : Array (Option Value)} {oc_law_ends kV_law_ends dc_law_ends pm_law_ends ct_law_ends cd_law_ends : Value}
    {f_law_spread : Addr} {od_law_spread an_law_spread : Option Addr} {sl_law_spread : Array (Option Value)} {oc_law_spread kV_law_spread dc_law_spread pm_law_spread ct_law_spread cd_law_spread : Value}
    {f_law_mixed : Addr} {od_law_mixed an_law_mixed : Option Addr} {sl_law_mixed : Array (Option Value)} {oc_law_mixed kV_law_mixed dc_law_mixed pm_law_mixed ct_law_mixed cd_law_mixed : Value}
    {f_law_list : Addr} {od_law_list an_law_list : Option Addr} {sl_law_list : Array (Option Value)} {oc_law_list kV_law_list dc_law_list pm_law_list ct_law_list cd_law_list : Value}
    {f_law_odd : Addr} {od_law_odd an_law_odd : Option Addr} {sl_law_odd : Array (Option Value)} {oc_law_odd kV_law_odd dc_law_odd pm_law_odd ct_law_odd cd_law_odd : Value}
    {f_law_rows : Addr} {od_law_rows an_law_rows : Option Addr} {sl_law_rows : Array (Option Value)} {oc_law_rows kV_law_rows dc_law_rows pm_law_rows ct_law_rows cd_law_rows : Value}
    {f_law : Addr} {od_law an_law : Option Addr} {sl_law : Array (Option Value)} {oc_law kV_law dc_law pm_law ct_law cd_law : Value}
    {v_DARK : Str} {tk_DARK : Tok}
    {v_EITHER : Str} {tk_EITHER : Tok}
    {v_LIT : Str} {tk_LIT : Tok}
    {v_MOST_LAMPS : Int} {tk_MOST_LAMPS : Tok}
    {v_SIGNS : Str} {tk_SIGNS : Tok}
    (n_Saying : PySem.W.nsIn K mainGlobals "Saying" = some (some (.ref c_Saying)))
    (n_BadCount : PySem.W.nsIn K mainGlobals "BadCount" = some (some (.ref c_BadCount)))
    (n_BadNote : PySem.W.nsIn K mainGlobals "BadNote" = some (some (.ref c_BadNote)))
    (n_BadRows : PySem.W.nsIn K mainGlobals "BadRows" = some (some (.ref c_BadRows)))
    (n_BadTelling : PySem.W.nsIn K mainGlobals "BadTelling" = some (some (.ref c_BadTelling)))
    (n_BadTerm : PySem.W.nsIn K mainGlobals "BadTerm" = some (some (.ref c_BadTerm)))
    (n_TermError : PySem.W.nsIn K mainGlobals "TermError" = some (some (.ref c_TermError)))
    (cm_Saying : PySem.W.makesIn K c_Saying = true)
    (ck_Saying : PySem.W.keepIn K (.ref c_Saying) = true)
    (cg_Saying : PySem.W.plainGet K c_Saying Str.empty = true)
    (cd_Saying : PySem.W.hasDictIn K c_Saying = true)
    (co_Saying : PySem.W.plainOver K c_Saying = true)
    (cs_Saying : PySem.W.findIn K (.ref c_Saying) "__setattr__" = some (some (.builtin "object.__setattr__")))
    (cf_Saying_free : PySem.W.findIn K (.ref c_Saying) "_free" = some none)
    (cf_Saying_many : PySem.W.findIn K (.ref c_Saying) "_many" = some none)
    (cf_Saying_off : PySem.W.findIn K (.ref c_Saying) "_off" = some none)
    (cf_Saying_on : PySem.W.findIn K (.ref c_Saying) "_on" = some none)
    (xk_BadCount : PySem.W.keepIn K (.ref c_BadCount) = true)
    (xe_BadCount : PySem.W.excIn K c_BadCount [.type "ValueError", .type "Exception", .type "BaseException", .type "object"] "ValueError.__new__" = true)
    (xk_BadRows : PySem.W.keepIn K (.ref c_BadRows) = true)
    (xe_BadRows : PySem.W.excIn K c_BadRows [.type "ValueError", .type "Exception", .type "BaseException", .type "object"] "ValueError.__new__" = true)
    (xk_BadTelling : PySem.W.keepIn K (.ref c_BadTelling) = true)
    (xe_BadTelling : PySem.W.excIn K c_BadTelling [.type "ValueError", .type "Exception", .type "BaseException", .type "object"] "ValueError.__new__" = true)
    (xk_BadTerm : PySem.W.keepIn K (.ref c_BadTerm) = true)
    (xe_BadTerm : PySem.W.excIn K c_BadTerm [.type "ValueError", .type "Exception", .type "BaseException", .type "object"] "ValueError.__new__" = true)
    (xs_BadCount : PySem.W.subIn K (.ref c_BadCount) (.type "BaseException") = some true)
    (xt_BadCount : PySem.W.typeIn K (.ref c_BadCount) = some (.type "type"))
    (xs_BadNote : PySem.W.subIn K (.ref c_BadNote) (.type "BaseException") = some true)
    (xt_BadNote : PySem.W.typeIn K (.ref c_BadNote) = some (.type "type"))
    (xs_BadRows : PySem.W.subIn K (.ref c_BadRows) (.type "BaseException") = some true)
    (xt_BadRows : PySem.W.typeIn K (.ref c_BadRows) = some (.type "type"))
    (xs_BadTelling : PySem.W.subIn K (.ref c_BadTelling) (.type "BaseException") = some true)
    (xt_BadTelling : PySem.W.typeIn K (.ref c_BadTelling) = some (.type "type"))
    (xs_BadTerm : PySem.W.subIn K (.ref c_BadTerm) (.type "BaseException") = some true)
    (xt_BadTerm : PySem.W.typeIn K (.ref c_BadTerm) = some (.type "type"))
    (xs_TermError : PySem.W.subIn K (.ref c_TermError) (.type "BaseException") = some true)
    (xt_TermError : PySem.W.typeIn K (.ref c_TermError) = some (.type "type"))
    (xi_BadCount : PySem.W.isClsIn K c_BadCount = true)
    (xz_BadCount : PySem.W.subIn K (.ref c_BadCount) (.ref c_BadCount) = some true)
    (xi_BadNote : PySem.W.isClsIn K c_BadNote = true)
    (xz_BadNote : PySem.W.subIn K (.ref c_BadNote) (.ref c_BadNote) = some true)
    (xi_BadRows : PySem.W.isClsIn K c_BadRows = true)
    (xz_BadRows : PySem.W.subIn K (.ref c_BadRows) (.ref c_BadRows) = some true)
    (xi_BadTelling : PySem.W.isClsIn K c_BadTelling = true)
    (xz_BadTelling : PySem.W.subIn K (.ref c_BadTelling) (.ref c_BadTelling) = some true)
    (xi_BadTerm : PySem.W.isClsIn K c_BadTerm = true)
    (xz_BadTerm : PySem.W.subIn K (.ref c_BadTerm) (.ref c_BadTerm) = some true)
    (xi_TermError : PySem.W.isClsIn K c_TermError = true)
    (xz_TermError : PySem.W.subIn K (.ref c_TermError) (.ref c_TermError) = some true)
    (xf0_BadTelling : PySem.W.findIn K (.ref c_BadTelling) "__getattribute__" = some (some (.builtin "BaseException.__getattribute__")))
    (xf1_BadTelling : PySem.W.findIn K (.ref c_BadTelling) "__getattr__" = some none)
    (xf2_BadTelling : PySem.W.findIn K (.ref c_BadTelling) "__class__" = some (some (.builtin "object.__class__")))
    (xd_BadTelling : PySem.W.hasDictIn K c_BadTelling = true)
    (xm_BadTelling : PySem.W.mroIn K c_BadTelling (.type "object") = some true)
    (xv_BadTelling : PySem.W.subIn K (.ref c_BadTelling) (.type "ValueError") = some true)
    (xp_BadTelling_BadCount : PySem.W.subIn K (.ref c_BadTelling) (.ref c_BadCount) = some false)
    (xp_BadTelling_BadRows : PySem.W.subIn K (.ref c_BadTelling) (.ref c_BadRows) = some false)
    (xp_BadTelling_BadTerm : PySem.W.subIn K (.ref c_BadTelling) (.ref c_BadTerm) = some false)
    (xp_BadTelling_BadTelling : PySem.W.subIn K (.ref c_BadTelling) (.ref c_BadTelling) = some true)
    (xp_BadTelling_BadNote : PySem.W.subIn K (.ref c_BadTelling) (.ref c_BadNote) = some false)
    (xx_BadTelling : PySem.W.subIn K (.ref c_BadTelling) (.ref c_TermError) = some true)
    (xo1 : PySem.W.specialIn K (.builtin "object.__class__") "__get__" = some (some (.builtin "getset_descriptor.__get__")))
    (xo2 : PySem.W.takesIn K (.builtin "object.__class__") = some true)
    (a_all_settings : PySem.W.nsIn K mainGlobals "all_settings" = some (some (.ref f_all_settings)))
    (l_all_settings : K.lookup f_all_settings = some ⟨oc_all_settings, od_all_settings, .func (PySem.W.fnOf "all_settings" "all_settings" (defArgs s_all_settings) (defBody s_all_settings) (defScope s_all_settings) .none kV_all_settings dc_all_settings pm_all_settings an_all_settings cd_all_settings ct_all_settings), sl_all_settings⟩)
    (i_all_settings : PySem.W.codeIn K cd_all_settings "all_settings" = true)
    (k_all_settings : PySem.W.keepIn K (.ref f_all_settings) = true)
    (a_is_count : PySem.W.nsIn K mainGlobals "is_count" = some (some (.ref f_is_count)))
    (l_is_count : K.lookup f_is_count = some ⟨oc_is_count, od_is_count, .func (PySem.W.fnOf "is_count" "is_count" (defArgs s_is_count) (defBody s_is_count) (defScope s_is_count) .none kV_is_count dc_is_count pm_is_count an_is_count cd_is_count ct_is_count), sl_is_count⟩)
    (i_is_count : PySem.W.codeIn K cd_is_count "is_count" = true)
    (k_is_count : PySem.W.keepIn K (.ref f_is_count) = true)
    (a_is_setting : PySem.W.nsIn K mainGlobals "is_setting" = some (some (.ref f_is_setting)))
    (l_is_setting : K.lookup f_is_setting = some ⟨oc_is_setting, od_is_setting, .func (PySem.W.fnOf "is_setting" "is_setting" (defArgs s_is_setting) (defBody s_is_setting) (defScope s_is_setting) .none kV_is_setting dc_is_setting pm_is_setting an_is_setting cd_is_setting ct_is_setting), sl_is_setting⟩)
    (i_is_setting : PySem.W.codeIn K cd_is_setting "is_setting" = true)
    (k_is_setting : PySem.W.keepIn K (.ref f_is_setting) = true)
    (a_rising_settings : PySem.W.nsIn K mainGlobals "rising_settings" = some (some (.ref f_rising_settings)))
    (l_rising_settings : K.lookup f_rising_settings = some ⟨oc_rising_settings, od_rising_settings, .func (PySem.W.fnOf "rising_settings" "rising_settings" (defArgs s_rising_settings) (defBody s_rising_settings) (defScope s_rising_settings) .none kV_rising_settings dc_rising_settings pm_rising_settings an_rising_settings cd_rising_settings ct_rising_settings), sl_rising_settings⟩)
    (i_rising_settings : PySem.W.codeIn K cd_rising_settings "rising_settings" = true)
    (k_rising_settings : PySem.W.keepIn K (.ref f_rising_settings) = true)
    (a_Saying___init : PySem.W.findIn K (.ref c_Saying) "__init__" = some (some (.ref f_Saying___init)))
    (j_Saying___init : PySem.W.isFn K (.ref f_Saying___init) = true)
    (l_Saying___init : K.lookup f_Saying___init = some ⟨oc_Saying___init, od_Saying___init, .func (PySem.W.fnOf "__init__" "Saying.__init__" (defArgs s_Saying___init) (defBody s_Saying___init) (defScope s_Saying___init) (.ref dv_Saying___init) kV_Saying___init dc_Saying___init pm_Saying___init an_Saying___init cd_Saying___init ct_Saying___init), sl_Saying___init⟩)
    (d_Saying___init : K.lookup dv_Saying___init = some ⟨de_Saying___init, do_Saying___init, .seq #[.none] dn_Saying___init, ds_Saying___init⟩)
    (i_Saying___init : PySem.W.codeIn K cd_Saying___init "Saying.__init__" = true)
    (k_Saying___init : PySem.W.keepIn K (.ref f_Saying___init) = true)
    (a_law_word : PySem.W.nsIn K mainGlobals "_law_word" = some (some (.ref f_law_word)))
    (l_law_word : K.lookup f_law_word = some ⟨oc_law_word, od_law_word, .func (PySem.W.fnOf "_law_word" "_law_word" (defArgs s_law_word) (defBody s_law_word) (defScope s_law_word) .none kV_law_word dc_law_word pm_law_word an_law_word cd_law_word ct_law_word), sl_law_word⟩)
    (i_law_word : PySem.W.codeIn K cd_law_word "_law_word" = true)
    (k_law_word : PySem.W.keepIn K (.ref f_law_word) = true)
    (a_Saying_on : PySem.W.findIn K (.ref c_Saying) "on" = some (some (.ref f_Saying_on)))
    (j_Saying_on : PySem.W.isFn K (.ref f_Saying_on) = true)
    (l_Saying_on : K.lookup f_Saying_on = some ⟨oc_Saying_on, od_Saying_on, .func (PySem.W.fnOf "on" "Saying.on" (defArgs s_Saying_on) (defBody s_Saying_on) (defScope s_Saying_on) .none kV_Saying_on dc_Saying_on pm_Saying_on an_Saying_on cd_Saying_on ct_Saying_on), sl_Saying_on⟩)
    (i_Saying_on : PySem.W.codeIn K cd_Saying_on "Saying.on" = true)
    (k_Saying_on : PySem.W.keepIn K (.ref f_Saying_on) = true)
    (a_is_lit : PySem.W.nsIn K mainGlobals "is_lit" = some (some (.ref f_is_lit)))
    (l_is_lit : K.lookup f_is_lit = some ⟨oc_is_lit, od_is_lit, .func (PySem.W.fnOf "is_lit" "is_lit" (defArgs s_is_lit) (defBody s_is_lit) (defScope s_is_lit) .none kV_is_lit dc_is_lit pm_is_lit an_is_lit cd_is_lit ct_is_lit), sl_is_lit⟩)
    (i_is_lit : PySem.W.codeIn K cd_is_lit "is_lit" = true)
    (k_is_lit : PySem.W.keepIn K (.ref f_is_lit) = true)
    (a_sign_at : PySem.W.nsIn K mainGlobals "sign_at" = some (some (.ref f_sign_at)))
    (l_sign_at : K.lookup f_sign_at = some ⟨oc_sign_at, od_sign_at, .func (PySem.W.fnOf "sign_at" "sign_at" (defArgs s_sign_at) (defBody s_sign_at) (defScope s_sign_at) .none kV_sign_at dc_sign_at pm_sign_at an_sign_at cd_sign_at ct_sign_at), sl_sign_at⟩)
    (i_sign_at : PySem.W.codeIn K cd_sign_at "sign_at" = true)
    (k_sign_at : PySem.W.keepIn K (.ref f_sign_at) = true)
    (a_has : PySem.W.nsIn K mainGlobals "has" = some (some (.ref f_has)))
    (l_has : K.lookup f_has = some ⟨oc_has, od_has, .func (PySem.W.fnOf "has" "has" (defArgs s_has) (defBody s_has) (defScope s_has) .none kV_has dc_has pm_has an_has cd_has ct_has), sl_has⟩)
    (i_has : PySem.W.codeIn K cd_has "has" = true)
    (k_has : PySem.W.keepIn K (.ref f_has) = true)
    (a_is_term : PySem.W.nsIn K mainGlobals "is_term" = some (some (.ref f_is_term)))
    (l_is_term : K.lookup f_is_term = some ⟨oc_is_term, od_is_term, .func (PySem.W.fnOf "is_term" "is_term" (defArgs s_is_term) (defBody s_is_term) (defScope s_is_term) .none kV_is_term dc_is_term pm_is_term an_is_term (.ref c_is_term) ct_is_term), sl_is_term⟩)
    (i_is_term : PySem.W.codeIn K (.ref c_is_term) "is_term" = true)
    (k_is_term : PySem.W.keepIn K (.ref f_is_term) = true)
    (t_is_term : K.lookup c_is_term = some ⟨te_is_term, td_is_term, .fields tv_is_term, ts_is_term⟩)
    (u_is_term : tv_is_term[11]? = some (.ref p_is_term))
    (q_is_term : K.lookup p_is_term = none)
    (r_is_term : ((recsOf q).any fun e => e.name == ("is_term" : Str)) = true)
    (a_Saying_is_good : PySem.W.findIn K (.ref c_Saying) "is_good" = some (some (.ref f_Saying_is_good)))
    (j_Saying_is_good : PySem.W.isFn K (.ref f_Saying_is_good) = true)
    (l_Saying_is_good : K.lookup f_Saying_is_good = some ⟨oc_Saying_is_good, od_Saying_is_good, .func (PySem.W.fnOf "is_good" "Saying.is_good" (defArgs s_Saying_is_good) (defBody s_Saying_is_good) (defScope s_Saying_is_good) .none kV_Saying_is_good dc_Saying_is_good pm_Saying_is_good an_Saying_is_good cd_Saying_is_good ct_Saying_is_good), sl_Saying_is_good⟩)
    (i_Saying_is_good : PySem.W.codeIn K cd_Saying_is_good "Saying.is_good" = true)
    (k_Saying_is_good : PySem.W.keepIn K (.ref f_Saying_is_good) = true)
    (a_Saying_many : PySem.W.findIn K (.ref c_Saying) "many" = some (some (.ref f_Saying_many)))
    (j_Saying_many : PySem.W.isFn K (.ref f_Saying_many) = true)
    (l_Saying_many : K.lookup f_Saying_many = some ⟨oc_Saying_many, od_Saying_many, .func (PySem.W.fnOf "many" "Saying.many" (defArgs s_Saying_many) (defBody s_Saying_many) (defScope s_Saying_many) .none kV_Saying_many dc_Saying_many pm_Saying_many an_Saying_many cd_Saying_many ct_Saying_many), sl_Saying_many⟩)
    (i_Saying_many : PySem.W.codeIn K cd_Saying_many "Saying.many" = true)
    (k_Saying_many : PySem.W.keepIn K (.ref f_Saying_many) = true)
    (a_are_good_terms : PySem.W.nsIn K mainGlobals "are_good_terms" = some (some (.ref f_are_good_terms)))
    (l_are_good_terms : K.lookup f_are_good_terms = some ⟨oc_are_good_terms, od_are_good_terms, .func (PySem.W.fnOf "are_good_terms" "are_good_terms" (defArgs s_are_good_terms) (defBody s_are_good_terms) (defScope s_are_good_terms) .none kV_are_good_terms dc_are_good_terms pm_are_good_terms an_are_good_terms cd_are_good_terms ct_are_good_terms), sl_are_good_terms⟩)
    (i_are_good_terms : PySem.W.codeIn K cd_are_good_terms "are_good_terms" = true)
    (k_are_good_terms : PySem.W.keepIn K (.ref f_are_good_terms) = true)
    (a_is_telling : PySem.W.nsIn K mainGlobals "is_telling" = some (some (.ref f_is_telling)))
    (l_is_telling : K.lookup f_is_telling = some ⟨oc_is_telling, od_is_telling, .func (PySem.W.fnOf "is_telling" "is_telling" (defArgs s_is_telling) (defBody s_is_telling) (defScope s_is_telling) .none kV_is_telling dc_is_telling pm_is_telling an_is_telling cd_is_telling ct_is_telling), sl_is_telling⟩)
    (i_is_telling : PySem.W.codeIn K cd_is_telling "is_telling" = true)
    (k_is_telling : PySem.W.keepIn K (.ref f_is_telling) = true)
    (a_trimmed : PySem.W.nsIn K mainGlobals "trimmed" = some (some (.ref f_trimmed)))
    (l_trimmed : K.lookup f_trimmed = some ⟨oc_trimmed, od_trimmed, .func (PySem.W.fnOf "trimmed" "trimmed" (defArgs s_trimmed) (defBody s_trimmed) (defScope s_trimmed) .none kV_trimmed dc_trimmed pm_trimmed an_trimmed cd_trimmed ct_trimmed), sl_trimmed⟩)
    (i_trimmed : PySem.W.codeIn K cd_trimmed "trimmed" = true)
    (k_trimmed : PySem.W.keepIn K (.ref f_trimmed) = true)
    (a_law_caught : PySem.W.nsIn K mainGlobals "_law_caught" = some (some (.ref f_law_caught)))
    (l_law_caught : K.lookup f_law_caught = some ⟨oc_law_caught, od_law_caught, .func (PySem.W.fnOf "_law_caught" "_law_caught" (defArgs s_law_caught) (defBody s_law_caught) (defScope s_law_caught) .none kV_law_caught dc_law_caught pm_law_caught an_law_caught cd_law_caught ct_law_caught), sl_law_caught⟩)
    (i_law_caught : PySem.W.codeIn K cd_law_caught "_law_caught" = true)
    (k_law_caught : PySem.W.keepIn K (.ref f_law_caught) = true)
    (a_law_digits : PySem.W.nsIn K mainGlobals "_law_digits" = some (some (.ref f_law_digits)))
    (l_law_digits : K.lookup f_law_digits = some ⟨oc_law_digits, od_law_digits, .func (PySem.W.fnOf "_law_digits" "_law_digits" (defArgs s_law_digits) (defBody s_law_digits) (defScope s_law_digits) .none kV_law_digits dc_law_digits pm_law_digits an_law_digits cd_law_digits ct_law_digits), sl_law_digits⟩)
    (i_law_digits : PySem.W.codeIn K cd_law_digits "_law_digits" = true)
    (k_law_digits : PySem.W.keepIn K (.ref f_law_digits) = true)
    (a_law_agrees : PySem.W.nsIn K mainGlobals "_law_agrees" = some (some (.ref f_law_agrees)))
    (l_law_agrees : K.lookup f_law_agrees = some ⟨oc_law_agrees, od_law_agrees, .func (PySem.W.fnOf "_law_agrees" "_law_agrees" (defArgs s_law_agrees) (defBody s_law_agrees) (defScope s_law_agrees) .none kV_law_agrees dc_law_agrees pm_law_agrees an_law_agrees cd_law_agrees ct_law_agrees), sl_law_agrees⟩)
    (i_law_agrees : PySem.W.codeIn K cd_law_agrees "_law_agrees" = true)
    (k_law_agrees : PySem.W.keepIn K (.ref f_law_agrees) = true)
    (a_law_all_on : PySem.W.nsIn K mainGlobals "_law_all_on" = some (some (.ref f_law_all_on)))
    (l_law_all_on : K.lookup f_law_all_on = some ⟨oc_law_all_on, od_law_all_on, .func (PySem.W.fnOf "_law_all_on" "_law_all_on" (defArgs s_law_all_on) (defBody s_law_all_on) (defScope s_law_all_on) .none kV_law_all_on dc_law_all_on pm_law_all_on an_law_all_on cd_law_all_on ct_law_all_on), sl_law_all_on⟩)
    (i_law_all_on : PySem.W.codeIn K cd_law_all_on "_law_all_on" = true)
    (k_law_all_on : PySem.W.keepIn K (.ref f_law_all_on) = true)
    (a_law_due : PySem.W.nsIn K mainGlobals "_law_due" = some (some (.ref f_law_due)))
    (l_law_due : K.lookup f_law_due = some ⟨oc_law_due, od_law_due, .func (PySem.W.fnOf "_law_due" "_law_due" (defArgs s_law_due) (defBody s_law_due) (defScope s_law_due) .none kV_law_due dc_law_due pm_law_due an_law_due cd_law_due ct_law_due), sl_law_due⟩)
    (i_law_due : PySem.W.codeIn K cd_law_due "_law_due" = true)
    (k_law_due : PySem.W.keepIn K (.ref f_law_due) = true)
    (a_law_is_told : PySem.W.nsIn K mainGlobals "_law_is_told" = some (some (.ref f_law_is_told)))
    (l_law_is_told : K.lookup f_law_is_told = some ⟨oc_law_is_told, od_law_is_told, .func (PySem.W.fnOf "_law_is_told" "_law_is_told" (defArgs s_law_is_told) (defBody s_law_is_told) (defScope s_law_is_told) .none kV_law_is_told dc_law_is_told pm_law_is_told an_law_is_told cd_law_is_told ct_law_is_told), sl_law_is_told⟩)
    (i_law_is_told : PySem.W.codeIn K cd_law_is_told "_law_is_told" = true)
    (k_law_is_told : PySem.W.keepIn K (.ref f_law_is_told) = true)
    (a_law_terms : PySem.W.nsIn K mainGlobals "_law_terms" = some (some (.ref f_law_terms)))
    (l_law_terms : K.lookup f_law_terms = some ⟨oc_law_terms, od_law_terms, .func (PySem.W.fnOf "_law_terms" "_law_terms" (defArgs s_law_terms) (defBody s_law_terms) (defScope s_law_terms) .none kV_law_terms dc_law_terms pm_law_terms an_law_terms cd_law_terms ct_law_terms), sl_law_terms⟩)
    (i_law_terms : PySem.W.codeIn K cd_law_terms "_law_terms" = true)
    (k_law_terms : PySem.W.keepIn K (.ref f_law_terms) = true)
    (a_law_ends : PySem.W.nsIn K mainGlobals "_law_ends" = some (some (.ref f_law_ends)))
    (l_law_ends : K.lookup f_law_ends = some ⟨oc_law_ends, od_law_ends, .func (PySem.W.fnOf "_law_ends" "_law_ends" (defArgs s_law_ends) (defBody s_law_ends) (defScope s_law_ends) .none kV_law_ends dc_law_ends pm_law_ends an_law_ends cd_law_ends ct_law_ends), sl_law_ends⟩)
    (i_law_ends : PySem.W.codeIn K cd_law_ends "_law_ends" = true)
    (k_law_ends : PySem.W.keepIn K (.ref f_law_ends) = true)
    (a_law_spread : PySem.W.nsIn K mainGlobals "_law_spread" = some (some (.ref f_law_spread)))
    (l_law_spread : K.lookup f_law_spread = some ⟨oc_law_spread, od_law_spread, .func (PySem.W.fnOf "_law_spread" "_law_spread" (defArgs s_law_spread) (defBody s_law_spread) (defScope s_law_spread) .none kV_law_spread dc_law_spread pm_law_spread an_law_spread cd_law_spread ct_law_spread), sl_law_spread⟩)
    (i_law_spread : PySem.W.codeIn K cd_law_spread "_law_spread" = true)
    (k_law_spread : PySem.W.keepIn K (.ref f_law_spread) = true)
    (a_law_mixed : PySem.W.nsIn K mainGlobals "_law_mixed" = some (some (.ref f_law_mixed)))
    (l_law_mixed : K.lookup f_law_mixed = some ⟨oc_law_mixed, od_law_mixed, .func (PySem.W.fnOf "_law_mixed" "_law_mixed" (defArgs s_law_mixed) (defBody s_law_mixed) (defScope s_law_mixed) .none kV_law_mixed dc_law_mixed pm_law_mixed an_law_mixed cd_law_mixed ct_law_mixed), sl_law_mixed⟩)
    (i_law_mixed : PySem.W.codeIn K cd_law_mixed "_law_mixed" = true)
    (k_law_mixed : PySem.W.keepIn K (.ref f_law_mixed) = true)
    (a_law_list : PySem.W.nsIn K mainGlobals "_law_list" = some (some (.ref f_law_list)))
    (l_law_list : K.lookup f_law_list = some ⟨oc_law_list, od_law_list, .func (PySem.W.fnOf "_law_list" "_law_list" (defArgs s_law_list) (defBody s_law_list) (defScope s_law_list) .none kV_law_list dc_law_list pm_law_list an_law_list cd_law_list ct_law_list), sl_law_list⟩)
    (i_law_list : PySem.W.codeIn K cd_law_list "_law_list" = true)
    (k_law_list : PySem.W.keepIn K (.ref f_law_list) = true)
    (a_law_odd : PySem.W.nsIn K mainGlobals "_law_odd" = some (some (.ref f_law_odd)))
    (l_law_odd : K.lookup f_law_odd = some ⟨oc_law_odd, od_law_odd, .func (PySem.W.fnOf "_law_odd" "_law_odd" (defArgs s_law_odd) (defBody s_law_odd) (defScope s_law_odd) .none kV_law_odd dc_law_odd pm_law_odd an_law_odd cd_law_odd ct_law_odd), sl_law_odd⟩)
    (i_law_odd : PySem.W.codeIn K cd_law_odd "_law_odd" = true)
    (k_law_odd : PySem.W.keepIn K (.ref f_law_odd) = true)
    (a_law_rows : PySem.W.nsIn K mainGlobals "_law_rows" = some (some (.ref f_law_rows)))
    (l_law_rows : K.lookup f_law_rows = some ⟨oc_law_rows, od_law_rows, .func (PySem.W.fnOf "_law_rows" "_law_rows" (defArgs s_law_rows) (defBody s_law_rows) (defScope s_law_rows) .none kV_law_rows dc_law_rows pm_law_rows an_law_rows cd_law_rows ct_law_rows), sl_law_rows⟩)
    (i_law_rows : PySem.W.codeIn K cd_law_rows "_law_rows" = true)
    (k_law_rows : PySem.W.keepIn K (.ref f_law_rows) = true)
    (a_law : PySem.W.nsIn K mainGlobals "law" = some (some (.ref f_law)))
    (l_law : K.lookup f_law = some ⟨oc_law, od_law, .func (PySem.W.fnOf "law" "law" (defArgs s_law) (defBody s_law) (defScope s_law) .none kV_law dc_law pm_law an_law cd_law ct_law), sl_law⟩)
    (i_law : PySem.W.codeIn K cd_law "law" = true)
    (k_law : PySem.W.keepIn K (.ref f_law) = true)
    (z_ValueError : PySem.W.nsIn K mainGlobals "ValueError" = some none)
    (z_all : PySem.W.nsIn K mainGlobals "all" = some none)
    (z_any : PySem.W.nsIn K mainGlobals "any" = some none)
    (z_bool : PySem.W.nsIn K mainGlobals "bool" = some none)
    (z_enumerate : PySem.W.nsIn K mainGlobals "enumerate" = some none)
    (z_int : PySem.W.nsIn K mainGlobals "int" = some none)
    (z_isinstance : PySem.W.nsIn K mainGlobals "isinstance" = some none)
    (z_len : PySem.W.nsIn K mainGlobals "len" = some none)
    (z_list : PySem.W.nsIn K mainGlobals "list" = some none)
    (z_range : PySem.W.nsIn K mainGlobals "range" = some none)
    (z_set : PySem.W.nsIn K mainGlobals "set" = some none)
    (z_sorted : PySem.W.nsIn K mainGlobals "sorted" = some none)
    (z_str : PySem.W.nsIn K mainGlobals "str" = some none)
    (z_sum : PySem.W.nsIn K mainGlobals "sum" = some none)
    (z_tuple : PySem.W.nsIn K mainGlobals "tuple" = some none)
    (z_type : PySem.W.nsIn K mainGlobals "type" = some none)
    (z_zip : PySem.W.nsIn K mainGlobals "zip" = some none)
    (b_DARK : PySem.W.nsIn K mainGlobals "DARK" = some (some (.str v_DARK tk_DARK)))
    (e_DARK : v_DARK = tx [48])
    (b_EITHER : PySem.W.nsIn K mainGlobals "EITHER" = some (some (.str v_EITHER tk_EITHER)))
    (e_EITHER : v_EITHER = tx [45])
    (b_LIT : PySem.W.nsIn K mainGlobals "LIT" = some (some (.str v_LIT tk_LIT)))
    (e_LIT : v_LIT = tx [49])
    (b_MOST_LAMPS : PySem.W.nsIn K mainGlobals "MOST_LAMPS" = some (some (.int v_MOST_LAMPS tk_MOST_LAMPS)))
    (e_MOST_LAMPS : v_MOST_LAMPS = 5)
    (b_SIGNS : PySem.W.nsIn K mainGlobals "SIGNS" = some (some (.str v_SIGNS tk_SIGNS)))
    (e_SIGNS : v_SIGNS = tx [45, 48, 49])
    : LamX.LawAtS PySem.Challenge.rw_fewterms_k05_tellings w K CX0 9 63 "_law_script" mg fa h := by
  have e := hfa.symm.trans (PySem.W.mg_of X G a_law)
  have e2 : f_law = fa := by cases e; rfl
  subst e2
  obtain ⟨cl, hat, okcl, kxc, kxt, kxx⟩ := cl_mk K (fun s => (([("Saying", c_Saying), ("BadCount", c_BadCount), ("BadNote", c_BadNote), ("BadRows", c_BadRows), ("BadTelling", c_BadTelling), ("BadTerm", c_BadTerm), ("TermError", c_TermError)] : List (String × Addr)).lookup s).getD 0)
  have e_Saying : cl.at_ "Saying" = c_Saying := (hat "Saying").trans (by simp [List.lookup])
  have e_BadCount : cl.at_ "BadCount" = c_BadCount := (hat "BadCount").trans (by simp [List.lookup])
  have e_BadNote : cl.at_ "BadNote" = c_BadNote := (hat "BadNote").trans (by simp [List.lookup])
  have e_BadRows : cl.at_ "BadRows" = c_BadRows := (hat "BadRows").trans (by simp [List.lookup])
  have e_BadTelling : cl.at_ "BadTelling" = c_BadTelling := (hat "BadTelling").trans (by simp [List.lookup])
  have e_BadTerm : cl.at_ "BadTerm" = c_BadTerm := (hat "BadTerm").trans (by simp [List.lookup])
  have e_TermError : cl.at_ "TermError" = c_TermError := (hat "TermError").trans (by simp [List.lookup])
  clear hat
  subst e_Saying
  subst e_BadCount
  subst e_BadNote
  subst e_BadRows
  subst e_BadTelling
  subst e_BadTerm
  subst e_TermError
  have F_all_settings := fun_mk (st := s_all_settings) l_all_settings i_all_settings k_all_settings
  have D_all_settings : Def K mg "all_settings" s_all_settings P_all_settings f_all_settings _ := ⟨F_all_settings, PySem.W.mg_of X G a_all_settings, F_all_settings.binds (ps := P_all_settings) fun _ _ _ _ _ _ us hl => match us, hl with | [_], _ => rfl⟩
  have F_is_count := fun_mk (st := s_is_count) l_is_count i_is_count k_is_count
  have D_is_count : Def K mg "is_count" s_is_count P_is_count f_is_count _ := ⟨F_is_count, PySem.W.mg_of X G a_is_count, F_is_count.binds (ps := P_is_count) fun _ _ _ _ _ _ us hl => match us, hl with | [_], _ => rfl⟩
  have F_is_setting := fun_mk (st := s_is_setting) l_is_setting i_is_setting k_is_setting
  have D_is_setting : Def K mg "is_setting" s_is_setting P_is_setting f_is_setting _ := ⟨F_is_setting, PySem.W.mg_of X G a_is_setting, F_is_setting.binds (ps := P_is_setting) fun _ _ _ _ _ _ us hl => match us, hl with | [_, _], _ => rfl⟩
  have F_rising_settings := fun_mk (st := s_rising_settings) l_rising_settings i_rising_settings k_rising_settings
  have D_rising_settings : Def K mg "rising_settings" s_rising_settings P_rising_settings f_rising_settings _ := ⟨F_rising_settings, PySem.W.mg_of X G a_rising_settings, F_rising_settings.binds (ps := P_rising_settings) fun _ _ _ _ _ _ us hl => match us, hl with | [_, _], _ => rfl⟩
  have D_Saying___init : FunD K "__init__" "Saying.__init__" (defArgs s_Saying___init) (defBody s_Saying___init) (defScope s_Saying___init) [.non] [] f_Saying___init _ := ⟨⟨_, _, _, _, _, _, _, _, _, _, rfl, l_Saying___init, i_Saying___init, Or.inr ⟨by simp, _, _, [.none], _, rfl, d_Saying___init, rfl, .cons rfl .nil⟩, Or.inl rfl⟩, k_Saying___init⟩
  have F_law_word := fun_mk (st := s_law_word) l_law_word i_law_word k_law_word
  have D_law_word : Def K mg "_law_word" s_law_word P_law_word f_law_word _ := ⟨F_law_word, PySem.W.mg_of X G a_law_word, F_law_word.binds (ps := P_law_word) fun _ _ _ _ _ _ us hl => match us, hl with | [_], _ => rfl⟩
  have F_Saying_on := fun_mk (st := s_Saying_on) l_Saying_on i_Saying_on k_Saying_on
  have B_Saying_on : Binds K _ P_Saying_on [] := F_Saying_on.binds (ps := P_Saying_on) fun _ _ _ _ _ _ us hl => match us, hl with | [_], _ => rfl
  have M_Saying_on : Meth K (cl.at_ "Saying") "on" f_Saying_on := ⟨a_Saying_on, j_Saying_on, k_Saying_on⟩
  have F_is_lit := fun_mk (st := s_is_lit) l_is_lit i_is_lit k_is_lit
  have D_is_lit : Def K mg "is_lit" s_is_lit P_is_lit f_is_lit _ := ⟨F_is_lit, PySem.W.mg_of X G a_is_lit, F_is_lit.binds (ps := P_is_lit) fun _ _ _ _ _ _ us hl => match us, hl with | [_, _], _ => rfl⟩
  have F_sign_at := fun_mk (st := s_sign_at) l_sign_at i_sign_at k_sign_at
  have D_sign_at : Def K mg "sign_at" s_sign_at P_sign_at f_sign_at _ := ⟨F_sign_at, PySem.W.mg_of X G a_sign_at, F_sign_at.binds (ps := P_sign_at) fun _ _ _ _ _ _ us hl => match us, hl with | [_, _], _ => rfl⟩
  have F_has := fun_mk (st := s_has) l_has i_has k_has
  have D_has : Def K mg "has" s_has P_has f_has _ := ⟨F_has, PySem.W.mg_of X G a_has, F_has.binds (ps := P_has) fun _ _ _ _ _ _ us hl => match us, hl with | [_, _], _ => rfl⟩
  have F_is_term := fun_mk (st := s_is_term) l_is_term i_is_term k_is_term
  have D_is_term : Def K mg "is_term" s_is_term P_is_term f_is_term _ := ⟨F_is_term, PySem.W.mg_of X G a_is_term, F_is_term.binds (ps := P_is_term) fun _ _ _ _ _ _ us hl => match us, hl with | [_, _], _ => rfl⟩
  have DC_is_term : DefC K mg "is_term" s_is_term P_is_term f_is_term _ c_is_term := ⟨D_is_term, ⟨_, _, _, _, _, _, _, _, rfl, l_is_term, i_is_term⟩⟩
  have O_is_term := own "is_term" f_is_term r_is_term (PySem.W.mg_of X G a_is_term) c_is_term p_is_term _ _ _ _ _ _ l_is_term rfl rfl t_is_term u_is_term
  have F_Saying_is_good := fun_mk (st := s_Saying_is_good) l_Saying_is_good i_Saying_is_good k_Saying_is_good
  have B_Saying_is_good : Binds K _ P_Saying_is_good [] := F_Saying_is_good.binds (ps := P_Saying_is_good) fun _ _ _ _ _ _ us hl => match us, hl with | [_, _], _ => rfl
  have M_Saying_is_good : Meth K (cl.at_ "Saying") "is_good" f_Saying_is_good := ⟨a_Saying_is_good, j_Saying_is_good, k_Saying_is_good⟩
  have F_Saying_many := fun_mk (st := s_Saying_many) l_Saying_many i_Saying_many k_Saying_many
  have B_Saying_many : Binds K _ P_Saying_many [] := F_Saying_many.binds (ps := P_Saying_many) fun _ _ _ _ _ _ us hl => match us, hl with | [_], _ => rfl
  have M_Saying_many : Meth K (cl.at_ "Saying") "many" f_Saying_many := ⟨a_Saying_many, j_Saying_many, k_Saying_many⟩
  have F_are_good_terms := fun_mk (st := s_are_good_terms) l_are_good_terms i_are_good_terms k_are_good_terms
  have D_are_good_terms : Def K mg "are_good_terms" s_are_good_terms P_are_good_terms f_are_good_terms _ := ⟨F_are_good_terms, PySem.W.mg_of X G a_are_good_terms, F_are_good_terms.binds (ps := P_are_good_terms) fun _ _ _ _ _ _ us hl => match us, hl with | [_, _], _ => rfl⟩
  have F_is_telling := fun_mk (st := s_is_telling) l_is_telling i_is_telling k_is_telling
  have D_is_telling : Def K mg "is_telling" s_is_telling P_is_telling f_is_telling _ := ⟨F_is_telling, PySem.W.mg_of X G a_is_telling, F_is_telling.binds (ps := P_is_telling) fun _ _ _ _ _ _ us hl => match us, hl with | [_, _], _ => rfl⟩
  have F_trimmed := fun_mk (st := s_trimmed) l_trimmed i_trimmed k_trimmed
  have D_trimmed : Def K mg "trimmed" s_trimmed P_trimmed f_trimmed _ := ⟨F_trimmed, PySem.W.mg_of X G a_trimmed, F_trimmed.binds (ps := P_trimmed) fun _ _ _ _ _ _ us hl => match us, hl with | [_, _], _ => rfl⟩
  have F_law_caught := fun_mk (st := s_law_caught) l_law_caught i_law_caught k_law_caught
  have D_law_caught : Def K mg "_law_caught" s_law_caught P_law_caught f_law_caught _ := ⟨F_law_caught, PySem.W.mg_of X G a_law_caught, F_law_caught.binds (ps := P_law_caught) fun _ _ _ _ _ _ us hl => match us, hl with | [_, _], _ => rfl⟩
  have F_law_digits := fun_mk (st := s_law_digits) l_law_digits i_law_digits k_law_digits
  have D_law_digits : Def K mg "_law_digits" s_law_digits P_law_digits f_law_digits _ := ⟨F_law_digits, PySem.W.mg_of X G a_law_digits, F_law_digits.binds (ps := P_law_digits) fun _ _ _ _ _ _ us hl => match us, hl with | [_, _], _ => rfl⟩
  have F_law_agrees := fun_mk (st := s_law_agrees) l_law_agrees i_law_agrees k_law_agrees
  have D_law_agrees : Def K mg "_law_agrees" s_law_agrees P_law_agrees f_law_agrees _ := ⟨F_law_agrees, PySem.W.mg_of X G a_law_agrees, F_law_agrees.binds (ps := P_law_agrees) fun _ _ _ _ _ _ us hl => match us, hl with | [_, _], _ => rfl⟩
  have F_law_all_on := fun_mk (st := s_law_all_on) l_law_all_on i_law_all_on k_law_all_on
  have D_law_all_on : Def K mg "_law_all_on" s_law_all_on P_law_all_on f_law_all_on _ := ⟨F_law_all_on, PySem.W.mg_of X G a_law_all_on, F_law_all_on.binds (ps := P_law_all_on) fun _ _ _ _ _ _ us hl => match us, hl with | [_, _], _ => rfl⟩
  have F_law_due := fun_mk (st := s_law_due) l_law_due i_law_due k_law_due
  have D_law_due : Def K mg "_law_due" s_law_due P_law_due f_law_due _ := ⟨F_law_due, PySem.W.mg_of X G a_law_due, F_law_due.binds (ps := P_law_due) fun _ _ _ _ _ _ us hl => match us, hl with | [_, _], _ => rfl⟩
  have F_law_is_told := fun_mk (st := s_law_is_told) l_law_is_told i_law_is_told k_law_is_told
  have D_law_is_told : Def K mg "_law_is_told" s_law_is_told P_law_is_told f_law_is_told _ := ⟨F_law_is_told, PySem.W.mg_of X G a_law_is_told, F_law_is_told.binds (ps := P_law_is_told) fun _ _ _ _ _ _ us hl => match us, hl with | [_, _, _, _], _ => rfl⟩
  have F_law_terms := fun_mk (st := s_law_terms) l_law_terms i_law_terms k_law_terms
  have D_law_terms : Def K mg "_law_terms" s_law_terms P_law_terms f_law_terms _ := ⟨F_law_terms, PySem.W.mg_of X G a_law_terms, F_law_terms.binds (ps := P_law_terms) fun _ _ _ _ _ _ us hl => match us, hl with | [_], _ => rfl⟩
  have F_law_ends := fun_mk (st := s_law_ends) l_law_ends i_law_ends k_law_ends
  have D_law_ends : Def K mg "_law_ends" s_law_ends P_law_ends f_law_ends _ := ⟨F_law_ends, PySem.W.mg_of X G a_law_ends, F_law_ends.binds (ps := P_law_ends) fun _ _ _ _ _ _ us hl => match us, hl with | [_, _, _], _ => rfl⟩
  have F_law_spread := fun_mk (st := s_law_spread) l_law_spread i_law_spread k_law_spread
  have D_law_spread : Def K mg "_law_spread" s_law_spread P_law_spread f_law_spread _ := ⟨F_law_spread, PySem.W.mg_of X G a_law_spread, F_law_spread.binds (ps := P_law_spread) fun _ _ _ _ _ _ us hl => match us, hl with | [_, _], _ => rfl⟩
  have F_law_mixed := fun_mk (st := s_law_mixed) l_law_mixed i_law_mixed k_law_mixed
  have D_law_mixed : Def K mg "_law_mixed" s_law_mixed P_law_mixed f_law_mixed _ := ⟨F_law_mixed, PySem.W.mg_of X G a_law_mixed, F_law_mixed.binds (ps := P_law_mixed) fun _ _ _ _ _ _ us hl => match us, hl with | [_, _], _ => rfl⟩
  have F_law_list := fun_mk (st := s_law_list) l_law_list i_law_list k_law_list
  have D_law_list : Def K mg "_law_list" s_law_list P_law_list f_law_list _ := ⟨F_law_list, PySem.W.mg_of X G a_law_list, F_law_list.binds (ps := P_law_list) fun _ _ _ _ _ _ us hl => match us, hl with | [_, _, _, _], _ => rfl⟩
  have F_law_odd := fun_mk (st := s_law_odd) l_law_odd i_law_odd k_law_odd
  have D_law_odd : Def K mg "_law_odd" s_law_odd P_law_odd f_law_odd _ := ⟨F_law_odd, PySem.W.mg_of X G a_law_odd, F_law_odd.binds (ps := P_law_odd) fun _ _ _ _ _ _ us hl => match us, hl with | [_, _, _], _ => rfl⟩
  have F_law_rows := fun_mk (st := s_law_rows) l_law_rows i_law_rows k_law_rows
  have D_law_rows : Def K mg "_law_rows" s_law_rows P_law_rows f_law_rows _ := ⟨F_law_rows, PySem.W.mg_of X G a_law_rows, F_law_rows.binds (ps := P_law_rows) fun _ _ _ _ _ _ us hl => match us, hl with | [_, _, _], _ => rfl⟩
  have F_law := fun_mk (st := s_law) l_law i_law k_law
  have D_law : Def K mg "law" s_law P_law f_law _ := ⟨F_law, PySem.W.mg_of X G a_law, F_law.binds (ps := P_law) fun _ _ _ _ _ _ us hl => match us, hl with | [_], _ => rfl⟩
  have C_Saying : Cls K (cl.at_ "Saying") := ⟨cg_Saying, cd_Saying, co_Saying, cs_Saying⟩
  have ka_Saying := PySem.W.mg_of X G n_Saying
  have MK_Saying : Mk K (cl.at_ "Saying") f_Saying___init := ⟨cm_Saying, a_Saying___init, j_Saying___init, ck_Saying⟩
  obtain ⟨vd3_Saying, V3_Saying, B3_Saying⟩ := D_Saying___init.binds1 (ps := P_Saying___init) 4 1 (by simp) rfl fun _ _ _ _ _ _ _ us its h1 h2 => match us, its, h1, h2 with | [_, _, _, _], [_], _, _ => ⟨_, rfl, rfl⟩
  have xg_BadCount : mg "BadCount" = some (.ref (cl.at_ "BadCount")) := PySem.W.mg_of X G n_BadCount
  have xg_BadNote : mg "BadNote" = some (.ref (cl.at_ "BadNote")) := PySem.W.mg_of X G n_BadNote
  have xg_BadRows : mg "BadRows" = some (.ref (cl.at_ "BadRows")) := PySem.W.mg_of X G n_BadRows
  have xg_BadTelling : mg "BadTelling" = some (.ref (cl.at_ "BadTelling")) := PySem.W.mg_of X G n_BadTelling
  have xg_BadTerm : mg "BadTerm" = some (.ref (cl.at_ "BadTerm")) := PySem.W.mg_of X G n_BadTerm
  have xg_TermError : mg "TermError" = some (.ref (cl.at_ "TermError")) := PySem.W.mg_of X G n_TermError
  have x_BadCount : Exq K mg "BadCount" (cl.at_ "BadCount") := ⟨xe_BadCount, xg_BadCount, xk_BadCount, xs_BadCount, xt_BadCount⟩
  have x_BadRows : Exq K mg "BadRows" (cl.at_ "BadRows") := ⟨xe_BadRows, xg_BadRows, xk_BadRows, xs_BadRows, xt_BadRows⟩
  have x_BadTelling : Exq K mg "BadTelling" (cl.at_ "BadTelling") := ⟨xe_BadTelling, xg_BadTelling, xk_BadTelling, xs_BadTelling, xt_BadTelling⟩
  have x_BadTerm : Exq K mg "BadTerm" (cl.at_ "BadTerm") := ⟨xe_BadTerm, xg_BadTerm, xk_BadTerm, xs_BadTerm, xt_BadTerm⟩
  have E_BadTelling : ExcC K (cl.at_ "BadTelling") := ⟨xf0_BadTelling, xf1_BadTelling, xs_BadTelling, xd_BadTelling, xf2_BadTelling, xo1, xo2, xm_BadTelling⟩
  have Kn_BadTelling : Kn cl "BadTelling" false false false true false := ⟨kxt _ _ _ E_BadTelling (kit_v xv_BadTelling), kxc _ _ _ E_BadTelling (kit_f xi_BadCount xt_BadCount xp_BadTelling_BadCount xz_BadCount), kxc _ _ _ E_BadTelling (kit_f xi_BadRows xt_BadRows xp_BadTelling_BadRows xz_BadRows), kxc _ _ _ E_BadTelling (kit_f xi_BadTerm xt_BadTerm xp_BadTelling_BadTerm xz_BadTerm), kxc _ _ _ E_BadTelling (kit_t xi_BadTelling xt_BadTelling xp_BadTelling_BadTelling), kxc _ _ _ E_BadTelling (kit_f xi_BadNote xt_BadNote xp_BadTelling_BadNote xz_BadNote), kxx _ _ _ (exm_t xs_TermError xi_TermError xt_TermError xx_BadTelling)⟩
  have KNS := Kn_BadTelling
  have c_DARK : ∃ t, mg "DARK" = some (.str (tx [48]) t) := ⟨tk_DARK, by rw [← e_DARK]; exact PySem.W.mg_of X G b_DARK⟩
  have c_EITHER : ∃ t, mg "EITHER" = some (.str (tx [45]) t) := ⟨tk_EITHER, by rw [← e_EITHER]; exact PySem.W.mg_of X G b_EITHER⟩
  have c_LIT : ∃ t, mg "LIT" = some (.str (tx [49]) t) := ⟨tk_LIT, by rw [← e_LIT]; exact PySem.W.mg_of X G b_LIT⟩
  have c_MOST_LAMPS : ∃ t, mg "MOST_LAMPS" = some (.int 5 t) := ⟨tk_MOST_LAMPS, by rw [← e_MOST_LAMPS]; exact PySem.W.mg_of X G b_MOST_LAMPS⟩
  have c_SIGNS : ∃ t, mg "SIGNS" = some (.str (tx [45, 48, 49]) t) := ⟨tk_SIGNS, by rw [← e_SIGNS]; exact PySem.W.mg_of X G b_SIGNS⟩
  have y_ValueError := PySem.W.mg_none_of X G z_ValueError
  have y_all := PySem.W.mg_none_of X G z_all
  have y_any := PySem.W.mg_none_of X G z_any
  have y_bool := PySem.W.mg_none_of X G z_bool
  have y_enumerate := PySem.W.mg_none_of X G z_enumerate
  have y_int := PySem.W.mg_none_of X G z_int
  have y_isinstance := PySem.W.mg_none_of X G z_isinstance
  have y_len := PySem.W.mg_none_of X G z_len
  have y_list := PySem.W.mg_none_of X G z_list
  have y_range := PySem.W.mg_none_of X G z_range
  have y_set := PySem.W.mg_none_of X G z_set
  have y_sorted := PySem.W.mg_none_of X G z_sorted
  have y_str := PySem.W.mg_none_of X G z_str
  have y_sum := PySem.W.mg_none_of X G z_sum
  have y_tuple := PySem.W.mg_none_of X G z_tuple
  have y_type := PySem.W.mg_none_of X G z_type
  have y_zip := PySem.W.mg_none_of X G z_zip
  refine ⟨PySem.W.fnOf "law" "law" (defArgs s_law) (defBody s_law) (defScope s_law) .none kV_law dc_law pm_law an_law cd_law ct_law, [(c_is_term, p_is_term)], spD K [p_is_term] 1 (g_law cl), fun p hp => by
      simp only [List.mem_cons, List.not_mem_nil, or_false] at hp
      subst hp
      exact O_is_term.1, fun p hp => by
      simp only [List.mem_cons, List.not_mem_nil, or_false] at hp
      subst hp
      exact q_is_term, fun p hp => by
      simp only [List.mem_cons, List.not_mem_nil, or_false] at hp
      subst hp
      exact O_is_term.2, fun s v => .of_eq rfl, fun H a ns hl _ hT hS => law_sp (law_eq KNS ns (by omega)) hT hS, fun base kb gb tb => ?_⟩
  have G_all_settings := ok_all_settings (P := PySem.Challenge.rw_fewterms_k05_tellings.prog) (w := w) (mg := mg) (base := base) (T := [p_is_term]) (cl := cl) D_all_settings okcl y_list y_range
  have G_is_count := ok_is_count (P := PySem.Challenge.rw_fewterms_k05_tellings.prog) (w := w) (mg := mg) (base := base) (T := [p_is_term]) (cl := cl) D_is_count okcl y_int y_type c_MOST_LAMPS
  have G_is_setting := ok_is_setting (P := PySem.Challenge.rw_fewterms_k05_tellings.prog) (w := w) (mg := mg) (base := base) (T := [p_is_term]) (cl := cl) D_is_setting okcl y_int y_type
  have G_rising_settings := ok_rising_settings (P := PySem.Challenge.rw_fewterms_k05_tellings.prog) (w := w) (mg := mg) (base := base) (T := [p_is_term]) (cl := cl) D_rising_settings D_is_setting okcl G_is_setting x_BadRows y_len y_list y_set y_sorted y_type
  have G_Saying___init := ok_Saying___init (P := PySem.Challenge.rw_fewterms_k05_tellings.prog) (w := w) (mg := mg) (base := base) (T := [p_is_term]) (cl := cl) D_Saying___init D_all_settings D_is_count D_rising_settings okcl G_all_settings G_is_count G_rising_settings C_Saying cf_Saying_free cf_Saying_many cf_Saying_off cf_Saying_on x_BadCount x_BadRows y_len y_set
  have G_law_word := ok_law_word (P := PySem.Challenge.rw_fewterms_k05_tellings.prog) (w := w) (mg := mg) (base := base) (T := [p_is_term]) (cl := cl) D_law_word okcl xg_BadCount xg_BadNote xg_BadRows xg_BadTelling xg_BadTerm y_ValueError y_int y_isinstance
  have G_Saying_on := ok_Saying_on (P := PySem.Challenge.rw_fewterms_k05_tellings.prog) (w := w) (mg := mg) (base := base) (T := [p_is_term]) (cl := cl) F_Saying_on okcl C_Saying cf_Saying_on y_list
  have G_is_lit := ok_is_lit (P := PySem.Challenge.rw_fewterms_k05_tellings.prog) (w := w) (mg := mg) (base := base) (T := [p_is_term]) (cl := cl) D_is_lit okcl
  have G_sign_at := ok_sign_at (P := PySem.Challenge.rw_fewterms_k05_tellings.prog) (w := w) (mg := mg) (base := base) (T := [p_is_term]) (cl := cl) D_sign_at D_is_lit okcl G_is_lit c_DARK c_LIT
  have G_has := ok_has (P := PySem.Challenge.rw_fewterms_k05_tellings.prog) (w := w) (mg := mg) (base := base) (T := [p_is_term]) (cl := cl) D_has D_sign_at okcl G_sign_at y_enumerate c_EITHER
  have G_is_term := ok_is_term (P := PySem.Challenge.rw_fewterms_k05_tellings.prog) (w := w) (mg := mg) (base := base) (T := [p_is_term]) (cl := cl) DC_is_term (let t := tb (c_is_term, p_is_term) (by simp); ⟨t.code, t.bm, t.gP⟩) (by simp) gb okcl y_all y_len y_str y_type c_SIGNS
  have G_Saying_is_good := ok_Saying_is_good (P := PySem.Challenge.rw_fewterms_k05_tellings.prog) (w := w) (mg := mg) (base := base) (T := [p_is_term]) (cl := cl) F_Saying_is_good D_has D_is_term okcl G_has G_is_term C_Saying cf_Saying_many cf_Saying_off x_BadTerm
  have G_Saying_many := ok_Saying_many (P := PySem.Challenge.rw_fewterms_k05_tellings.prog) (w := w) (mg := mg) (base := base) (T := [p_is_term]) (cl := cl) F_Saying_many okcl C_Saying cf_Saying_many
  have G_are_good_terms := ok_are_good_terms (P := PySem.Challenge.rw_fewterms_k05_tellings.prog) (w := w) (mg := mg) (base := base) (T := [p_is_term]) (cl := cl) D_are_good_terms D_is_term okcl G_Saying_is_good G_Saying_many G_is_term M_Saying_is_good B_Saying_is_good M_Saying_many B_Saying_many C_Saying
  have G_is_telling := ok_is_telling (P := PySem.Challenge.rw_fewterms_k05_tellings.prog) (w := w) (mg := mg) (base := base) (T := [p_is_term]) (cl := cl) D_is_telling D_are_good_terms D_has okcl G_Saying_on G_are_good_terms G_has M_Saying_on B_Saying_on C_Saying y_list y_type
  have G_trimmed := ok_trimmed (P := PySem.Challenge.rw_fewterms_k05_tellings.prog) (w := w) (mg := mg) (base := base) (T := [p_is_term]) (cl := cl) D_trimmed D_has D_is_telling okcl G_Saying_on G_has G_is_telling M_Saying_on B_Saying_on C_Saying x_BadTelling y_all y_zip
  have G_law_caught := ok_law_caught (P := PySem.Challenge.rw_fewterms_k05_tellings.prog) (w := w) (mg := mg) (base := base) (T := [p_is_term]) (cl := cl) D_law_caught D_law_word D_trimmed okcl G_law_word G_trimmed xg_TermError
  have G_law_digits := ok_law_digits (P := PySem.Challenge.rw_fewterms_k05_tellings.prog) (w := w) (mg := mg) (base := base) (T := [p_is_term]) (cl := cl) D_law_digits okcl y_range
  have G_law_agrees := ok_law_agrees (P := PySem.Challenge.rw_fewterms_k05_tellings.prog) (w := w) (mg := mg) (base := base) (T := [p_is_term]) (cl := cl) D_law_agrees okcl y_enumerate y_int
  have G_law_all_on := ok_law_all_on (P := PySem.Challenge.rw_fewterms_k05_tellings.prog) (w := w) (mg := mg) (base := base) (T := [p_is_term]) (cl := cl) D_law_all_on D_law_agrees okcl G_law_agrees y_any
  have G_law_due := ok_law_due (P := PySem.Challenge.rw_fewterms_k05_tellings.prog) (w := w) (mg := mg) (base := base) (T := [p_is_term]) (cl := cl) D_law_due D_law_all_on okcl G_law_all_on y_len y_list y_range
  have G_law_is_told := ok_law_is_told (P := PySem.Challenge.rw_fewterms_k05_tellings.prog) (w := w) (mg := mg) (base := base) (T := [p_is_term]) (cl := cl) D_law_is_told D_law_agrees D_law_all_on okcl G_law_agrees G_law_all_on y_any
  have G_law_terms := ok_law_terms (P := PySem.Challenge.rw_fewterms_k05_tellings.prog) (w := w) (mg := mg) (base := base) (T := [p_is_term]) (cl := cl) D_law_terms okcl y_range
  have G_law_ends := ok_law_ends (P := PySem.Challenge.rw_fewterms_k05_tellings.prog) (w := w) (mg := mg) (base := base) (T := [p_is_term]) (cl := cl) D_law_ends D_law_agrees D_law_terms okcl G_law_agrees G_law_terms y_any y_range y_sorted
  have G_law_spread := ok_law_spread (P := PySem.Challenge.rw_fewterms_k05_tellings.prog) (w := w) (mg := mg) (base := base) (T := [p_is_term]) (cl := cl) D_law_spread okcl
  have G_law_mixed := ok_law_mixed (P := PySem.Challenge.rw_fewterms_k05_tellings.prog) (w := w) (mg := mg) (base := base) (T := [p_is_term]) (cl := cl) D_law_mixed D_law_spread okcl G_law_spread y_len y_list y_range
  have G_law_list := ok_law_list (P := PySem.Challenge.rw_fewterms_k05_tellings.prog) (w := w) (mg := mg) (base := base) (T := [p_is_term]) (cl := cl) D_law_list D_law_ends D_law_mixed D_law_spread okcl G_law_ends G_law_mixed G_law_spread y_len y_range
  have G_law_odd := ok_law_odd (P := PySem.Challenge.rw_fewterms_k05_tellings.prog) (w := w) (mg := mg) (base := base) (T := [p_is_term]) (cl := cl) D_law_odd okcl y_len y_tuple
  have G_law_rows := ok_law_rows (P := PySem.Challenge.rw_fewterms_k05_tellings.prog) (w := w) (mg := mg) (base := base) (T := [p_is_term]) (cl := cl) D_law_rows D_law_spread okcl G_law_spread y_int y_range y_sum
  have G_law := ok_law (P := PySem.Challenge.rw_fewterms_k05_tellings.prog) (w := w) (mg := mg) (base := base) (T := [p_is_term]) (cl := cl) D_law D_law_caught D_law_digits D_law_due D_law_is_told D_law_list D_law_odd D_law_rows D_law_spread D_is_telling okcl G_Saying___init G_law_caught G_law_digits G_law_due G_law_is_told G_law_list G_law_odd G_law_rows G_law_spread G_is_telling C_Saying MK_Saying ka_Saying hmk B3_Saying V3_Saying y_bool y_enumerate y_isinstance y_list y_range
  exact G_law
end K05
open PySem PySem.W PyProof.Rows
set_option maxHeartbeats 0 in
theorem PySem.Challenge.cw_fewterms_k05_tellings_holds : PySem.Challenge.rw_fewterms_k05_tellings.Holds := by
  w_on; o_law; k_head; (case hw => w_witness2)
  k_fill
  refine Fw.walk_all (l := PySem.Challenge.rw_fewterms_k05_tellings) (n := 63) (k := 9) (x := "_law_script") (CX := fun _ => L2.CX0) rfl (by decide) rfl ⟨rfl, by decide, by decide⟩ (fun w h Y => PySem.W.kIn_of Y) ?F (fun _ _ _ _ _ h => h)
  case F =>
    intro w mg fa h Y KX G hmg own
    refine' K05.all_mk KX G hmg own ?n_Saying ?n_BadCount ?n_BadNote ?n_BadRows ?n_BadTelling ?n_BadTerm ?n_TermError ?cm_Saying ?ck_Saying ?cg_Saying ?cd_Saying ?co_Saying ?cs_Saying ?cf_Saying_free ?cf_Saying_many ?cf_Saying_off ?cf_Saying_on ?xk_BadCount ?xe_BadCount ?xk_BadRows ?xe_BadRows ?xk_BadTelling ?xe_BadTelling ?xk_BadTerm ?xe_BadTerm ?xs_BadCount ?xt_BadCount ?xs_BadNote ?xt_BadNote ?xs_BadRows ?xt_BadRows ?xs_BadTelling ?xt_BadTelling ?xs_BadTerm ?xt_BadTerm ?xs_TermError ?xt_TermError ?xi_BadCount ?xz_BadCount ?xi_BadNote ?xz_BadNote ?xi_BadRows ?xz_BadRows ?xi_BadTelling ?xz_BadTelling ?xi_BadTerm ?xz_BadTerm ?xi_TermError ?xz_TermError ?xf0_BadTelling ?xf1_BadTelling ?xf2_BadTelling ?xd_BadTelling ?xm_BadTelling ?xv_BadTelling ?xp_BadTelling_BadCount ?xp_BadTelling_BadRows ?xp_BadTelling_BadTerm ?xp_BadTelling_BadTelling ?xp_BadTelling_BadNote ?xx_BadTelling ?xo1 ?xo2 ?a_all_settings ?l_all_settings ?i_all_settings ?k_all_settings ?a_is_count ?l_is_count ?i_is_count ?k_is_count ?a_is_setting ?l_is_setting ?i_is_setting ?k_is_setting ?a_rising_settings ?l_rising_settings ?i_rising_settings ?k_rising_settings ?a_Saying___init ?j_Saying___init ?l_Saying___init ?d_Saying___init ?i_Saying___init ?k_Saying___init ?a_law_word ?l_law_word ?i_law_word ?k_law_word ?a_Saying_on ?j_Saying_on ?l_Saying_on ?i_Saying_on ?k_Saying_on ?a_is_lit ?l_is_lit ?i_is_lit ?k_is_lit ?a_sign_at ?l_sign_at ?i_sign_at ?k_sign_at ?a_has ?l_has ?i_has ?k_has ?a_is_term ?l_is_term ?i_is_term ?k_is_term ?t_is_term ?u_is_term ?q_is_term ?r_is_term ?a_Saying_is_good ?j_Saying_is_good ?l_Saying_is_good ?i_Saying_is_good ?k_Saying_is_good ?a_Saying_many ?j_Saying_many ?l_Saying_many ?i_Saying_many ?k_Saying_many ?a_are_good_terms ?l_are_good_terms ?i_are_good_terms ?k_are_good_terms ?a_is_telling ?l_is_telling ?i_is_telling ?k_is_telling ?a_trimmed ?l_trimmed ?i_trimmed ?k_trimmed ?a_law_caught ?l_law_caught ?i_law_caught ?k_law_caught ?a_law_digits ?l_law_digits ?i_law_digits ?k_law_digits ?a_law_agrees ?l_law_agrees ?i_law_agrees ?k_law_agrees ?a_law_all_on ?l_law_all_on ?i_law_all_on ?k_law_all_on ?a_law_due ?l_law_due ?i_law_due ?k_law_due ?a_law_is_told ?l_law_is_told ?i_law_is_told ?k_law_is_told ?a_law_terms ?l_law_terms ?i_law_terms ?k_law_terms ?a_law_ends ?l_law_ends ?i_law_ends ?k_law_ends ?a_law_spread ?l_law_spread ?i_law_spread ?k_law_spread ?a_law_mixed ?l_law_mixed ?i_law_mixed ?k_law_mixed ?a_law_list ?l_law_list ?i_law_list ?k_law_list ?a_law_odd ?l_law_odd ?i_law_odd ?k_law_odd ?a_law_rows ?l_law_rows ?i_law_rows ?k_law_rows ?a_law ?l_law ?i_law ?k_law ?z_ValueError ?z_all ?z_any ?z_bool ?z_enumerate ?z_int ?z_isinstance ?z_len ?z_list ?z_range ?z_set ?z_sorted ?z_str ?z_sum ?z_tuple ?z_type ?z_zip ?b_DARK ?e_DARK ?b_EITHER ?e_EITHER ?b_LIT ?e_LIT ?b_MOST_LAMPS ?e_MOST_LAMPS ?b_SIGNS ?e_SIGNS
    (case n_Saying => k_is)
    (case n_BadCount => k_is)
    (case n_BadNote => k_is)
    (case n_BadRows => k_is)
    (case n_BadTelling => k_is)
    (case n_BadTerm => k_is)
    (case n_TermError => k_is)
    (case cm_Saying => k_is)
    (case ck_Saying => k_is)
    (case cg_Saying => k_is)
    (case cd_Saying => k_is)
    (case co_Saying => k_is)
    (case cs_Saying => k_is)
    (case cf_Saying_free => k_is)
    (case cf_Saying_many => k_is)
    (case cf_Saying_off => k_is)
    (case cf_Saying_on => k_is)
    (case xk_BadCount => k_is)
    (case xe_BadCount => k_exc)
    (case xk_BadRows => k_is)
    (case xe_BadRows => k_exc)
    (case xk_BadTelling => k_is)
    (case xe_BadTelling => k_exc)
    (case xk_BadTerm => k_is)
    (case xe_BadTerm => k_exc)
    (case xs_BadCount => k_is)
    (case xt_BadCount => k_is)
    (case xs_BadNote => k_is)
    (case xt_BadNote => k_is)
    (case xs_BadRows => k_is)
    (case xt_BadRows => k_is)
    (case xs_BadTelling => k_is)
    (case xt_BadTelling => k_is)
    (case xs_BadTerm => k_is)
    (case xt_BadTerm => k_is)
    (case xs_TermError => k_is)
    (case xt_TermError => k_is)
    (case xi_BadCount => k_is)
    (case xz_BadCount => first | rfl | k_is)
    (case xi_BadNote => k_is)
    (case xz_BadNote => first | rfl | k_is)
    (case xi_BadRows => k_is)
    (case xz_BadRows => first | rfl | k_is)
    (case xi_BadTelling => k_is)
    (case xz_BadTelling => first | rfl | k_is)
    (case xi_BadTerm => k_is)
    (case xz_BadTerm => first | rfl | k_is)
    (case xi_TermError => k_is)
    (case xz_TermError => first | rfl | k_is)
    (case xf0_BadTelling => k_is)
    (case xf1_BadTelling => k_is)
    (case xf2_BadTelling => k_is)
    (case xd_BadTelling => k_is)
    (case xm_BadTelling => k_is)
    (case xv_BadTelling => k_is)
    (case xp_BadTelling_BadCount => first | rfl | k_is)
    (case xp_BadTelling_BadRows => first | rfl | k_is)
    (case xp_BadTelling_BadTerm => first | rfl | k_is)
    (case xp_BadTelling_BadTelling => first | rfl | k_is)
    (case xp_BadTelling_BadNote => first | rfl | k_is)
    (case xx_BadTelling => first | rfl | k_is)
    (case xo1 => k_is)
    (case xo2 => k_is)
    (case a_all_settings => k_is)
    (case l_all_settings => k_is)
    (case i_all_settings => k_is)
    (case k_all_settings => k_is)
    (case a_is_count => k_is)
    (case l_is_count => k_is)
    (case i_is_count => k_is)
    (case k_is_count => k_is)
    (case a_is_setting => k_is)
    (case l_is_setting => k_is)
    (case i_is_setting => k_is)
    (case k_is_setting => k_is)
    (case a_rising_settings => k_is)
    (case l_rising_settings => k_is)
    (case i_rising_settings => k_is)
    (case k_rising_settings => k_is)
    (case a_Saying___init => k_is)
    (case j_Saying___init => k_is)
    (case l_Saying___init => k_is)
    (case d_Saying___init => k_is)
    (case i_Saying___init => k_is)
    (case k_Saying___init => k_is)
    (case a_law_word => k_is)
    (case l_law_word => k_is)
    (case i_law_word => k_is)
    (case k_law_word => k_is)
    (case a_Saying_on => k_is)
    (case j_Saying_on => k_is)
    (case l_Saying_on => k_is)
    (case i_Saying_on => k_is)
    (case k_Saying_on => k_is)
    (case a_is_lit => k_is)
    (case l_is_lit => k_is)
    (case i_is_lit => k_is)
    (case k_is_lit => k_is)
    (case a_sign_at => k_is)
    (case l_sign_at => k_is)
    (case i_sign_at => k_is)
    (case k_sign_at => k_is)
    (case a_has => k_is)
    (case l_has => k_is)
    (case i_has => k_is)
    (case k_has => k_is)
    (case a_is_term => k_is)
    (case l_is_term => k_is)
    (case i_is_term => k_is)
    (case k_is_term => k_is)
    (case t_is_term => k_is)
    (case u_is_term => first | rfl | k_is)
    (case q_is_term => first | rfl | kernel_rfl | decide +kernel)
    (case r_is_term => first | rfl | kernel_rfl)
    (case a_Saying_is_good => k_is)
    (case j_Saying_is_good => k_is)
    (case l_Saying_is_good => k_is)
    (case i_Saying_is_good => k_is)
    (case k_Saying_is_good => k_is)
    (case a_Saying_many => k_is)
    (case j_Saying_many => k_is)
    (case l_Saying_many => k_is)
    (case i_Saying_many => k_is)
    (case k_Saying_many => k_is)
    (case a_are_good_terms => k_is)
    (case l_are_good_terms => k_is)
    (case i_are_good_terms => k_is)
    (case k_are_good_terms => k_is)
    (case a_is_telling => k_is)
    (case l_is_telling => k_is)
    (case i_is_telling => k_is)
    (case k_is_telling => k_is)
    (case a_trimmed => k_is)
    (case l_trimmed => k_is)
    (case i_trimmed => k_is)
    (case k_trimmed => k_is)
    (case a_law_caught => k_is)
    (case l_law_caught => k_is)
    (case i_law_caught => k_is)
    (case k_law_caught => k_is)
    (case a_law_digits => k_is)
    (case l_law_digits => k_is)
    (case i_law_digits => k_is)
    (case k_law_digits => k_is)
    (case a_law_agrees => k_is)
    (case l_law_agrees => k_is)
    (case i_law_agrees => k_is)
    (case k_law_agrees => k_is)
    (case a_law_all_on => k_is)
    (case l_law_all_on => k_is)
    (case i_law_all_on => k_is)
    (case k_law_all_on => k_is)
    (case a_law_due => k_is)
    (case l_law_due => k_is)
    (case i_law_due => k_is)
    (case k_law_due => k_is)
    (case a_law_is_told => k_is)
    (case l_law_is_told => k_is)
    (case i_law_is_told => k_is)
    (case k_law_is_told => k_is)
    (case a_law_terms => k_is)
    (case l_law_terms => k_is)
    (case i_law_terms => k_is)
    (case k_law_terms => k_is)
    (case a_law_ends => k_is)
    (case l_law_ends => k_is)
    (case i_law_ends => k_is)
    (case k_law_ends => k_is)
    (case a_law_spread => k_is)
    (case l_law_spread => k_is)
    (case i_law_spread => k_is)
    (case k_law_spread => k_is)
    (case a_law_mixed => k_is)
    (case l_law_mixed => k_is)
    (case i_law_mixed => k_is)
    (case k_law_mixed => k_is)
    (case a_law_list => k_is)
    (case l_law_list => k_is)
    (case i_law_list => k_is)
    (case k_law_list => k_is)
    (case a_law_odd => k_is)
    (case l_law_odd => k_is)
    (case i_law_odd => k_is)
    (case k_law_odd => k_is)
    (case a_law_rows => k_is)
    (case l_law_rows => k_is)
    (case i_law_rows => k_is)
    (case k_law_rows => k_is)
    (case a_law => k_is)
    (case l_law => k_is)
    (case i_law => k_is)
    (case k_law => k_is)
    (case z_ValueError => k_is)
    (case z_all => k_is)
    (case z_any => k_is)
    (case z_bool => k_is)
    (case z_enumerate => k_is)
    (case z_int => k_is)
    (case z_isinstance => k_is)
    (case z_len => k_is)
    (case z_list => k_is)
    (case z_range => k_is)
    (case z_set => k_is)
    (case z_sorted => k_is)
    (case z_str => k_is)
    (case z_sum => k_is)
    (case z_tuple => k_is)
    (case z_type => k_is)
    (case z_zip => k_is)
    (case b_DARK => k_is)
    (case e_DARK => first | rfl | decide +kernel)
    (case b_EITHER => k_is)
    (case e_EITHER => first | rfl | decide +kernel)
    (case b_LIT => k_is)
    (case e_LIT => first | rfl | decide +kernel)
    (case b_MOST_LAMPS => k_is)
    (case e_MOST_LAMPS => first | rfl | decide +kernel)
    (case b_SIGNS => k_is)
    (case e_SIGNS => first | rfl | decide +kernel)
