import PyProof.Rows.All
import Wide.All
import OpenK.AllK
import Wide.FinOn
import HandS.ForMost
import HandS.Walk
import HandS.AnyAll
import HandS.Conv
import HandS.More
import HandS.Style
import HandS.IsInst
import HandS.EndTab
import HandS.Exc
import HandS.ExcOwn
import HandS.ExcIs
import KE.KExcIs
import HandS.ExcValue
import HandS.WordsExc
import HandS.Zip
import HandS.Defaults
import HandS.Dict
import KE.GoesMore
import HandS.TupMul
import PyProof.Rows.SortShellAny
import HandS.DictComp
import HandS.Small
import HandS.Iter
import HandS.FStr
import HandS.Text
import HandS.Star
import HandS.WordsDict
import KE.GoesEnumKw
import PyProof.Draws
import HandS.ExcInit
import HandS.ExcField
import KE.KExcSuper
import HandS.WideBits
import KE.DataMinMax
import HandS.StrMore
import PyProof.Rows.StrIntSpec
import PyProof.Rows.RegReprOcc
import PyProof.FString3
import HandS.Rev
import KE.GoesEnum
import HandS.TupAny
import HandS.SortKw
import KE.SortData
import PySem.Challenge.RW_fewterms_k01_terms
set_option Elab.async false
set_option linter.all false
set_option maxRecDepth 100000
set_option maxHeartbeats 4000000
/-! An error that outlives its clause: an object on the abstract heap. -/
namespace Fw
open PySem PySem.Spec PyProof.Rows L2
/-- a raised error of the class cls at a -/
def ExH (cls : Value) (d : Option Addr) (a : Addr) : HO := .ext fun h => ∃ (oe : Obj) (vs : Array Value), h.get? a = some oe ∧ Zc cls d oe ∧ oe.data = .fields vs
theorem exH_ok {P : Program} {w : World} {H : Hp} {h : Heap} {a : Addr} {cls : Value} {d : Option Addr} {oe : Obj} {vs : Array Value} (e : h.get? a = some oe) (z : Zc cls d oe) (k : oe.data = .fields vs) : ObjOk P w H h a (ExH cls d a) :=
  ⟨⟨oe, vs, e, z, k⟩, ⟨oe, e⟩, fun _ _ ⟨o, v, q, r⟩ k => ⟨o, v, k o q, r⟩⟩
section
variable {X : Cx} {pins : List (Addr × Obj)} {σ : L2.St} {H : Hp} {sI s' : Shared} {B : Heap}
/-- on the ground, the error tracked from here on -/
theorem landedT (I : Inv X pins σ H sI) (nb : ∀ b o, sI.heap.get? b = some o → b ∉ frs X.stack → B.get? b = some o) (sb : B.StaysIn s'.heap) (up : sI.heap.UpToSlots s'.heap) (eo : s'.os = sI.os) (bg : AllBare s'.gens)
    {a : Addr} {oe : Obj} {vs : Array Value} {cls : Value} {d : Option Addr} (na : sI.heap.get? a = none) (he : s'.heap.get? a = some oe) (hz : Zc cls d oe) (hd : oe.data = .fields vs) (hn : H a = none) : Inv X pins σ (upd H a (ExH cls d a)) s' := by
  have onF : ∀ b ∈ frs X.stack, ∀ o, sI.heap.get? b = some o → ∃ sl, s'.heap.get? b = some { o with slots := sl } := fun b hb o e => by
    obtain ⟨_, o2, e2, nd⟩ := I.stack.mem hb
    rw [e] at e2
    cases e2
    exact up b o e nd
  have ne : ∀ b o, sI.heap.get? b = some o → b ≠ a := fun b o e z => by
    rw [z, na] at e
    cases e
  have u : Un (frs X.stack) [] H (upd H a (ExH cls d a)) sI.heap s'.heap := {
    keep := fun b o e _ hb _ => sb b o (nb b o e hb)
    slot := fun b o e _ hb _ => onF b hb o e
    free := fun b o e n _ => by rw [upd_ne (ne b o e)]; exact n
    there := fun b o e _ => by
      by_cases hb : b ∈ frs X.stack
      · obtain ⟨sl, q⟩ := onF b hb o e
        exact ⟨_, q⟩
      · exact ⟨o, sb b o (nb b o e hb)⟩
    tups := fun b xs e => by rw [upd_ne (ne_of_none e hn)]; exact e
    frzs := fun b o u e => by rw [upd_ne (ne_of_none e hn)]; exact e
    tbls := fun b ps e => ⟨#[], by rw [upd_ne (ne_of_none e hn), e]; simp⟩ }
  have hok : HOk X.prog X.w (upd H a (ExH cls d a)) s'.heap := ((I.inGround nb).kept sb).laidN (fun _ _ e => e) hn (exH_ok he hz hd)
  have J := I.call (ch := []) (h' := s'.heap) (g' := s'.gens) (t' := s'.toks) (d' := s'.drawn) u hok bg (fun _ z => nomatch z)
  obtain ⟨b1, b2, b3, b4, b5⟩ := s'
  have e5 : b5 = sI.os := eo
  subst e5
  exact J
/-- into a clause's suite, nothing pinned -/
theorem toSuite (I : Inv X pins σ H sI) (a : Addr) : Inv (X.suite a (X.pn ++ pins)) [] σ H sI :=
  ⟨I.ok.suite _ _, I.os, I.bare, I.base, I.loc, I.cell, I.free, I.freeC, fun p hp => I.pin p (by rw [List.append_nil] at hp; exact hp), I.hok, I.len⟩
theorem ofSuite {a : Addr} {pn' : List (Addr × Obj)} (I : Inv (X.suite a (X.pn ++ pins)) pn' σ H sI) (ok : X.Ok) : Inv X pins σ H sI :=
  ⟨ok, I.os, I.bare, I.base, I.loc, I.cell, I.free, I.freeC, fun p hp => I.pin p (List.mem_append_left _ hp), I.hok, I.len⟩
end
/-- what the clause wants of the body's errors: caught, the error stands on the heap -/
def wAsT (K : PySem.W.Frag) (c : Value) (i : Nat) (ts : TS) (Wout : WX) (D : Ends) : WX := fun cls d σ H =>
  ∃ b, PySem.W.exmOne K cls c = some b ∧ (b = true → ∀ a, H a = none → ts { nx := fun σ' H' => D.nx (σ'.set i none) H', rt := D.rt, bk := fun σ' H' => D.bk (σ'.set i none) H', ct := fun σ' H' => D.ct (σ'.set i none) H' } (σ.set i (some (.ref a))) (upd H a (ExH cls d a))) ∧
    (b = false → Wout cls d σ H)
section
variable {X : Cx} {x n : Str} {c : Value} {i : Nat} {body suite : List Stmt} {b₀ : Stmt} {np pos pos' : Pos} {tb : WX → TS} {ts : TS} {Wout : WX}
theorem ps_try_asT (hs : X.stack = X.env :: X.outer) (hf : X.env.frame = some X.env.locals) (hN : X.N.Nodup) (hi : X.N[i]? = some n) (hln : X.env.kindOf n = some .local) (hc : Names X x c) (tk : Takes X Wout)
    (hb : ∀ (W : WX) (pn : List (Addr × Obj)) (xe : Value → Shared → Prop), Takes (X.tr pn xe) W → PassesOwn (model X.prog X.w) X.A X.env xe → PSs (X.tr pn xe) body (tb W)) (hsu : ∀ (a : Addr) (pn : List (Addr × Obj)), PSs (X.suite a pn) (b₀ :: suite) ts) :
    PS X (.Try body [.ExceptHandler (some (.Name x np)) (some n) (b₀ :: suite) pos'] [] [] pos) (fun D σ H => tb (wAsT X.K c i ts Wout D) D σ H) := by
  refine ⟨fun pins s σ H D I h => ?_⟩
  have okX := I.ok
  have frX : X.A.frames = some (X.env :: X.outer) := by rw [okX.frames, hs]
  have ln : Loc X.env.scope n := Or.inl hln
  refine wpAny_Try_except (wpAny_mono ((hb (wAsT X.K c i ts Wout D) (X.pn ++ pins) (fun e s1 => wpAny (model X.prog X.w) X.A (noteFrame e X.env) (fun _ s2 => wpAny (model X.prog X.w) X.A (setFlight e none)
    (fun _ s3 => wpAny (model X.prog X.w) X.A (handleBy e X.env [.ExceptHandler (some (.Name x np)) (some n) (b₀ :: suite) pos']) (SP X pins D) X.xe s3) X.xe s2) X.xe s1) (fun u s1 hx => ?_) PassesOwn.looking).run [] s σ H D (I.toTry _) h) (fun f s1 h1 => ?_) fun _ _ z => z)
  · obtain ⟨a, B, sI, pins1, σ1, H1, cls, d, rfl, J0, nb, up, sky, na, eo, bg, b, hb1, yes, no⟩ := hx
    have J : Inv X pins σ1 H1 sI := Inv.ofTry J0 okX
    have sky1 : Sky B (X.env :: X.outer) a (Zc cls d) X.env.locals s1.heap := by rw [← hs]; exact sky
    show wpAny (model X.prog X.w) X.A (noteFrame (.ref a) X.env) _ _ _
    refine Sky.land Zc.steady frX hf sky1 fun h3 fl3 up3 => ?_
    have J3 : Inv X pins σ1 H1 { s1 with heap := h3 } := J.landed nb fl3.1 (up.trans up3) eo bg
    obtain ⟨o3, v3, e3, z3, k3⟩ := HandSPX.FlyingZ.there fl3
    have nfr : a ∉ frs (X.env :: X.outer) := fun hm => by
      obtain ⟨_, o2, e2, nd⟩ := fl3.2.2.1.mem hm
      rw [e3] at e2
      cases e2
      exact nd _ k3
    have nI : sI.heap.get? a = none := by
      cases q : sI.heap.get? a with
      | none => rfl
      | some o =>
        have z := nb a o q (by rw [hs]; exact nfr)
        rw [fl3.2.1] at z
        cases z
    refine wpAny_handleBy_cons (codeAny_handlers_test ?_) (by intro q; cases q)
    have LT : PySem.W.Looks (model X.prog X.w) h3 (typeOf (.ref a)) cls := fun A Q E s k q => wpAny_typeOf_ref (k _ _ e3) (by rw [z3.1]; exact q)
    have LM := PySem.W.exm_one (M := model X.prog X.w) J3.kIn LT hb1
    have S3 := toSuite J3 a
    have rd : ∀ {Q : Value → Shared → Prop} {E : Value → Shared → Prop}, Q c { s1 with heap := h3 } → wpAny (model X.prog X.w) (X.A.mark (some (.ref a))) (eval (.Name x np) X.env) Q E { s1 with heap := h3 } := fun {Q E} q => by
      obtain ⟨hg, hq, hm | ⟨hm, hv, hnn⟩⟩ := hc
      · exact ld_glob (X := X.suite a (X.pn ++ pins)) S3 hg hm q hq
      · exact ld_blt (X := X.suite a (X.pn ++ pins)) S3 hg hm hv q hnn hq
    refine rd (LM.here ?_)
    cases b with
    | true =>
      refine codeAny_handlers_suite_as (HandSPX.lands_againZ fl3 fun h4 fl4 up4 => ?_)
      obtain ⟨o4, v4, e4, z4, k4⟩ := HandSPX.FlyingZ.there fl4
      have J4 : Inv X pins σ1 (upd H1 a (ExH cls d a)) { s1 with heap := h4 } := landedT (s' := { s1 with heap := h4 }) J nb fl4.1 ((up.trans up3).trans up4) eo bg nI e4 z4 k4 na
      refine store_ok (X := X.suite a (X.pn ++ pins)) (v := .ref a) (toSuite J4 a) hN hi ln rfl (fun s5 S5 => ?_) (.inr hln)
      refine wpAny_mono ((hsu a (X.pn ++ pins)).run [] s5 _ _ _ S5 (yes rfl a na)) (fun f s6 h6 => ?_) fun _ _ z => False.elim z
      have fin : ∀ {σ6 : L2.St} {H6 : Hp} {Q : Shared → Prop}, Inv (X.suite a (X.pn ++ pins)) [] σ6 H6 s6 → (∀ s7, Inv X pins (σ6.set i none) H6 s7 → Q s7) → wpAny (model X.prog X.w) X.A (do bindName X.env n .none; unbindBehindTheSuite X.env n pos') (fun _ s7 => Q s7) X.xe s6 :=
        fun {σ6 H6 Q} S6 q => gone_ok (ofSuite S6 okX) hN hi hln q
      cases f with
      | next =>
        obtain ⟨σ6, H6, S6, q6⟩ := h6
        exact fin S6 fun s7 J7 => ⟨_, _, J7, q6⟩
      | brk =>
        obtain ⟨σ6, H6, S6, q6⟩ := h6
        exact fin S6 fun s7 J7 => ⟨_, _, J7, q6⟩
      | cont =>
        obtain ⟨σ6, H6, S6, q6⟩ := h6
        exact fin S6 fun s7 J7 => ⟨_, _, J7, q6⟩
      | ret u =>
        obtain ⟨v6, σ6, H6, S6, r6, q6⟩ := h6
        exact fin S6 fun s7 J7 => ⟨_, _, _, J7, r6, q6⟩
    | false =>
      show wpAny _ X.A (handleBy (.ref a) X.env []) _ _ _
      refine wpAny_handleBy_nil ?_
      obtain ⟨k1, k2, k3', oe, vs, T1, oT, ts', he, hz, hd, hv1, hr⟩ := id fl3
      have again : wpAny (model X.prog X.w) X.A (setFlight (.ref a) X.env.frame) (fun _ s4 => wpAny (model X.prog X.w) X.A (throw (.ref a) : Sem Flow) (SP X pins D) X.xe s4) X.xe { s1 with heap := h3 } := by
        rw [hf]
        exact HandSPX.setFlight_upZ fl3 fun h4 hh4 up4 => wpAny_throw (tk _ _ ⟨a, B, sI, pins, σ1, H1, cls, d, rfl, J, nb, (up.trans up3).trans up4, .inr (.inr (by rw [hs]; exact hh4)), na, eo, bg, no rfl⟩)
      unfold PySem.passOn
      refine wpAny_bind (wpAny_field he hd hv1 ?_)
      rw [if_neg (show ¬ ((Value.ref T1 == Value.none) = true) from by simp)]
      first | exact wpAny_bind (wpAny_pure (wpAny_bind again)) | exact wpAny_bind again
  · cases f with
    | next =>
      obtain ⟨σ1, H1, J, q⟩ := h1
      exact wpAny_execs_nil ⟨σ1, H1, Inv.ofTry J I.ok, q⟩
    | brk =>
      obtain ⟨σ1, H1, J, q⟩ := h1
      exact ⟨σ1, H1, Inv.ofTry J I.ok, q⟩
    | cont =>
      obtain ⟨σ1, H1, J, q⟩ := h1
      exact ⟨σ1, H1, Inv.ofTry J I.ok, q⟩
    | ret u =>
      obtain ⟨v, σ1, H1, J, r, q⟩ := h1
      exact ⟨v, σ1, H1, Inv.ofTry J I.ok, r, q⟩
end
/-! ### isinstance of an error, by its class -/
def rIsX (K : PySem.W.Frag) : List V → Hp → VK → Prop := fun xs H Q => ∃ (a D : Addr) (dx : Option Addr) (c : V) (cv : Value) (b : Bool), xs = [.ref a, c] ∧ H a = some (ExH (.ref D) dx a) ∧ (dx = none ∨ ∃ dd fs, dx = some dd ∧ H dd = some (.xd fs)) ∧ ExcC K D ∧ (∀ u, RelV c u → u = cv) ∧ PySem.W.kitOne K (.ref D) cv = some b ∧ Q (.bl b) H
/-- the object, as the library's own rules see it -/
theorem exH_at {X : Cx} {pins : List (Addr × Obj)} {σ : L2.St} {H : Hp} {s : Shared} {a D : Addr} {dx : Option Addr} (I : Inv X pins σ H s) (hH : H a = some (ExH (.ref D) dx a)) (hd : dx = none ∨ ∃ dd fs, dx = some dd ∧ H dd = some (.xd fs)) :
    ∃ (oe : Obj) (od : Option Obj), PySem.W.InstAt s.heap a oe D od ∧ ∀ dd fs, dx = some dd → H dd = some (.xd fs) → ∃ (mA : Str → Option Value) (o1 : Obj), od = some o1 ∧ (∀ f, RelO (fs.lookup f) (mA f)) ∧ ∀ n, PySem.W.lookIn n o1 = some (mA n) := by
  obtain ⟨⟨oe, vs, hget, hz, hv⟩, _, _⟩ := I.hok a _ hH
  have nc : PySem.W.notCls oe = true := by unfold PySem.W.notCls; rw [hv]
  rcases hd with rfl | ⟨dd, fs, rfl, ea⟩
  · exact ⟨oe, none, ⟨hget, hz.1, nc, by rw [hz.2]; trivial⟩, fun dd fs h => by cases h⟩
  · have hx : ObjOk X.prog X.w H s.heap dd (.xd fs) := I.hok dd _ ea
    obtain ⟨mA, hns, hr⟩ := hx
    obtain ⟨od, ho, hl⟩ := lookIn_ns hns
    refine ⟨oe, some od, ⟨hget, hz.1, nc, by rw [hz.2]; exact ho⟩, fun d2 f2 h1 h2 => ?_⟩
    cases h1
    rw [ea] at h2
    cases h2
    exact ⟨mA, od, rfl, hr, hl⟩
theorem call_isX {X : Cx} : CallR X (.builtin "isinstance") (rIsX X.K) := by
  intro pins s σ H xs us Q I r h
  obtain ⟨a, D, dx, c, cv, b, rfl, hH, hdx, C, hcv, e, q⟩ := h
  cases r with
  | cons rx rr =>
    cases rr with
    | cons rt rr =>
      cases rr
      cases rx
      have ec := hcv _ rt
      subst ec
      obtain ⟨oe, od, J, _⟩ := exH_at I hH hdx
      exact PySem.W.kia_one (PySem.W.kitx_exc (by obtain ⟨cdD, hcD, _⟩ := PySem.W.any_some C.hd; rw [hcD]; rfl) C.hg C.hk C.hs C.ha C.hn C.ht C.hm) I.kIn J e (fun z => nomatch z) fun tk => ⟨.bl b, H, I.kept (t' := tk) fun _ _ z => z, rfl, q⟩
end Fw
/-! Data beside the abstract heap: what a value is worth, frozen or borrowed; the programs' defs as functions on data. -/
namespace Fw
open PySem PySem.Spec PyProof.Rows L2
/-- a text by its signs -/
def tx (s : List Nat) : Str := ⟨s.toArray⟩
theorem tx_len (s : List Nat) : (tx s).length = s.length := by simp [tx, Str.length]
theorem tx_list (s : List Nat) : (tx s).cps.toList = s := by simp [tx]
theorem tx_inj {a b : List Nat} (h : tx a = tx b) : a = b := by
  have := congrArg (fun s : Str => s.cps.toList) h
  simpa [tx] using this
theorem tx_app (a b : List Nat) : tx a ++ tx b = tx (a ++ b) := by
  show Str.append (tx a) (tx b) = _
  simp [Str.append, tx]
/-- a key of a dict: an int, a text by its signs -/
abbrev DK := Sum Int (List Nat)
def kyOf : DK → L2.Key
  | .inl i => .inl i
  | .inr s => .inr (tx s)
inductive D where
  | non | bl (b : Bool) | int (i : Int) | str (s : List Nat) | lst (xs : List D) | tup (xs : List D) | ty (n : String)
  | ins (c : Addr) (ns : List Str) (ds : List D)
  | exn (c : Addr) (ns : List Str) (ds : List D)
  | emp | cls (c : Addr)
  | slf (a c : Addr) (ns : List Str) (ds : List D)
  | dct (ks : List DK) (ds : List D)
  deriving Inhabited
section
variable (K : PySem.W.Frag)
mutual
def Rp (H : Hp) : D → V → Prop
  | .non, v => v = .non
  | .bl b, v => v = .bl b
  | .int i, v => v = .int i
  | .str s, v => v = .str (tx s)
  | .ty n, v => v = .ty n
  | .lst xs, v => ∃ a vs, v = .ref a ∧ SqL K H a vs ∧ RpL H xs vs
  | .tup xs, v => ∃ a vs, v = .ref a ∧ SqT K H a vs ∧ RpL H xs vs
  | .ins c ns ds, v => ∃ a dx vs, v = .ref a ∧ H a = some (.ins c dx (ns.zip vs)) ∧ ns.length = ds.length ∧ RpL H ds vs
  | .exn c ns ds, v => ∃ a d, v = .ref a ∧ H a = some (ExH (.ref c) d a) ∧ ((d = none ∧ ns = []) ∨ ∃ dd vs, ns ≠ [] ∧ d = some dd ∧ H dd = some (.xd (ns.zip vs)) ∧ ns.length = ds.length ∧ RpL H ds vs)
  | .emp, v => ∃ a, v = .ref a ∧ H a = some (.dK [])
  | .cls c, v => v = .ref c
  | .slf a c ns ds, v => v = .ref a ∧ ∃ dx vs, H a = some (.ins c dx (ns.zip vs)) ∧ ns.length = ds.length ∧ RpL H ds vs
  | .dct ks ds, v => ∃ a od vs, v = .ref a ∧ H a = some (.frz od (.dK ((ks.map kyOf).zip vs))) ∧ ks.length = ds.length ∧ RpL H ds vs
def RpL (H : Hp) : List D → List V → Prop
  | [], vs => vs = []
  | d :: ds, vs => ∃ v r, vs = v :: r ∧ Rp H d v ∧ RpL H ds r
end
end
/-- heaps that grow -/
def Sub (H H' : Hp) : Prop := ∀ a o, H a = some o → H' a = some o
theorem Sub.refl (H : Hp) : Sub H H := fun _ _ h => h
theorem Sub.trans {H H1 H2 : Hp} (a : Sub H H1) (b : Sub H1 H2) : Sub H H2 := fun x o h => b x o (a x o h)
theorem Sub.new {H : Hp} {p : Addr} {o : HO} (h : H p = none) : Sub H (upd H p o) := fun a u e => by
  rw [upd_ne (ne_of_none e h)]; exact e
theorem Sub.rd {H H' : Hp} {a : Addr} {u : HO} (e : Sub H H') (h : Rd H a u) : Rd H' a u := by
  rcases h with h | ⟨o, h⟩
  · exact Or.inl (e a _ h)
  · exact Or.inr ⟨o, e a _ h⟩
section
variable {K : PySem.W.Frag}
theorem Sub.l {H H' : Hp} {a : Addr} {xs : List V} (e : Sub H H') (h : SqL K H a xs) : SqL K H' a xs := by
  rcases h with h | h
  · exact Or.inl (e.rd h)
  · exact Or.inr h
theorem Sub.t {H H' : Hp} {a : Addr} {xs : List V} (e : Sub H H') (h : SqT K H a xs) : SqT K H' a xs := by
  rcases h with h | h
  · exact Or.inl (e.rd h)
  · exact Or.inr h
mutual
theorem Rp.mono {H H' : Hp} (e : Sub H H') : ∀ (d : D) {v : V}, Rp K H d v → Rp K H' d v
  | .non, v, h => by simpa [Rp] using h
  | .bl b, v, h => by simpa [Rp] using h
  | .int i, v, h => by simpa [Rp] using h
  | .str s, v, h => by simpa [Rp] using h
  | .ty n, v, h => by simpa [Rp] using h
  | .lst xs, v, h => by
    rw [Rp] at h ⊢
    obtain ⟨a, vs, h1, h2, h3⟩ := h
    exact ⟨a, vs, h1, e.l h2, RpL.mono e xs h3⟩
  | .tup xs, v, h => by
    rw [Rp] at h ⊢
    obtain ⟨a, vs, h1, h2, h3⟩ := h
    exact ⟨a, vs, h1, e.t h2, RpL.mono e xs h3⟩
  | .ins c ns ds, v, h => by
    rw [Rp] at h ⊢
    obtain ⟨a, dx, vs, h1, h2, h3, h4⟩ := h
    exact ⟨a, dx, vs, h1, e _ _ h2, h3, RpL.mono e ds h4⟩
  | .exn c ns ds, v, h => by
    rw [Rp] at h ⊢
    obtain ⟨a, d, h1, h2, h3⟩ := h
    refine ⟨a, d, h1, e _ _ h2, h3.imp id fun ⟨dd, vs, k0, k1, k2, k3, k4⟩ => ⟨dd, vs, k0, k1, e _ _ k2, k3, RpL.mono e ds k4⟩⟩
  | .emp, v, h => by
    rw [Rp] at h ⊢
    obtain ⟨a, h1, h2⟩ := h
    exact ⟨a, h1, e _ _ h2⟩
  | .cls c, v, h => by simpa [Rp] using h
  | .slf a c ns ds, v, h => by
    rw [Rp] at h ⊢
    obtain ⟨h1, dx, vs, h2, h3, h4⟩ := h
    exact ⟨h1, dx, vs, e _ _ h2, h3, RpL.mono e ds h4⟩
  | .dct ks ds, v, h => by
    rw [Rp] at h ⊢
    obtain ⟨a, od, vs, h1, h2, h3, h4⟩ := h
    exact ⟨a, od, vs, h1, e _ _ h2, h3, RpL.mono e ds h4⟩
theorem RpL.mono {H H' : Hp} (e : Sub H H') : ∀ (ds : List D) {vs : List V}, RpL K H ds vs → RpL K H' ds vs
  | [], vs, h => by simpa [RpL] using h
  | d :: ds, vs, h => by
    rw [RpL] at h ⊢
    obtain ⟨v, r, h1, h2, h3⟩ := h
    exact ⟨v, r, h1, Rp.mono e d h2, RpL.mono e ds h3⟩
end
theorem RpL.nil {H : Hp} : RpL K H [] [] := by rw [RpL]
theorem RpL.cons {H : Hp} {d : D} {ds : List D} {v : V} {vs : List V} (h : Rp K H d v) (r : RpL K H ds vs) : RpL K H (d :: ds) (v :: vs) := by
  rw [RpL]; exact ⟨v, vs, rfl, h, r⟩
theorem RpL.app {H : Hp} : ∀ {ds es : List D} {vs us : List V}, RpL K H ds vs → RpL K H es us → RpL K H (ds ++ es) (vs ++ us)
  | [], es, vs, us, h, r => by
    rw [RpL] at h; subst h; exact r
  | d :: ds, es, vs, us, h, r => by
    rw [RpL] at h
    obtain ⟨v, rr, h1, h2, h3⟩ := h
    subst h1
    exact RpL.cons h2 (RpL.app h3 r)
theorem RpL.len {H : Hp} : ∀ {ds : List D} {vs : List V}, RpL K H ds vs → ds.length = vs.length
  | [], vs, h => by rw [RpL] at h; subst h; rfl
  | d :: ds, vs, h => by
    rw [RpL] at h
    obtain ⟨v, r, h1, h2, h3⟩ := h
    subst h1
    simp [RpL.len h3]
theorem RpL.get {H : Hp} : ∀ {ds : List D} {vs : List V} {i : Nat} {d : D}, RpL K H ds vs → ds[i]? = some d → ∃ v, vs[i]? = some v ∧ Rp K H d v
  | [], vs, i, d, h, e => by simp at e
  | d :: ds, vs, 0, d', h, e => by
    rw [RpL] at h
    obtain ⟨v, r, h1, h2, h3⟩ := h
    simp at e; subst e; subst h1
    exact ⟨v, rfl, h2⟩
  | d :: ds, vs, i + 1, d', h, e => by
    rw [RpL] at h
    obtain ⟨v, r, h1, h2, h3⟩ := h
    subst h1
    obtain ⟨u, h4, h5⟩ := RpL.get h3 (by simpa using e)
    exact ⟨u, by simpa using h4, h5⟩
theorem RpL.getV {H : Hp} : ∀ {ds : List D} {vs : List V} {i : Nat} {v : V}, RpL K H ds vs → vs[i]? = some v → ∃ d, ds[i]? = some d ∧ Rp K H d v
  | [], vs, i, v, h, e => by rw [RpL] at h; subst h; simp at e
  | d :: ds, vs, 0, v', h, e => by
    rw [RpL] at h
    obtain ⟨v, r, h1, h2, h3⟩ := h
    subst h1; simp at e; subst e
    exact ⟨d, rfl, h2⟩
  | d :: ds, vs, i + 1, v', h, e => by
    rw [RpL] at h
    obtain ⟨v, r, h1, h2, h3⟩ := h
    subst h1
    obtain ⟨u, h4, h5⟩ := RpL.getV h3 (by simpa using e)
    exact ⟨u, by simpa using h4, h5⟩
theorem RpL.drop {H : Hp} : ∀ {ds : List D} {vs : List V} (n : Nat), RpL K H ds vs → RpL K H (ds.drop n) (vs.drop n)
  | ds, vs, 0, h => h
  | [], vs, n + 1, h => by rw [RpL] at h; subst h; exact RpL.nil
  | d :: ds, vs, n + 1, h => by
    rw [RpL] at h
    obtain ⟨v, r, h1, h2, h3⟩ := h
    subst h1
    exact RpL.drop n h3
theorem RpL.take {H : Hp} : ∀ {ds : List D} {vs : List V} (n : Nat), RpL K H ds vs → RpL K H (ds.take n) (vs.take n)
  | ds, vs, 0, h => by simp; exact RpL.nil
  | [], vs, n + 1, h => by rw [RpL] at h; subst h; exact RpL.nil
  | d :: ds, vs, n + 1, h => by
    rw [RpL] at h
    obtain ⟨v, r, h1, h2, h3⟩ := h
    subst h1
    exact RpL.cons h2 (RpL.take n h3)
theorem RpL.set {H : Hp} : ∀ {ds : List D} {vs : List V} (n : Nat) {d : D} {v : V}, RpL K H ds vs → Rp K H d v → RpL K H (ds.set n d) (vs.set n v)
  | [], vs, n, d, v, h, _ => by rw [RpL] at h; subst h; exact RpL.nil
  | _ :: ds, vs, 0, d, v, h, hd => by
    rw [RpL] at h
    obtain ⟨v', r, h1, h2, h3⟩ := h
    subst h1
    exact RpL.cons hd h3
  | _ :: ds, vs, n + 1, d, v, h, hd => by
    rw [RpL] at h
    obtain ⟨v', r, h1, h2, h3⟩ := h
    subst h1
    exact RpL.cons h2 (RpL.set n h3 hd)
theorem RpL.eraseIdx {H : Hp} : ∀ {ds : List D} {vs : List V} (n : Nat), RpL K H ds vs → RpL K H (ds.eraseIdx n) (vs.eraseIdx n)
  | [], vs, n, h => by rw [RpL] at h; subst h; exact RpL.nil
  | _ :: ds, vs, 0, h => by
    rw [RpL] at h
    obtain ⟨v', r, h1, h2, h3⟩ := h
    subst h1
    exact h3
  | _ :: ds, vs, n + 1, h => by
    rw [RpL] at h
    obtain ⟨v', r, h1, h2, h3⟩ := h
    subst h1
    exact RpL.cons h2 (RpL.eraseIdx n h3)
theorem RpL.rev {H : Hp} : ∀ {ds : List D} {vs : List V}, RpL K H ds vs → RpL K H ds.reverse vs.reverse
  | [], vs, h => by rw [RpL] at h; subst h; exact RpL.nil
  | d :: ds, vs, h => by
    rw [RpL] at h
    obtain ⟨v, r, h1, h2, h3⟩ := h
    subst h1
    rw [List.reverse_cons, List.reverse_cons]
    exact RpL.app (RpL.rev h3) (RpL.cons h2 RpL.nil)
end
/-- no object within -/
def flat : D → Bool
  | .non => true
  | .bl _ => true
  | .int _ => true
  | .str _ => true
  | .ty _ => true
  | .cls _ => true
  | _ => false
theorem Rp.flat {K : PySem.W.Frag} {H H' : Hp} {d : D} {v : V} (f : flat d = true) (h : Rp K H d v) : Rp K H' d v := by
  cases d <;> simp_all [Fw.flat, Rp]
theorem RpL.flat {K : PySem.W.Frag} {H H' : Hp} : ∀ {ds : List D} {vs : List V}, ds.all Fw.flat = true → RpL K H ds vs → RpL K H' ds vs
  | [], vs, f, h => by rw [RpL] at h; subst h; exact RpL.nil
  | d :: ds, vs, f, h => by
    rw [RpL] at h
    obtain ⟨v, r, h1, h2, h3⟩ := h
    subst h1
    rw [List.all_cons, Bool.and_eq_true] at f
    exact RpL.cons (h2.flat f.1) (RpL.flat f.2 h3)
/-- the objects that may change though they are not new: tables, and dicts with tuples as keys that stay as mon says -/
structure Tb where
  ad : List Addr
  mon : Addr → Hp → HO → Prop
  mono : ∀ {a : Addr} {F F' : Hp} {o : HO}, Sub F F' → mon a F o → mon a F' o
  isd : ∀ {a : Addr} {F : Hp} {o : HO}, mon a F o → ∃ kvs, o = .dT kvs
instance : Membership Addr Tb := ⟨fun T a => a ∈ T.ad⟩
def Tb.of (l : List Addr) : Tb := ⟨l, fun _ _ _ => False, fun _ h => h, fun h => h.elim⟩
/-- tables alone -/
def Tb.plain (T : Tb) : Prop := ∀ a F o, ¬ T.mon a F o
theorem Tb.of_plain (l : List Addr) : (Tb.of l).plain := fun _ _ _ h => h
def TabM (T : Tb) (F H : Hp) (P : Addr) : Prop := (GxR.TabG H P ∧ ∀ F o, ¬ T.mon P F o) ∨ ∃ o, H P = some o ∧ T.mon P F o
/-- no list, no tuple, no instance, .. -/
def Odd (H : Hp) (P : Addr) : Prop := (∃ ps, H P = some (.tbl ps)) ∨ ∃ kvs, H P = some (.dT kvs)
theorem TabM.odd {T : Tb} {F H : Hp} {P : Addr} (t : TabM T F H P) : Odd H P := by
  rcases t with ⟨⟨ps, h, _⟩, _⟩ | ⟨o, h, m⟩
  · exact .inl ⟨ps, h⟩
  · obtain ⟨kvs, rfl⟩ := T.isd m
    exact .inr ⟨kvs, h⟩
theorem TabM.tab {T : Tb} {F H : Hp} {P : Addr} (t : TabM T F H P) (p : T.plain) : GxR.TabG H P := by
  rcases t with ⟨h, _⟩ | ⟨o, _, m⟩
  · exact h
  · exact (p _ _ _ m).elim
theorem TabM.keep {T : Tb} {F H F' H' : Hp} {P : Addr} (t : TabM T F H P) (l : Sub F F') (e : H' P = H P) : TabM T F' H' P := by
  rcases t with ⟨⟨ps, h, z⟩, y⟩ | ⟨o, h, m⟩
  · exact .inl ⟨⟨ps, by rw [e]; exact h, z⟩, y⟩
  · exact .inr ⟨o, by rw [e]; exact h, T.mono l m⟩
/-- F: the part of H that stays as it is; T: what may change -/
structure Ok (T : Tb) (F H : Hp) : Prop where
  sub : Sub F H
  tab : ∀ P ∈ T, TabM T F H P
  ntab : ∀ P ∈ T, F P = none
structure Le (T : Tb) (F H F' H' : Hp) : Prop where
  f : Sub F F'
  h : ∀ a o, a ∉ T → H a = some o → H' a = some o
  n : ∀ a, F a = none → H a ≠ none → F' a = none
  ok : Ok T F' H'
section
variable {T : Tb} {F H F' H' F'' H'' : Hp}
theorem Ok.odd (ok : Ok T F H) : ∀ P ∈ T, Odd H P := fun P m => (ok.tab P m).odd
theorem tab_ne {P : Addr} (t : TabM T F H P) : H P ≠ none := by
  rcases t with ⟨⟨ps, h, _⟩, _⟩ | ⟨o, h, _⟩ <;> (rw [h]; simp)
theorem Ok.nt (ok : Ok T F H) {p : Addr} (h : H p = none) : p ∉ T := fun m => tab_ne (ok.tab p m) h
theorem Ok.nf (ok : Ok T F H) {p : Addr} (h : H p = none) : F p = none := by
  cases e : F p with
  | none => rfl
  | some o => rw [ok.sub _ _ e] at h; cases h
theorem Ok.nT (ok : Ok T F H) {p : Addr} {o : HO} (h : F p = some o) : p ∉ T := fun m => by rw [ok.ntab p m] at h; cases h
theorem tab_upd {P p : Addr} {o : HO} (t : TabM T F H P) (l : Sub F F') (h : H p = none) : TabM T F' (upd H p o) P := t.keep l (upd_ne fun z => tab_ne t (by rw [z]; exact h))
theorem Ok.new (ok : Ok T F H) {p : Addr} {o : HO} (h : H p = none) : Ok T (upd F p o) (upd H p o) where
  sub := fun a u e => by
    by_cases z : a = p
    · subst z; rw [upd_same] at e ⊢; exact e
    · rw [upd_ne z] at e ⊢; exact ok.sub _ _ e
  tab := fun P m => tab_upd (ok.tab P m) (Sub.new (ok.nf h)) h
  ntab := fun P m => by
    rw [upd_ne (show P ≠ p from fun z => ok.nt h (by rw [← z]; exact m))]; exact ok.ntab P m
theorem Ok.newH (ok : Ok T F H) {p : Addr} {o : HO} (h : H p = none) : Ok T F (upd H p o) where
  sub := fun a u e => (Sub.new h) a u (ok.sub _ _ e)
  tab := fun P m => tab_upd (ok.tab P m) (Sub.refl _) h
  ntab := ok.ntab
theorem Ok.frz (ok : Ok T F H) {p : Addr} {o : HO} (h : H p = some o) (hp : p ∉ T) : Ok T (upd F p o) H where
  sub := fun a u e => by
    by_cases z : a = p
    · subst z; rw [upd_same] at e; rw [h]; exact e
    · rw [upd_ne z] at e; exact ok.sub _ _ e
  tab := fun P m => (ok.tab P m).keep (fun a u e => by
    by_cases z : a = p
    · subst z
      have e2 := ok.sub _ _ e
      rw [h] at e2
      rw [upd_same]; exact e2
    · rw [upd_ne z]; exact e) rfl
  ntab := fun P m => by
    rw [upd_ne (show P ≠ p from fun z => hp (by rw [← z]; exact m))]; exact ok.ntab P m
/-- an object that is not of F changes -/
theorem Ok.mut (ok : Ok T F H) {p : Addr} {o : HO} (hf : F p = none) (hp : p ∉ T) : Ok T F (upd H p o) where
  sub := fun a u e => by
    rw [upd_ne (show a ≠ p from fun z => by rw [z, hf] at e; cases e)]; exact ok.sub _ _ e
  tab := fun P m => (ok.tab P m).keep (Sub.refl _) (upd_ne (show P ≠ p from fun z => hp (by rw [← z]; exact m)))
  ntab := ok.ntab
theorem Le.refl (ok : Ok T F H) : Le T F H F H := ⟨Sub.refl _, fun _ _ _ h => h, fun _ h _ => h, ok⟩
theorem Le.trans (a : Le T F H F' H') (b : Le T F' H' F'' H'') : Le T F H F'' H'' where
  f := a.f.trans b.f
  h := fun x o n h => b.h x o n (a.h x o n h)
  n := fun x h1 h2 => by
    by_cases m : x ∈ T
    · exact b.ok.ntab x m
    · refine b.n x (a.n x h1 h2) ?_
      cases e : H x with
      | none => exact absurd e h2
      | some o => rw [a.h x o m e]; simp
  ok := b.ok
theorem Le.new (ok : Ok T F H) {p : Addr} {o : HO} (h : H p = none) : Le T F H (upd F p o) (upd H p o) where
  f := Sub.new (ok.nf h)
  h := fun a u _ e => Sub.new h a u e
  n := fun a h1 h2 => by
    rw [upd_ne (show a ≠ p from fun z => h2 (by rw [z]; exact h))]; exact h1
  ok := ok.new h
theorem Le.newH (ok : Ok T F H) {p : Addr} {o : HO} (h : H p = none) : Le T F H F (upd H p o) where
  f := Sub.refl _
  h := fun a u _ e => Sub.new h a u e
  n := fun a h1 _ => h1
  ok := ok.newH h
/-- what was new since H is frozen -/
theorem Le.frz (l : Le T F H F' H') {p : Addr} {o : HO} (h0 : H p = none) (h : H' p = some o) (hf : F' p = none) (hp : p ∉ T) : Le T F H (upd F' p o) H' where
  f := l.f.trans (Sub.new hf)
  h := l.h
  n := fun a h1 h2 => by
    rw [upd_ne (show a ≠ p from fun z => h2 (by rw [z]; exact h0))]; exact l.n a h1 h2
  ok := l.ok.frz h hp
/-- what was new since H changes -/
theorem Le.mut (l : Le T F H F' H') {p : Addr} {o : HO} (h0 : H p = none) (hf : F' p = none) (hp : p ∉ T) : Le T F H F' (upd H' p o) where
  f := l.f
  h := fun a u m e => by
    rw [upd_ne (ne_of_none e h0)]; exact l.h a u m e
  n := l.n
  ok := l.ok.mut hf hp
theorem sqL_nt {K : PySem.W.Frag} {P : Addr} {vs : List V} (h : Odd H P) (e : Rd H P (.lst vs)) : False := by
  rcases h with ⟨ps, h1⟩ | ⟨ps, h1⟩ <;> (rcases e with e | ⟨o, e⟩ <;> rw [h1] at e <;> cases e)
theorem sqT_nt {P : Addr} {vs : List V} (h : Odd H P) (e : Rd H P (.tup vs)) : False := by
  rcases h with ⟨ps, h1⟩ | ⟨ps, h1⟩ <;> (rcases e with e | ⟨o, e⟩ <;> rw [h1] at e <;> cases e)
end
section
variable {K : PySem.W.Frag} {T : Tb} {F H F' H' : Hp}
theorem Le.rd (l : Le T F H F' H') (t : ∀ P ∈ T, Odd H P) {a : Addr} {u : HO} (nu : ∀ ps, u ≠ .tbl ps) (nd : ∀ ps, u ≠ .dT ps) (h : Rd H a u) : Rd H' a u := by
  have nT : a ∉ T := fun m => by
    rcases t a m with ⟨ps, h1⟩ | ⟨ps, h1⟩
    · rcases h with e | ⟨o, e⟩
      · rw [h1] at e; exact nu ps (Option.some.inj e).symm
      · rw [h1] at e; cases e
    · rcases h with e | ⟨o, e⟩
      · rw [h1] at e; exact nd ps (Option.some.inj e).symm
      · rw [h1] at e; cases e
  rcases h with e | ⟨o, e⟩
  · exact .inl (l.h _ _ nT e)
  · exact .inr ⟨o, l.h _ _ nT e⟩
theorem Le.l (l : Le T F H F' H') (t : ∀ P ∈ T, Odd H P) {a : Addr} {vs : List V} (h : SqL K H a vs) : SqL K H' a vs := by
  rcases h with h | h
  · exact .inl (l.rd t (fun _ z => by cases z) (fun _ z => by cases z) h)
  · exact .inr h
theorem Le.t (l : Le T F H F' H') (t : ∀ P ∈ T, Odd H P) {a : Addr} {vs : List V} (h : SqT K H a vs) : SqT K H' a vs := by
  rcases h with h | h
  · exact .inl (l.rd t (fun _ z => by cases z) (fun _ z => by cases z) h)
  · exact .inr h
mutual
theorem Le.rp (l : Le T F H F' H') (t : ∀ P ∈ T, Odd H P) : ∀ (d : D) {v : V}, Rp K H d v → Rp K H' d v
  | .non, v, h => by simpa [Rp] using h
  | .bl b, v, h => by simpa [Rp] using h
  | .int i, v, h => by simpa [Rp] using h
  | .str s, v, h => by simpa [Rp] using h
  | .ty n, v, h => by simpa [Rp] using h
  | .lst xs, v, h => by
    rw [Rp] at h ⊢
    obtain ⟨a, vs, h1, h2, h3⟩ := h
    exact ⟨a, vs, h1, l.l t h2, Le.rpl l t xs h3⟩
  | .tup xs, v, h => by
    rw [Rp] at h ⊢
    obtain ⟨a, vs, h1, h2, h3⟩ := h
    exact ⟨a, vs, h1, l.t t h2, Le.rpl l t xs h3⟩
  | .ins c ns ds, v, h => by
    rw [Rp] at h ⊢
    obtain ⟨a, dx, vs, h1, h2, h3, h4⟩ := h
    refine ⟨a, dx, vs, h1, l.h _ _ (fun m => ?_) h2, h3, Le.rpl l t ds h4⟩
    rcases t a m with ⟨ps, q⟩ | ⟨ps, q⟩ <;> (rw [q] at h2; cases h2)
  | .exn c ns ds, v, h => by
    rw [Rp] at h ⊢
    have nt : ∀ {b : Addr} {o : HO}, H b = some o → ((∀ ps, o ≠ .tbl ps) ∧ ∀ ps, o ≠ .dT ps) → b ∉ T := fun {b o} e ne m => by
      rcases t b m with ⟨ps, q⟩ | ⟨ps, q⟩
      · rw [q] at e
        exact ne.1 ps (Option.some.inj e).symm
      · rw [q] at e
        exact ne.2 ps (Option.some.inj e).symm
    obtain ⟨a, d, h1, h2, h3⟩ := h
    refine ⟨a, d, h1, l.h _ _ (nt h2 ⟨fun _ z => by (cases z), fun _ z => by (cases z)⟩) h2, h3.imp id fun ⟨dd, vs, k0, k1, k2, k3, k4⟩ => ⟨dd, vs, k0, k1, l.h _ _ (nt k2 ⟨fun _ z => by (cases z), fun _ z => by (cases z)⟩) k2, k3, Le.rpl l t ds k4⟩⟩
  | .emp, v, h => by
    rw [Rp] at h ⊢
    obtain ⟨a, h1, h2⟩ := h
    refine ⟨a, h1, l.h _ _ (fun m => ?_) h2⟩
    rcases t a m with ⟨ps, q⟩ | ⟨ps, q⟩ <;> (rw [q] at h2; cases h2)
  | .cls c, v, h => by simpa [Rp] using h
  | .slf a c ns ds, v, h => by
    rw [Rp] at h ⊢
    obtain ⟨h1, dx, vs, h2, h3, h4⟩ := h
    refine ⟨h1, dx, vs, l.h _ _ (fun m => ?_) h2, h3, Le.rpl l t ds h4⟩
    rcases t a m with ⟨ps, q⟩ | ⟨ps, q⟩ <;> (rw [q] at h2; cases h2)
  | .dct ks ds, v, h => by
    rw [Rp] at h ⊢
    obtain ⟨a, od, vs, h1, h2, h3, h4⟩ := h
    refine ⟨a, od, vs, h1, l.h _ _ (fun m => ?_) h2, h3, Le.rpl l t ds h4⟩
    rcases t a m with ⟨ps, q⟩ | ⟨ps, q⟩ <;> (rw [q] at h2; cases h2)
theorem Le.rpl (l : Le T F H F' H') (t : ∀ P ∈ T, Odd H P) : ∀ (ds : List D) {vs : List V}, RpL K H ds vs → RpL K H' ds vs
  | [], vs, h => by simpa [RpL] using h
  | d :: ds, vs, h => by
    rw [RpL] at h ⊢
    obtain ⟨v, r, h1, h2, h3⟩ := h
    exact ⟨v, r, h1, Le.rp l t d h2, Le.rpl l t ds h3⟩
end
end
end Fw
namespace Fw
open PySem PySem.Spec PyProof.Rows L2
/-- what an expression gives: frozen; of the callers; a new list; a list of one's own that may change -/
inductive R where
  | val (d : D) | brw (d : D) | new (xs : List D) | bor (xs : List D)
def R.dat : R → D
  | .val d => d
  | .brw d => d
  | .new xs => .lst xs
  | .bor xs => .lst xs
/-- a new list kept as it is -/
def R.fz : R → R
  | .new xs => .val (.lst xs)
  | r => r
theorem R.fz_dat (r : R) : r.fz.dat = r.dat := by cases r <;> rfl
inductive O (α : Type) where
  | ok (a : α) | exc (c : Addr) (fs : Option (List Str × List D)) | no
def O.bind {α β : Type} (o : O α) (f : α → O β) : O β := match o with
  | .ok a => f a
  | .exc c fs => .exc c fs
  | .no => .no
def O.of {α : Type} : Option α → O α
  | some a => .ok a
  | none => .no
@[simp] theorem O.bind_ok {α β : Type} (a : α) (f : α → O β) : (O.ok a).bind f = f a := rfl
@[simp] theorem O.bind_exc {α β : Type} (c) (fs) (f : α → O β) : (O.exc c fs : O α).bind f = .exc c fs := rfl
@[simp] theorem O.bind_no {α β : Type} (f : α → O β) : (O.no : O α).bind f = .no := rfl
@[simp] theorem O.of_some {α : Type} (a : α) : O.of (some a) = .ok a := rfl
@[simp] theorem O.of_none {α : Type} : O.of (none : Option α) = .no := rfl
inductive Sl where
  | no | val (d : D) | brw (d : D) | own (xs : List D) | own2 (xss : List (List D)) | odc (ks : List DK) (ds : List D)
  deriving Inhabited
abbrev Env := List Sl
theorem refs_inj : ∀ {ps qs : List Addr}, ps.map V.ref = qs.map V.ref → ps = qs
  | [], [], _ => rfl
  | [], q :: qs, h => by cases h
  | p :: ps, [], h => by cases h
  | p :: ps, q :: qs, h => by
    rw [List.map_cons, List.map_cons] at h
    injection h with h1 h2
    cases h1
    rw [refs_inj h2]
/-- what may be read at H0 may be read at H -/
structure Up (K : PySem.W.Frag) (H0 H : Hp) : Prop where
  rp : ∀ {d : D} {v : V}, Rp K H0 d v → Rp K H d v
  l : ∀ {p : Addr} {vs : List V}, SqL K H0 p vs → SqL K H p vs
  t : ∀ {p : Addr} {vs : List V}, SqT K H0 p vs → SqT K H p vs
section
variable (K : PySem.W.Frag) (T : Tb)
/-- a new list of new lists -/
def Own2 (H0 F H : Hp) (p : Addr) (ps : List Addr) (xss : List (List D)) : Prop := H0 p = none ∧ F p = none ∧ p ∉ T ∧ H p = some (.lst (ps.map V.ref)) ∧ p ∉ ps ∧ ps.Nodup ∧ ps.length = xss.length ∧
  ∀ (k : Nat) (q : Addr), ps[k]? = some q → H0 q = none ∧ F q = none ∧ q ∉ T ∧ ∃ (vs : List V) (xs : List D), xss[k]? = some xs ∧ H q = some (.lst vs) ∧ RpL K F xs vs
/-- dicts of one's own -/
def DicOk (H0 F H : Hp) (σ : L2.St) (es : Env) : Prop :=
  (∀ (i : Nat) ks ds, es[i]? = some (.odc ks ds) → ∃ p vs, σ[i]? = some (some (V.ref p)) ∧ H0 p = none ∧ F p = none ∧ p ∉ T ∧ H p = some (.dK ((ks.map kyOf).zip vs)) ∧ ks.length = ds.length ∧ RpL K F ds vs) ∧
  ∀ (i j : Nat) ks ds ls fs p, es[i]? = some (.odc ks ds) → es[j]? = some (.odc ls fs) → σ[i]? = some (some (V.ref p)) → σ[j]? = some (some (V.ref p)) → i = j
structure EnvOk (H0 F H : Hp) (σ : L2.St) (es : Env) : Prop where
  len : σ.length = es.length
  val : ∀ (i : Nat) d, es[i]? = some (.val d) → ∃ v, σ[i]? = some (some v) ∧ Rp K F d v
  brw : ∀ (i : Nat) d, es[i]? = some (.brw d) → ∃ v, σ[i]? = some (some v) ∧ Rp K H0 d v
  own : ∀ (i : Nat) xs, es[i]? = some (.own xs) → ∃ p vs, σ[i]? = some (some (V.ref p)) ∧ H0 p = none ∧ F p = none ∧ p ∉ T ∧ H p = some (.lst vs) ∧ RpL K F xs vs
  uni : ∀ (i j : Nat) xs ys p, es[i]? = some (.own xs) → es[j]? = some (.own ys) → σ[i]? = some (some (V.ref p)) → σ[j]? = some (some (V.ref p)) → i = j
  two : ∀ (i : Nat) xss, es[i]? = some (.own2 xss) → ∃ p ps, σ[i]? = some (some (V.ref p)) ∧ Own2 K T H0 F H p ps xss ∧ (∀ (j : Nat) xs q, es[j]? = some (.own xs) → σ[j]? = some (some (V.ref q)) → q ≠ p ∧ q ∉ ps) ∧ ∀ (j : Nat) yss, es[j]? = some (.own2 yss) → j = i
  dic : DicOk K T H0 F H σ es
/-- from the entry (F0, H0) to (F, H), the slots as the data says -/
structure StOk (F0 H0 F H : Hp) (σ : L2.St) (es : Env) : Prop where
  ok0 : Ok T F0 H0
  le : Le T F0 H0 F H
  env : EnvOk K T H0 F H σ es
def Rr (H0 H F' H' : Hp) (v : V) : R → Prop
  | .val d => Rp K F' d v
  | .brw d => Rp K H0 d v
  | .new xs => ∃ p vs, v = .ref p ∧ H p = none ∧ F' p = none ∧ p ∉ T ∧ H' p = some (.lst vs) ∧ RpL K F' xs vs
  | .bor xs => ∃ p vs, v = .ref p ∧ F' p = none ∧ p ∉ T ∧ H' p = some (.lst vs) ∧ RpL K F' xs vs
/-- the same, a new list being frozen already -/
def Rq (H0 F' H' : Hp) (v : V) : R → Prop
  | .val d => Rp K F' d v
  | .brw d => Rp K H0 d v
  | .new xs => False
  | .bor xs => ∃ p vs, v = .ref p ∧ F' p = none ∧ p ∉ T ∧ H' p = some (.lst vs) ∧ RpL K F' xs vs
def RqL (H0 F' H' : Hp) : List R → List V → Prop
  | [], vs => vs = []
  | r :: rs, vs => ∃ v t, vs = v :: t ∧ Rq K T H0 F' H' v r ∧ RqL H0 F' H' rs t
/-- an exception by its data -/
def XOk (H : Hp) (c : Addr) (fs : Option (List Str × List D)) (cls : Value) (d : Option Addr) : Prop :=
  cls = .ref c ∧ match fs with
    | none => d = none
    | some (ns, ds) => ∃ dd vs, d = some dd ∧ H dd = some (.xd (ns.zip vs)) ∧ ns.length = ds.length ∧ ds.all flat = true ∧ RpL K H ds vs
end
section
variable {K : PySem.W.Frag} {T : Tb} {F0 H0 F H F' H' F'' H'' : Hp} {σ : L2.St} {es : Env} {v : V} {r : R}
theorem DicOk.of {σ' : L2.St} {es' : Env} (d : DicOk K T H0 F H σ es) (hs : ∀ (i : Nat) ks ds, es'[i]? = some (.odc ks ds) → es[i]? = some (.odc ks ds) ∧ σ'[i]? = σ[i]?) (sb : Sub F F')
    (hF : ∀ p us, H p = some (.dK us) → F p = none → p ∉ T → F' p = none) (hH : ∀ p us, H p = some (.dK us) → F p = none → p ∉ T → H' p = some (.dK us)) : DicOk K T H0 F' H' σ' es' := by
  refine ⟨fun i ks ds e => ?_, fun i j ks ds ls fs p e1 e2 h1 h2 => ?_⟩
  · obtain ⟨e1, e2⟩ := hs i ks ds e
    obtain ⟨p, vs, g1, g2, g3, g4, g5, g6, g7⟩ := d.1 i ks ds e1
    exact ⟨p, vs, by rw [e2]; exact g1, g2, hF p _ g5 g3 g4, g4, hH p _ g5 g3 g4, g6, g7.mono sb⟩
  · obtain ⟨a1, a2⟩ := hs i ks ds e1
    obtain ⟨b1, b2⟩ := hs j ls fs e2
    rw [a2] at h1
    rw [b2] at h2
    exact d.2 i j ks ds ls fs p a1 b1 h1 h2
theorem StOk.ok (h : StOk K T F0 H0 F H σ es) : Ok T F H := h.le.ok
theorem Own2.step {p : Addr} {ps : List Addr} {xss : List (List D)} (o : Own2 K T H0 F H p ps xss) (l : Le T F H F' H') : Own2 K T H0 F' H' p ps xss := by
  obtain ⟨h1, h2, h3, h4, h5, h6, h7, h8⟩ := o
  refine ⟨h1, l.n p h2 (by rw [h4]; simp), h3, l.h p _ h3 h4, h5, h6, h7, fun k q hk => ?_⟩
  obtain ⟨g1, g2, g3, vs, xs, g4, g5, g6⟩ := h8 k q hk
  exact ⟨g1, l.n q g2 (by rw [g5]; simp), g3, vs, xs, g4, l.h q _ g3 g5, g6.mono l.f⟩
theorem StOk.step (h : StOk K T F0 H0 F H σ es) (l : Le T F H F' H') : StOk K T F0 H0 F' H' σ es where
  ok0 := h.ok0
  le := h.le.trans l
  env := {
    len := h.env.len
    val := fun i d e => by
      obtain ⟨v, h1, h2⟩ := h.env.val i d e
      exact ⟨v, h1, h2.mono l.f⟩
    brw := h.env.brw
    own := fun i xs e => by
      obtain ⟨p, vs, h1, h2, h3, h4, h5, h6⟩ := h.env.own i xs e
      exact ⟨p, vs, h1, h2, l.n p h3 (by rw [h5]; simp), h4, l.h p _ h4 h5, h6.mono l.f⟩
    uni := h.env.uni
    two := fun i xss e => by
      obtain ⟨p, ps, h1, h2, h3, h4⟩ := h.env.two i xss e
      exact ⟨p, ps, h1, h2.step l, h3, h4⟩
    dic := h.env.dic.of (fun _ _ _ e => ⟨e, rfl⟩) l.f (fun p us e f _ => l.n p f (by rw [e]; simp)) (fun p us e _ t => l.h p _ t e) }
theorem StOk.up (h : StOk K T F0 H0 F H σ es) : Up K H0 H := ⟨fun q => h.le.rp h.ok0.odd _ q, fun q => h.le.l h.ok0.odd q, fun q => h.le.t h.ok0.odd q⟩
theorem Rr.step (q : Rr K T H0 H F' H' v r) (l : Le T F' H' F'' H'') : Rr K T H0 H F'' H'' v r := by
  cases r with
  | val d => exact q.mono l.f
  | brw d => exact q
  | new xs =>
    obtain ⟨p, vs, h1, h2, h3, h4, h5, h6⟩ := q
    exact ⟨p, vs, h1, h2, l.n p h3 (by rw [h5]; simp), h4, l.h p _ h4 h5, h6.mono l.f⟩
  | bor xs =>
    obtain ⟨p, vs, h1, h3, h4, h5, h6⟩ := q
    exact ⟨p, vs, h1, l.n p h3 (by rw [h5]; simp), h4, l.h p _ h4 h5, h6.mono l.f⟩
theorem Rq.step (q : Rq K T H0 F' H' v r) (l : Le T F' H' F'' H'') : Rq K T H0 F'' H'' v r := by
  cases r with
  | val d => exact q.mono l.f
  | brw d => exact q
  | new xs => exact q.elim
  | bor xs =>
    obtain ⟨p, vs, h1, h3, h4, h5, h6⟩ := q
    exact ⟨p, vs, h1, l.n p h3 (by rw [h5]; simp), h4, l.h p _ h4 h5, h6.mono l.f⟩
theorem RqL.step : ∀ {rs : List R} {vs : List V}, RqL K T H0 F' H' rs vs → Le T F' H' F'' H'' → RqL K T H0 F'' H'' rs vs
  | [], vs, h, l => h
  | r :: rs, vs, h, l => by
    obtain ⟨v, t, h1, h2, h3⟩ := h
    exact ⟨v, t, h1, h2.step l, RqL.step h3 l⟩
/-- a new list is frozen -/
theorem Rr.fz (q : Rr K T H0 H F' H' v r) (l : Le T F H F' H') : ∃ F2, Le T F H F2 H' ∧ Sub F' F2 ∧ Rq K T H0 F2 H' v r.fz := by
  cases r with
  | val d => exact ⟨F', l, Sub.refl _, q⟩
  | brw d => exact ⟨F', l, Sub.refl _, q⟩
  | bor xs => exact ⟨F', l, Sub.refl _, q⟩
  | new xs =>
    obtain ⟨p, vs, h1, h2, h3, h4, h5, h6⟩ := q
    refine ⟨upd F' p (.lst vs), l.frz h2 h5 h3 h4, Sub.new h3, ?_⟩
    show Rp K _ (.lst xs) v
    rw [Rp]
    exact ⟨p, vs, h1, .inl (.inl upd_same), h6.mono (Sub.new h3)⟩
theorem Rq.toH (q : Rq K T H0 F' H' v r) (ok : Ok T F' H') (up : Up K H0 H') : Rp K H' r.dat v := by
  cases r with
  | val d => exact q.mono ok.sub
  | brw d => exact up.rp q
  | new xs => exact q.elim
  | bor xs =>
    obtain ⟨p, vs, h1, h3, h4, h5, h6⟩ := q
    show Rp K _ (.lst xs) v
    rw [Rp]
    exact ⟨p, vs, h1, .inl (.inl h5), h6.mono ok.sub⟩
theorem RqL.toH (ok : Ok T F' H') (up : Up K H0 H') : ∀ {rs : List R} {vs : List V}, RqL K T H0 F' H' rs vs → RpL K H' (rs.map R.dat) vs
  | [], vs, h => by cases h; exact RpL.nil
  | r :: rs, vs, h => by
    obtain ⟨v, t, h1, h2, h3⟩ := h
    subst h1
    exact RpL.cons (h2.toH ok up) (RqL.toH ok up h3)
/-- of the callers: what holds no object is kept -/
def nrm (d : D) : R := if flat d then .val d else .brw d
theorem rr_nrm {H1 F1 H2 : Hp} {d : D} {v : V} (h : Rp K H0 d v) : Rr K T H0 H1 F1 H2 v (nrm d) := by
  unfold nrm
  by_cases f : flat d = true
  · rw [if_pos f]; exact Rp.flat f h
  · rw [if_neg f]; exact h
theorem rq_nrm {F1 H2 : Hp} {d : D} {v : V} (h : Rp K H0 d v) : Rq K T H0 F1 H2 v (nrm d) := by
  unfold nrm
  by_cases f : flat d = true
  · rw [if_pos f]; exact Rp.flat f h
  · rw [if_neg f]; exact h
/-- what can be kept -/
def R.sto : R → Option D
  | .val d => some d
  | .brw d => if flat d then some d else none
  | .new xs => some (.lst xs)
  | .bor _ => none
theorem Rq.sto (q : Rq K T H0 F' H' v r) {d : D} (e : r.sto = some d) : Rp K F' d v := by
  cases r with
  | val d' => cases e; exact q
  | brw d' =>
    simp only [R.sto] at e
    split at e
    · rename_i f
      cases e
      exact Rp.flat f q
    · cases e
  | new xs => exact q.elim
  | bor xs => cases e
/-- the items of a list or a tuple, to be kept -/
def R.itm : R → Option (List D)
  | .val (.lst xs) => some xs
  | .val (.tup xs) => some xs
  | .bor xs => some xs
  | .brw (.lst xs) => if xs.all flat then some xs else none
  | .brw (.tup xs) => if xs.all flat then some xs else none
  | _ => none
theorem Rq.itm (q : Rq K T H0 F' H' v r) (ok : Ok T F' H') (up : Up K H0 H') {xs : List D} (e : r.itm = some xs) :
    ∃ p vs, v = .ref p ∧ (SqL K H' p vs ∨ SqT K H' p vs) ∧ RpL K F' xs vs := by
  cases r with
  | val d =>
    cases d <;> simp only [R.itm] at e <;> try cases e
    · rw [Rq, Rp] at q
      obtain ⟨a, vs, h1, h2, h3⟩ := q
      exact ⟨a, vs, h1, .inl (ok.sub.l h2), h3⟩
    · rw [Rq, Rp] at q
      obtain ⟨a, vs, h1, h2, h3⟩ := q
      exact ⟨a, vs, h1, .inr (ok.sub.t h2), h3⟩
  | brw d =>
    cases d <;> simp only [R.itm] at e <;> try cases e
    · split at e
      · rename_i f
        cases e
        have z := up.rp q
        rw [Rp] at z
        obtain ⟨a, vs, h1, h2, h3⟩ := z
        exact ⟨a, vs, h1, .inl h2, h3.flat f⟩
      · cases e
    · split at e
      · rename_i f
        cases e
        have z := up.rp q
        rw [Rp] at z
        obtain ⟨a, vs, h1, h2, h3⟩ := z
        exact ⟨a, vs, h1, .inr h2, h3.flat f⟩
      · cases e
  | new xs => exact q.elim
  | bor xs =>
    simp only [R.itm] at e
    cases e
    obtain ⟨p, vs, h1, h3, h4, h5, h6⟩ := q
    exact ⟨p, vs, h1, .inl (.inl (.inl h5)), h6⟩
end
/-! ### readings -/
section
variable (K : PySem.W.Frag) (T : Tb) (W : WX)
/-- what follows an outcome: rel, how the value is the data's -/
def PO {α β : Type} (F H : Hp) (σ : L2.St) (rel : Hp → Hp → β → α → Prop) (Q : β → Hp → Prop) : O α → Prop
  | .ok r => ∀ v F' H', Le T F H F' H' → rel F' H' v r → Q v H'
  | .exc c fs => ∀ cls d F' H', Le T F H F' H' → XOk K F' c fs cls d → W cls d σ H'
  | .no => False
def tD (f : Env → O R) : TE := fun σ H Q => ∃ F0 H0 F es, StOk K T F0 H0 F H σ es ∧ PO K T W F H σ (Rr K T H0 H) Q (f es)
def tT (f : Env → O Bool) : TT := fun σ H Q => ∃ F0 H0 F es, StOk K T F0 H0 F H σ es ∧ PO K T W F H σ (fun _ _ b a => b = a) Q (f es)
def tDA (f : Env → O (List R)) : TA := fun σ H Q => ∃ F0 H0 F es, StOk K T F0 H0 F H σ es ∧ PO K T W F H σ (fun F' H' vs rs => RqL K T H0 F' H' rs vs) Q (f es)
end
section
variable {K : PySem.W.Frag} {T : Tb} {W : WX} {F0 H0 F H F1 H1 : Hp} {σ : L2.St} {es : Env}
/-- new since H1 is new since H -/
theorem Rr.back {F' H' : Hp} {v : V} {r : R} (l : Le T F H F1 H1) (q : Rr K T H0 H1 F' H' v r) : Rr K T H0 H F' H' v r := by
  cases r with
  | val d => exact q
  | brw d => exact q
  | bor xs => exact q
  | new xs =>
    obtain ⟨p, vs, h1, h2, h3, h4, h5, h6⟩ := q
    refine ⟨p, vs, h1, ?_, h3, h4, h5, h6⟩
    cases e : H p with
    | none => rfl
    | some o => rw [l.h p o h4 e] at h2; cases h2
theorem PO.step {α β : Type} {rel rel' : Hp → Hp → β → α → Prop} {Q : β → Hp → Prop} {o : O α} (h : PO K T W F H σ rel Q o) (l : Le T F H F1 H1) (hr : ∀ F' H' v a, rel' F' H' v a → rel F' H' v a) : PO K T W F1 H1 σ rel' Q o := by
  cases o with
  | ok r => exact fun v F' H' l' q => h v F' H' (l.trans l') (hr _ _ _ _ q)
  | exc c fs => exact fun cls d F' H' l' q => h cls d F' H' (l.trans l') q
  | no => exact h
/-- a value first, then the rest -/
theorem po_seq {α β : Type} {rel rel' : Hp → Hp → β → α → Prop} {Q : β → Hp → Prop} {Q' : VK} {o : O R} {g : R → O α} (st : StOk K T F0 H0 F H σ es) (h : PO K T W F H σ rel Q (o.bind g))
    (hr : ∀ F1 H1, Le T F H F1 H1 → ∀ F' H' v a, rel' F' H' v a → rel F' H' v a)
    (k : ∀ a v F1 H1, o = .ok a → StOk K T F0 H0 F1 H1 σ es → Le T F H F1 H1 → Rq K T H0 F1 H1 v a.fz → PO K T W F1 H1 σ rel' Q (g a) → Q' v H1) : PO K T W F H σ (Rr K T H0 H) Q' o := by
  cases o with
  | ok a =>
    intro v F1 H1 l q
    obtain ⟨F2, l2, _, q2⟩ := q.fz l
    exact k a v F2 H1 rfl (st.step l2) l2 q2 (PO.step h l2 (hr F2 H1 l2))
  | exc c fs => exact h
  | no => exact h
/-- the same where the rest gives a value -/
theorem pr_seq {Q : VK} {Q' : VK} {o : O R} {g : R → O R} (st : StOk K T F0 H0 F H σ es) (h : PO K T W F H σ (Rr K T H0 H) Q (o.bind g))
    (k : ∀ a v F1 H1, o = .ok a → StOk K T F0 H0 F1 H1 σ es → Le T F H F1 H1 → Rq K T H0 F1 H1 v a.fz → PO K T W F1 H1 σ (Rr K T H0 H1) Q (g a) → Q' v H1) : PO K T W F H σ (Rr K T H0 H) Q' o := by
  cases o with
  | ok a =>
    intro v F1 H1 l q
    obtain ⟨F2, l2, _, q2⟩ := q.fz l
    exact k a v F2 H1 rfl (st.step l2) l2 q2 (PO.step h l2 fun _ _ _ _ => Rr.back l2)
  | exc c fs => exact h
  | no => exact h
/-- a test first -/
theorem pt_seq {Q : VK} {Q' : Bool → Hp → Prop} {o : O Bool} {g : Bool → O R} (st : StOk K T F0 H0 F H σ es) (h : PO K T W F H σ (Rr K T H0 H) Q (o.bind g))
    (k : ∀ b F1 H1, o = .ok b → StOk K T F0 H0 F1 H1 σ es → Le T F H F1 H1 → PO K T W F1 H1 σ (Rr K T H0 H1) Q (g b) → Q' b H1) : PO K T W F H σ (fun _ _ b a => b = a) Q' o := by
  cases o with
  | ok a =>
    intro v F1 H1 l q
    subst q
    exact k v F1 H1 rfl (st.step l) l (PO.step h l fun _ _ _ _ => Rr.back l)
  | exc c fs => exact h
  | no => exact h
/-- arguments first -/
theorem pa_seq {Q : VK} {Q' : List V → Hp → Prop} {o : O (List R)} {g : List R → O R} (st : StOk K T F0 H0 F H σ es) (h : PO K T W F H σ (Rr K T H0 H) Q (o.bind g))
    (k : ∀ rs vs F1 H1, o = .ok rs → StOk K T F0 H0 F1 H1 σ es → Le T F H F1 H1 → RqL K T H0 F1 H1 rs vs → PO K T W F1 H1 σ (Rr K T H0 H1) Q (g rs) → Q' vs H1) : PO K T W F H σ (fun F' H' vs rs => RqL K T H0 F' H' rs vs) Q' o := by
  cases o with
  | ok a =>
    intro v F1 H1 l q
    exact k a v F1 H1 rfl (st.step l) l q (PO.step h l fun _ _ _ _ => Rr.back l)
  | exc c fs => exact h
  | no => exact h
theorem StOk.rq (st : StOk K T F0 H0 F H σ es) {v : V} {r : R} (q : Rq K T H0 F H v r) : Rp K H r.dat v := q.toH st.ok st.up
end
/-- the rules' words: an expression is worth f -/
def DE (X : Cx) (T : Tb) (W : WX) (e : Expr) (f : Env → O R) : Prop := PE X e (tD X.K T W f)
def DT (X : Cx) (T : Tb) (W : WX) (e : Expr) (f : Env → O Bool) : Prop := PT X e (tT X.K T W f)
def DW (X : Cx) (T : Tb) (W : WX) (e : Expr) (f : Env → O Bool) : Prop := PW X e (tT X.K T W f)
def DA (X : Cx) (T : Tb) (W : WX) (es : List Expr) (f : Env → O (List R)) : Prop := PA X es (tDA X.K T W f)
theorem pe_weak {X : Cx} {e : Expr} {t t' : TE} (h : PE X e t) (w : ∀ σ H Q, t' σ H Q → t σ H Q) : PE X e t' := ⟨fun pins s σ H Q I q => h.run pins s σ H Q I (w σ H Q q)⟩
theorem pt_weak {X : Cx} {e : Expr} {t t' : TT} (h : PT X e t) (w : ∀ σ H Q, t' σ H Q → t σ H Q) : PT X e t' := ⟨fun pins s σ H Q I q => h.run pins s σ H Q I (w σ H Q q)⟩
theorem pw_weak {X : Cx} {e : Expr} {t t' : TT} (h : PW X e t) (w : ∀ σ H Q, t' σ H Q → t σ H Q) : PW X e t' := ⟨fun whole pins s σ H Q I q => h.run whole pins s σ H Q I (w σ H Q q)⟩
theorem pa_weak {X : Cx} {e : List Expr} {t t' : TA} (h : PA X e t) (w : ∀ σ H Q, t' σ H Q → t σ H Q) : PA X e t' := ⟨fun pos pins s σ H Q I q => h.run pos pins s σ H Q I (w σ H Q q)⟩
theorem ps_weak {X : Cx} {e : Stmt} {t t' : TS} (h : PS X e t) (w : ∀ D σ H, t' D σ H → t D σ H) : PS X e t' := ⟨fun pins s σ H D I q => h.run pins s σ H D I (w D σ H q)⟩
theorem pss_weak {X : Cx} {e : List Stmt} {t t' : TS} (h : PSs X e t) (w : ∀ D σ H, t' D σ H → t D σ H) : PSs X e t' := ⟨fun pins s σ H D I q => h.run pins s σ H D I (w D σ H q)⟩
theorem pi_weak {X : Cx} {tg e : Expr} {t t' : TI} (h : PI X tg e t) (w : ∀ σ H Q, t' σ H Q → t σ H Q) : PI X tg e t' := ⟨fun pins s σ H Q I q => h.run pins s σ H Q I (w σ H Q q)⟩
end Fw
namespace Fw
open PySem PySem.Spec PyProof.Rows L2
section
variable {X : Cx} {T : Tb} {W : WX} {a b c e : Expr} {fa fb fc : Env → O R} {pos : Pos}
/-! ### names, constants -/
def fVar (i : Nat) : Env → O R := fun es => match es[i]? with
  | some (.val d) => .ok (.val d)
  | some (.brw d) => .ok (nrm d)
  | some (.own xs) => .ok (.bor xs)
  | _ => .no
theorem StOk.var {K : PySem.W.Frag} {F0 H0 F H : Hp} {σ : L2.St} {es : Env} (st : StOk K T F0 H0 F H σ es) {i : Nat} {r : R} (h : fVar i es = .ok r) : ∃ v, σ[i]? = some (some v) ∧ Rr K T H0 H F H v r := by
  unfold fVar at h
  split at h
  · rename_i d e
    cases h
    exact st.env.val i d e
  · rename_i d e
    cases h
    obtain ⟨v, h1, h2⟩ := st.env.brw i d e
    exact ⟨v, h1, rr_nrm h2⟩
  · rename_i xs e
    cases h
    obtain ⟨p, vs, h1, h2, h3, h4, h5, h6⟩ := st.env.own i xs e
    exact ⟨.ref p, h1, p, vs, rfl, h3, h4, h5, h6⟩
  · cases h
theorem de_var (i : Nat) {x : Str} {pos : Pos} (hN : X.N[i]? = some x := by rfl) (hv : Vis X.env.scope x := by first | exact Or.inl rfl | exact Or.inr (Or.inl rfl) | exact Or.inr (Or.inr rfl)) (hd : (x == ("__debug__" : Str)) = false := by decide)
    (hcd : (x == ("__classdict__" : Str)) = false := by decide) : DE X T W (.Name x pos) (fVar i) := by
  refine pe_weak (pv i hN hv hd hcd) fun σ H Q ⟨F0, H0, F, es, st, h⟩ => ?_
  cases hf : fVar i es with
  | ok r =>
    rw [hf] at h
    obtain ⟨v, h1, h2⟩ := st.var hf
    exact ⟨v, h1, h v F H (Le.refl st.ok) h2⟩
  | exc c fs =>
    unfold fVar at hf
    split at hf <;> cases hf
  | no => rw [hf] at h; exact h.elim
def fC (d : D) : Env → O R := fun _ => .ok (.val d)
theorem de_c {v : V} {d : D} (h : PE X e (tC v)) (hr : ∀ F, Rp X.K F d v) : DE X T W e (fC d) :=
  pe_weak h fun σ H Q ⟨F0, H0, F, es, st, q⟩ => q v F H (Le.refl st.ok) (hr F)
theorem de_int {i j pos} : DE X T W (.Constant (.int i) j pos) (fC (.int i)) := de_c pe_int fun F => by rw [Rp]
theorem de_bl {b j pos} : DE X T W (.Constant (.bool b) j pos) (fC (.bl b)) := de_c pe_bl fun F => by rw [Rp]
theorem de_non {j pos} : DE X T W (.Constant .none j pos) (fC .non) := de_c pe_non fun F => by rw [Rp]
theorem de_str (s : List Nat) {x j pos} (h : x = tx s := by decide +kernel) : DE X T W (.Constant (.str x) j pos) (fC (.str s)) := de_c pe_str fun F => by rw [Rp, h]
theorem de_glob {x : Str} {v : V} {u : Value} {d : D} {pos : Pos} (hg : Gl X x) (hm : X.mg x = some u) (r : RelV v u) (hr : ∀ F, Rp X.K F d v) (hd : (x == ("__debug__" : Str)) = false := by decide) : DE X T W (.Name x pos) (fC d) := de_c (pe_glob hg hm r hd) hr
/-- a name of the module that holds a text -/
theorem de_gstr (s : List Nat) {x : Str} {pos : Pos} (h : ∃ t, X.mg x = some (.str (tx s) t)) (hg : Gl X x := by rfl) (hd : (x == ("__debug__" : Str)) = false := by decide) : DE X T W (.Name x pos) (fC (.str s)) := by
  obtain ⟨t, hm⟩ := h
  exact de_glob hg hm (v := .str (tx s)) ⟨t, rfl⟩ (fun F => by rw [Rp]) hd
theorem de_gint (i : Int) {x : Str} {pos : Pos} (h : ∃ t, X.mg x = some (.int i t)) (hg : Gl X x := by rfl) (hd : (x == ("__debug__" : Str)) = false := by decide) : DE X T W (.Name x pos) (fC (.int i)) := by
  obtain ⟨t, hm⟩ := h
  exact de_glob hg hm (v := .int i) ⟨t, rfl⟩ (fun F => by rw [Rp]) hd
theorem de_bltn {x : Str} {n : String} {pos : Pos} (hm : X.mg x = none) (hv : bootBuiltins x = some (.type n)) (hg : Gl X x := by rfl) (hn : x ≠ "__name__" := by decide) (hd : (x == ("__debug__" : Str)) = false := by decide) : DE X T W (.Name x pos) (fC (.ty n)) :=
  de_c (pe_bltn hg hm hv (v := .ty n) rfl hn hd) fun F => by rw [Rp]
/-! ### operators -/
def fBin (d : R → R → Option R) (fa fb : Env → O R) : Env → O R := fun es => (fa es).bind fun a => (fb es).bind fun b => O.of (d a.fz b.fz)
def OpD (K : PySem.W.Frag) (T : Tb) (r : R2) (d : R → R → Option R) : Prop :=
  ∀ (H0 F H : Hp) (x y : V) (a b c : R) (Q : VK), Ok T F H → Up K H0 H → Rq K T H0 F H x a → Rq K T H0 F H y b → d a b = some c →
    (∀ v F' H', Le T F H F' H' → Rr K T H0 H F' H' v c → Q v H') → r x y H Q
/-- the reading of two operands -/
theorem bin_weak {K : PySem.W.Frag} {r : R2} {d : R → R → Option R} (hd : OpD K T r d) {σ : L2.St} {H : Hp} {Q : VK} (h : tD K T W (fBin d fa fb) σ H Q) : tOp r (tD K T W fa) (tD K T W fb) σ H Q := by
  obtain ⟨F0, H0, F, es, st, h⟩ := h
  refine ⟨F0, H0, F, es, st, pr_seq st h fun a x F1 H1 _ st1 l1 q1 h1 => ?_⟩
  refine ⟨F0, H0, F1, es, st1, pr_seq st1 h1 fun b y F2 H2 _ st2 l2 q2 h2 => ?_⟩
  cases hc : d a.fz b.fz with
  | none => rw [hc] at h2; exact h2.elim
  | some c =>
    rw [hc] at h2
    exact hd H0 F2 H2 x y _ _ c Q st2.ok st2.up (q1.step l2) q2 hc h2
theorem de_bin {op : Operator} {r : R2} {d : R → R → Option R} (ho : OpR X (binaryOp op) r) (hd : OpD X.K T r d) (ha : DE X T W a fa) (hb : DE X T W b fb) : DE X T W (.BinOp a op b pos) (fBin d fa fb) :=
  pe_weak (pe_op ho ha hb) fun σ H Q h => bin_weak hd h
theorem de_cmp {op : CmpOp} {r : R2} {d : R → R → Option R} (ho : OpR X (compareOp op) r) (hd : OpD X.K T r d) (ha : DE X T W a fa) (hb : DE X T W b fb) (hm : behindInMarks op b = false := by first | exact nomark _ | rfl | with_unfolding_all rfl) : DE X T W (.Compare a [op] [b] pos) (fBin d fa fb) :=
  pe_weak (pe_cmpR ho ha hb hm) fun σ H Q h => bin_weak hd h
theorem de_ix {r : R2} {d : R → R → Option R} (ho : IxR X r) (hd : OpD X.K T r d) (ha : DE X T W a fa) (hb : DE X T W b fb) (hs : PlainIx b := by exact fun _ _ => rfl) : DE X T W (.Subscript a b pos) (fBin d fa fb) :=
  pe_weak (pe_ix ho ha hb hs) fun σ H Q h => bin_weak hd h
/-! ### tests -/
def R.tst : R → O Bool
  | .val (.bl b) => .ok b
  | _ => .no
def fTest (f : Env → O R) : Env → O Bool := fun es => (f es).bind fun r => r.fz.tst
theorem test_weak {K : PySem.W.Frag} {f : Env → O R} {σ : L2.St} {H : Hp} {Q : Bool → Hp → Prop} (h : tT K T W (fTest f) σ H Q) : tTest (tD K T W f) σ H Q := by
  obtain ⟨F0, H0, F, es, st, h⟩ := h
  refine ⟨F0, H0, F, es, st, ?_⟩
  refine po_seq (rel' := fun _ _ b a => b = a) st h (fun _ _ _ _ _ _ _ z => z) fun a v F1 H1 _ st1 l1 q1 h1 => ?_
  cases ha : a.fz.tst with
  | no => rw [ha] at h1; exact h1.elim
  | exc c fs =>
    unfold R.tst at ha
    split at ha <;> cases ha
  | ok k =>
    rw [ha] at h1
    refine ⟨k, ?_, h1 k F1 H1 (Le.refl st1.ok) rfl⟩
    unfold R.tst at ha
    split at ha
    · rename_i e
      cases ha
      rw [e, Rq, Rp] at q1
      exact q1
    · cases ha
theorem dt_cmp {op : CmpOp} {r : R2} {d : R → R → Option R} (ho : OpR X (compareOp op) r) (hd : OpD X.K T r d) (ha : DE X T W a fa) (hb : DE X T W b fb) (hm : behindInMarks op b = false := by first | exact nomark _ | rfl | with_unfolding_all rfl) : DT X T W (.Compare a [op] [b] pos) (fTest (fBin d fa fb)) :=
  pt_weak (pt_cmpR ho ha hb hm) fun σ H Q h => by
    have q := test_weak (K := X.K) h
    unfold tTest at q ⊢
    exact bin_weak hd q
theorem dt_val {f : Env → O R} (h : DE X T W e f) (he : ∀ whole, isTrue e X.env whole = (do let v ← whole; standAt e.pos; holding [v] (truthy v)) := by intro _; rfl) : DT X T W e (fTest f) :=
  pt_weak (pt_val h he) fun σ H Q q => test_weak q
def fNot (f : Env → O Bool) : Env → O Bool := fun es => (f es).bind fun b => .ok (!b)
theorem dt_not {f : Env → O Bool} (h : DT X T W a f) : DT X T W (.UnaryOp .Not a pos) (fNot f) :=
  pt_weak (pt_not h) fun σ H Q ⟨F0, H0, F, es, st, q⟩ => ⟨F0, H0, F, es, st, by
    unfold fNot at q
    cases hf : f es with
    | ok b =>
      rw [hf] at q
      exact fun v F' H' l z => by
        subst z
        exact q _ F' H' l rfl
    | exc c fs => rw [hf] at q; exact q
    | no => rw [hf] at q; exact q⟩
def fAnd (f g : Env → O Bool) : Env → O Bool := fun es => (f es).bind fun b => if b then g es else .ok false
def fOr (f g : Env → O Bool) : Env → O Bool := fun es => (f es).bind fun b => if b then .ok true else g es
variable {f g : Env → O Bool} {rest : List Expr}
theorem and_weak {K : PySem.W.Frag} {σ : L2.St} {H : Hp} {Q : Bool → Hp → Prop} (q : tT K T W (fAnd f g) σ H Q) : tAnd (tT K T W f) (tT K T W g) σ H Q := by
  obtain ⟨F0, H0, F, es, st, q⟩ := q
  refine ⟨F0, H0, F, es, st, ?_⟩
  unfold fAnd at q
  cases hf : f es with
  | ok b =>
    rw [hf] at q
    intro v F' H' l z
    subst z
    cases v with
    | true => exact ⟨F0, H0, F', es, st.step l, PO.step q l fun _ _ _ _ z => z⟩
    | false => exact q false F' H' l rfl
  | exc c fs => rw [hf] at q; exact q
  | no => rw [hf] at q; exact q
theorem or_weak {K : PySem.W.Frag} {σ : L2.St} {H : Hp} {Q : Bool → Hp → Prop} (q : tT K T W (fOr f g) σ H Q) : tOr (tT K T W f) (tT K T W g) σ H Q := by
  obtain ⟨F0, H0, F, es, st, q⟩ := q
  refine ⟨F0, H0, F, es, st, ?_⟩
  unfold fOr at q
  cases hf : f es with
  | ok b =>
    rw [hf] at q
    intro v F' H' l z
    subst z
    cases v with
    | true => exact q true F' H' l rfl
    | false => exact ⟨F0, H0, F', es, st.step l, PO.step q l fun _ _ _ _ z => z⟩
  | exc c fs => rw [hf] at q; exact q
  | no => rw [hf] at q; exact q
theorem dw_and1 (h : DT X T W a f) : DW X T W (.BoolOp .And [a] pos) f := pw_and1 h
theorem dw_or1 (h : DT X T W a f) : DW X T W (.BoolOp .Or [a] pos) f := pw_or1 h
theorem dw_and (h : DT X T W a f) (r : DW X T W (.BoolOp .And (b :: rest) pos) g) : DW X T W (.BoolOp .And (a :: b :: rest) pos) (fAnd f g) := pw_weak (pw_and h r) fun σ H Q q => and_weak q
theorem dw_or (h : DT X T W a f) (r : DW X T W (.BoolOp .Or (b :: rest) pos) g) : DW X T W (.BoolOp .Or (a :: b :: rest) pos) (fOr f g) := pw_weak (pw_or h r) fun σ H Q q => or_weak q
theorem dt_w (h : DW X T W e f) : DT X T W e f := PW.pt h
/-! ### and, or, not as values -/
def R.bv : R → O Bool := R.tst
def fAndV (fa fb : Env → O R) : Env → O R := fun es => (fa es).bind fun r => r.fz.tst.bind fun b => if b then fb es else .ok (.val (.bl false))
def fOrV (fa fb : Env → O R) : Env → O R := fun es => (fa es).bind fun r => r.fz.tst.bind fun b => if b then .ok (.val (.bl true)) else fb es
def fNotV (fa : Env → O R) : Env → O R := fun es => (fa es).bind fun r => r.fz.tst.bind fun b => .ok (.val (.bl (!b)))
theorem tst_ok {K : PySem.W.Frag} {H0 F H : Hp} {v : V} {r : R} {k : Bool} (q : Rq K T H0 F H v r) (h : r.tst = .ok k) : v = .bl k := by
  unfold R.tst at h
  split at h
  · cases h; rw [Rq, Rp] at q; exact q
  · cases h
theorem tst_exc {r : R} {c fs} (h : r.tst = .exc c fs) : False := by
  unfold R.tst at h
  split at h <;> cases h
theorem de_one {op} {f : Env → O R} (h : DE X T W a f) : DE X T W (.BoolOp op [a] pos) f := pe_one h
theorem de_and (ha : DE X T W a fa) (hb : DE X T W (.BoolOp .And (b :: rest) pos) fb) : DE X T W (.BoolOp .And (a :: b :: rest) pos) (fAndV fa fb) :=
  pe_weak (pe_and ha hb) fun σ H Q ⟨F0, H0, F, es, st, h⟩ => ⟨F0, H0, F, es, st, pr_seq st h fun a x F1 H1 _ st1 l1 q1 h1 => by
    cases hk : a.fz.tst with
    | ok k =>
      rw [hk] at h1
      refine ⟨k, tst_ok q1 hk, ?_⟩
      cases k with
      | true => exact ⟨F0, H0, F1, es, st1, h1⟩
      | false => exact h1 _ F1 H1 (Le.refl st1.ok) (by rw [Rr, Rp])
    | exc c fs => exact (tst_exc hk).elim
    | no => rw [hk] at h1; exact h1.elim⟩
theorem de_or (ha : DE X T W a fa) (hb : DE X T W (.BoolOp .Or (b :: rest) pos) fb) : DE X T W (.BoolOp .Or (a :: b :: rest) pos) (fOrV fa fb) :=
  pe_weak (pe_or ha hb) fun σ H Q ⟨F0, H0, F, es, st, h⟩ => ⟨F0, H0, F, es, st, pr_seq st h fun a x F1 H1 _ st1 l1 q1 h1 => by
    cases hk : a.fz.tst with
    | ok k =>
      rw [hk] at h1
      refine ⟨k, tst_ok q1 hk, ?_⟩
      cases k with
      | true => exact h1 _ F1 H1 (Le.refl st1.ok) (by rw [Rr, Rp])
      | false => exact ⟨F0, H0, F1, es, st1, h1⟩
    | exc c fs => exact (tst_exc hk).elim
    | no => rw [hk] at h1; exact h1.elim⟩
theorem de_not (ha : DE X T W a fa) : DE X T W (.UnaryOp .Not a pos) (fNotV fa) :=
  pe_weak (pe_not ha) fun σ H Q ⟨F0, H0, F, es, st, h⟩ => ⟨F0, H0, F, es, st, pr_seq st h fun a x F1 H1 _ st1 l1 q1 h1 => by
    cases hk : a.fz.tst with
    | ok k =>
      rw [hk] at h1
      exact ⟨k, tst_ok q1 hk, h1 _ F1 H1 (Le.refl st1.ok) (by rw [Rr, Rp])⟩
    | exc c fs => exact (tst_exc hk).elim
    | no => rw [hk] at h1; exact h1.elim⟩
/-! ### a if t else b -/
def fIf (t : Env → O Bool) (fa fb : Env → O R) : Env → O R := fun es => (t es).bind fun c => if c then fa es else fb es
theorem de_if (ht : DT X T W c f) (ha : DE X T W a fa) (hb : DE X T W b fb) : DE X T W (.IfExp c a b pos) (fIf f fa fb) :=
  pe_weak (pe_ifExp ht ha hb) fun σ H Q ⟨F0, H0, F, es, st, h⟩ => ⟨F0, H0, F, es, st, pt_seq st h fun k F1 H1 _ st1 l1 h1 => by
    cases k with
    | true => exact ⟨F0, H0, F1, es, st1, h1⟩
    | false => exact ⟨F0, H0, F1, es, st1, h1⟩⟩
/-! ### unary minus -/
def fNeg (fa : Env → O R) : Env → O R := fun es => (fa es).bind fun r => match r with
  | .val (.int i) => .ok (.val (.int (-i)))
  | _ => .no
theorem de_neg (ha : DE X T W a fa) : DE X T W (.UnaryOp .USub a pos) (fNeg fa) :=
  pe_weak (pe_un un_neg ha) fun σ H Q ⟨F0, H0, F, es, st, h⟩ => ⟨F0, H0, F, es, st, pr_seq st h fun r x F1 H1 _ st1 l1 q1 h1 => by
    split at h1
    · rename_i i _
      have q2 : Rq X.K T H0 F1 H1 x (.val (.int i)) := q1
      rw [Rq, Rp] at q2
      exact ⟨i, q2, h1 _ F1 H1 (Le.refl st1.ok) (by rw [Rr, Rp])⟩
    · exact h1.elim⟩
/-! ### displays -/
def fNil : Env → O (List R) := fun _ => .ok []
def fCons (fa : Env → O R) (fr : Env → O (List R)) : Env → O (List R) := fun es => (fa es).bind fun a => (fr es).bind fun r => .ok (a.fz :: r)
theorem da_nil : DA X T W [] fNil := pa_weak pa_nil fun σ H Q ⟨F0, H0, F, es, st, h⟩ => h [] F H (Le.refl st.ok) rfl
theorem da_cons {e : Expr} {es : List Expr} {fr : Env → O (List R)} (ha : DE X T W e fa) (hr : DA X T W es fr) (hst : starEach (e :: es) X.env = (false, eval e X.env) :: starEach es X.env := by rfl) : DA X T W (e :: es) (fCons fa fr) :=
  pa_weak (pa_cons ha hr hst) fun σ H Q ⟨F0, H0, F, es, st, h⟩ => by
    refine ⟨F0, H0, F, es, st, po_seq (rel' := fun F' H' vs rs => RqL X.K T H0 F' H' rs vs) st h (fun _ _ _ _ _ _ _ z => z) fun a x F1 H1 _ st1 l1 q1 h1 => ?_⟩
    refine ⟨F0, H0, F1, es, st1, ?_⟩
    cases hf : fr es with
    | ok r =>
      rw [hf] at h1
      exact fun vs F' H' l q => h1 (x :: vs) F' H' l ⟨x, vs, rfl, q1.step l, q⟩
    | exc c fs => rw [hf] at h1; exact h1
    | no => rw [hf] at h1; exact h1
def stoL : List R → Option (List D)
  | [] => some []
  | r :: rs => match r.sto, stoL rs with
    | some d, some ds => some (d :: ds)
    | _, _ => none
theorem stoL_ok {K : PySem.W.Frag} {H0 F H : Hp} : ∀ {rs : List R} {vs : List V} {ds : List D}, RqL K T H0 F H rs vs → stoL rs = some ds → RpL K F ds vs
  | [], vs, ds, h, e => by cases h; cases e; exact RpL.nil
  | r :: rs, vs, ds, h, e => by
    obtain ⟨v, t, h1, h2, h3⟩ := h
    subst h1
    unfold stoL at e
    split at e
    · rename_i d es e1 e2
      cases e
      exact RpL.cons (h2.sto e1) (stoL_ok h3 e2)
    · cases e
theorem RqL.len {K : PySem.W.Frag} {H0 F H : Hp} : ∀ {rs : List R} {vs : List V}, RqL K T H0 F H rs vs → rs.length = vs.length
  | [], vs, h => by cases h; rfl
  | r :: rs, vs, h => by
    obtain ⟨v, t, h1, h2, h3⟩ := h
    subst h1
    simp [RqL.len h3]
def fLst (fr : Env → O (List R)) : Env → O R := fun es => (fr es).bind fun rs => match stoL rs with
  | some ds => if ds.length ≤ 100000 then .ok (.new ds) else .no
  | none => .no
def fTup (fr : Env → O (List R)) : Env → O R := fun es => (fr es).bind fun rs => match stoL rs with
  | some ds => if ds.length ≤ 100000 then .ok (.val (.tup ds)) else .no
  | none => .no
theorem sz {n : Nat} (h : n ≤ 100000) : n ≤ sizeLine := Nat.le_trans h (by decide)
theorem szl {n : Nat} (h : n < 100000) : n < sizeLine := Nat.lt_of_lt_of_le h (by decide)
/-- a new list at p -/
theorem rr_new {K : PySem.W.Frag} {F0 H0 F H : Hp} {σ : L2.St} {es : Env} (st : StOk K T F0 H0 F H σ es) {p : Addr} (hp : H p = none) {ds : List D} {vs : List V} (h : RpL K F ds vs) : Rr K T H0 H F (upd H p (.lst vs)) (.ref p) (.new ds) :=
  ⟨p, vs, rfl, hp, st.ok.nf hp, st.ok.nt hp, upd_same, h⟩
theorem rp_tup {K : PySem.W.Frag} {F : Hp} {p : Addr} (hp : F p = none) {ds : List D} {vs : List V} (h : RpL K F ds vs) : Rp K (upd F p (.tup vs)) (.tup ds) (.ref p) := by
  rw [Rp]; exact ⟨p, vs, rfl, .inl (.inl upd_same), h.mono (Sub.new hp)⟩
theorem rp_lst {K : PySem.W.Frag} {F : Hp} {p : Addr} (hp : F p = none) {ds : List D} {vs : List V} (h : RpL K F ds vs) : Rp K (upd F p (.lst vs)) (.lst ds) (.ref p) := by
  rw [Rp]; exact ⟨p, vs, rfl, .inl (.inl upd_same), h.mono (Sub.new hp)⟩
theorem de_lst {es : List Expr} {fr : Env → O (List R)} (h : DA X T W es fr) (hn : es.length ≤ 30 := by decide) : DE X T W (.List es pos) (fLst fr) :=
  pe_weak (pe_lst h) fun σ H Q ⟨F0, H0, F, es, st, h⟩ => ⟨F0, H0, F, es, st, pa_seq st h fun rs vs F1 H1 _ st1 l1 q1 h1 => by
    cases hs : stoL rs with
    | none => rw [hs] at h1; exact h1.elim
    | some ds =>
      rw [hs] at h1
      have z := stoL_ok q1 hs
      simp only at h1
      split at h1
      · rename_i hl
        refine ⟨by rw [← z.len]; exact sz hl, fun p hp => ?_⟩
        exact h1 _ F1 _ (Le.newH st1.ok hp) (rr_new st1 hp z)
      · exact h1.elim⟩
theorem de_tup {es : List Expr} {k : Nat} {fr : Env → O (List R)} (h : DA X T W es fr) : DE X T W (.Tuple es k pos) (fTup fr) :=
  pe_weak (pe_tup h) fun σ H Q ⟨F0, H0, F, es, st, h⟩ => ⟨F0, H0, F, es, st, pa_seq st h fun rs vs F1 H1 _ st1 l1 q1 h1 => by
    cases hs : stoL rs with
    | none => rw [hs] at h1; exact h1.elim
    | some ds =>
      rw [hs] at h1
      have z := stoL_ok q1 hs
      simp only at h1
      split at h1
      · rename_i hl
        refine ⟨by rw [← z.len]; exact sz hl, fun p hp => ?_⟩
        exact h1 _ _ _ (Le.new st1.ok hp) (rp_tup (st1.ok.nf hp) z)
      · exact h1.elim⟩
end
end Fw
namespace Fw
open PySem PySem.Spec PyProof.Rows L2
section
variable {X : Cx} {T : Tb} {K : PySem.W.Frag}
/-! ### whole numbers -/
def i2 (C : Int → Int → Bool) (f : Int → Int → D) : R → R → Option R
  | .val (.int i), .val (.int j) => if C i j then some (.val (f i j)) else none
  | _, _ => none
theorem i2_ok {C : Int → Int → Bool} {f : Int → Int → D} {a b c : R} (h : i2 C f a b = some c) : ∃ i j, a = .val (.int i) ∧ b = .val (.int j) ∧ C i j = true ∧ c = .val (f i j) := by
  unfold i2 at h
  split at h
  · split at h
    · rename_i i j hc
      cases h
      exact ⟨i, j, rfl, rfl, hc, rfl⟩
    · cases h
  · cases h
theorem rq_int {H0 F H : Hp} {v : V} {i : Int} (q : Rq K T H0 F H v (.val (.int i))) : v = .int i := by
  rw [Rq, Rp] at q; exact q
theorem rq_str {H0 F H : Hp} {v : V} {s : List Nat} (q : Rq K T H0 F H v (.val (.str s))) : v = .str (tx s) := by
  rw [Rq, Rp] at q; exact q
theorem rq_bl {H0 F H : Hp} {v : V} {s : Bool} (q : Rq K T H0 F H v (.val (.bl s))) : v = .bl s := by
  rw [Rq, Rp] at q; exact q
theorem opd_I {P : Int → Int → Prop} {C : Int → Int → Bool} {g : Int → Int → V} {f : Int → Int → D} (hc : ∀ i j, C i j = true → P i j) (hg : ∀ i j F, Rp K F (f i j) (g i j)) : OpD K T (rI P g) (i2 C f) :=
  fun H0 F H x y a b c Q ok up q1 q2 h k => by
    obtain ⟨i, j, rfl, rfl, h1, rfl⟩ := i2_ok h
    exact ⟨i, j, rq_int q1, rq_int q2, hc i j h1, k _ F H (Le.refl ok) (hg i j F)⟩
theorem opd_I0 {g : Int → Int → V} {f : Int → Int → D} (hg : ∀ i j F, Rp K F (f i j) (g i j)) : OpD K T (rI0 g) (i2 (fun _ _ => true) f) :=
  fun H0 F H x y a b c Q ok up q1 q2 h k => by
    obtain ⟨i, j, rfl, rfl, h1, rfl⟩ := i2_ok h
    exact ⟨i, j, rq_int q1, rq_int q2, k _ F H (Le.refl ok) (hg i j F)⟩
def mulC (i j : Int) : Bool := decide ((-(2 ^ 64) < i ∧ i < 2 ^ 64) ∨ (-(2 ^ 64) < j ∧ j < 2 ^ 64))
def divC (_ j : Int) : Bool := decide (0 < j ∧ j < 1073741824)
def modC (_ j : Int) : Bool := decide (0 < j)
def shlC (i j : Int) : Bool := decide (0 ≤ j ∧ j ≤ 1000000 ∧ i.natAbs < 2 ^ 64)
def shrC (_ j : Int) : Bool := decide (0 ≤ j)
def dSub := i2 (fun _ _ => true) fun i j => .int (i - j)
def dDiv := i2 divC fun i j => .int (i / j)
def dMod := i2 modC fun i j => .int (i % j)
def dShl := i2 shlC fun i j => .int (i * 2 ^ j.toNat)
def dShr := i2 shrC fun i j => .int (i / 2 ^ j.toNat)
def dAnd := i2 (fun _ _ => true) fun i j => .int (Builtin.bitAnd i j)
def dOr := i2 (fun _ _ => true) fun i j => .int (Builtin.bitOr i j)
def dXor := i2 (fun _ _ => true) fun i j => .int (Builtin.bitXor i j)
def dLt := i2 (fun _ _ => true) fun i j => .bl (decide (i < j))
def dLe := i2 (fun _ _ => true) fun i j => .bl (decide (i ≤ j))
def dGt := i2 (fun _ _ => true) fun i j => .bl (decide (j < i))
def dGe := i2 (fun _ _ => true) fun i j => .bl (decide (j ≤ i))
theorem od_sub : OpD K T (rI0 fun i j => .int (i - j)) dSub := opd_I0 fun _ _ _ => by rw [Rp]
theorem od_div : OpD K T (rI CDiv fun i j => .int (i / j)) dDiv := opd_I (fun i j h => by first | exact of_decide_eq_true h | (simpa [divC, modC, shlC, shrC, mulC, CDiv, CPow, CMul] using h)) fun _ _ _ => by rw [Rp]
theorem od_mod : OpD K T (rI (fun _ j => 0 < j) fun i j => .int (i % j)) dMod := opd_I (fun i j h => by first | exact of_decide_eq_true h | (simpa [divC, modC, shlC, shrC, mulC, CDiv, CPow, CMul] using h)) fun _ _ _ => by rw [Rp]
theorem od_shl : OpD K T (rI CPow fun i j => .int (i * 2 ^ j.toNat)) dShl := opd_I (fun i j h => by first | exact of_decide_eq_true h | (simpa [divC, modC, shlC, shrC, mulC, CDiv, CPow, CMul] using h)) fun _ _ _ => by rw [Rp]
theorem od_shr : OpD K T (rI (fun _ j => 0 ≤ j) fun i j => .int (i / 2 ^ j.toNat)) dShr := opd_I (fun i j h => by first | exact of_decide_eq_true h | (simpa [divC, modC, shlC, shrC, mulC, CDiv, CPow, CMul] using h)) fun _ _ _ => by rw [Rp]
theorem od_and : OpD K T (rI0 fun i j => .int (Builtin.bitAnd i j)) dAnd := opd_I0 fun _ _ _ => by rw [Rp]
theorem od_or : OpD K T (rI0 fun i j => .int (Builtin.bitOr i j)) dOr := opd_I0 fun _ _ _ => by rw [Rp]
theorem od_xor : OpD K T (rI0 fun i j => .int (Builtin.bitXor i j)) dXor := opd_I0 fun _ _ _ => by rw [Rp]
theorem od_lt : OpD K T (rI0 fun i j => .bl (decide (i < j))) dLt := opd_I0 fun _ _ _ => by rw [Rp]
theorem od_le : OpD K T (rI0 fun i j => .bl (decide (i ≤ j))) dLe := opd_I0 fun _ _ _ => by rw [Rp]
theorem od_gt : OpD K T (rI0 fun i j => .bl (decide (j < i))) dGt := opd_I0 fun _ _ _ => by rw [Rp]
theorem od_ge : OpD K T (rI0 fun i j => .bl (decide (j ≤ i))) dGe := opd_I0 fun _ _ _ => by rw [Rp]
theorem OpD.or {r r' : R2} {d : R → R → Option R} (h : ∀ H0 F H x y a b c Q, Ok T F H → Up K H0 H → Rq K T H0 F H x a → Rq K T H0 F H y b → d a b = some c →
    (∀ v F' H', Le T F H F' H' → Rr K T H0 H F' H' v c → Q v H') → r x y H Q ∨ r' x y H Q) : OpD K T (fun x y H Q => r x y H Q ∨ r' x y H Q) d := h
/-! ### list + list, any that may be read -/
def rCatL (K : PySem.W.Frag) : R2 := fun x y H Q => ∃ l b xs zs, x = .ref l ∧ y = .ref b ∧ SqL K H l xs ∧ SqL K H b zs ∧ xs.length + zs.length ≤ sizeLine ∧ ∀ p, H p = none → Q (.ref p) (upd H p (.lst (xs ++ zs)))
theorem op_catL : OpR X (binaryOp .Add) (rCatL X.K) := by
  intro pins s σ H x y v u Q I rx ry h
  obtain ⟨l, b, xs, zs, rfl, rfl, hl, hb, hz, q⟩ := h
  cases rx
  cases ry
  obtain ⟨is1, r1, ⟨o1, m1, g1, e1, e2, e3⟩, _⟩ := I.list hl
  obtain ⟨is2, r2, ⟨o2, m2, g2, f1, f2, f3⟩, _⟩ := I.list hb
  obtain ⟨c1, d1, t1, s1⟩ := o1
  obtain ⟨c2, d2, t2, s2⟩ := o2
  simp only at e1 e2 e3 f1 f2 f3
  subst e1 e2 e3 f1 f2 f3
  have n1 := r1.length
  have n2 := r2.length
  have e : is1.toArray ++ is2.toArray = (is1 ++ is2).toArray := by simp
  refine concat_meets ⟨_, g1, rfl⟩ ⟨_, g2, rfl⟩ noFill_list_add seq_list_add PySem.F.slot_list_add PySem.F.entry_list_add (PySem.F.args_list_add_2 _ _)
    (list_addW l b is1.toArray is2.toArray m1 m2 _ _ s1 s2 (by simp only [List.size_toArray]; omega)) ⟨g1, g2, ?_⟩
  rw [e]
  exact ⟨.ref _, _, I.lnew (t' := s.toks) (r1.append r2) (by rw [List.length_append]; omega), rfl, q _ I.fresh⟩
/-- + -/
def R.itmL : R → Option (List D)
  | .val (.lst xs) => some xs
  | .bor xs => some xs
  | .brw (.lst xs) => if xs.all flat then some xs else none
  | _ => none
theorem Rq.itmL {H0 F' H' : Hp} {v : V} {r : R} (q : Rq K T H0 F' H' v r) (ok : Ok T F' H') (up : Up K H0 H') {xs : List D} (e : r.itmL = some xs) :
    ∃ p vs, v = .ref p ∧ SqL K H' p vs ∧ RpL K F' xs vs := by
  cases r with
  | val d =>
    cases d <;> simp only [R.itmL] at e <;> try cases e
    · rw [Rq, Rp] at q
      obtain ⟨a, vs, h1, h2, h3⟩ := q
      exact ⟨a, vs, h1, ok.sub.l h2, h3⟩
  | brw d =>
    cases d <;> simp only [R.itmL] at e <;> try cases e
    · split at e
      · rename_i f
        cases e
        have z := up.rp q
        rw [Rp] at z
        obtain ⟨a, vs, h1, h2, h3⟩ := z
        exact ⟨a, vs, h1, h2, h3.flat f⟩
      · cases e
  | new xs => exact q.elim
  | bor xs =>
    simp only [R.itmL] at e
    cases e
    obtain ⟨p, vs, h1, h3, h4, h5, h6⟩ := q
    exact ⟨p, vs, h1, .inl (.inl h5), h6⟩
def catR (a b : R) : Option R := match a.itmL, b.itmL with
  | some xs, some ys => if xs.length + ys.length ≤ 100000 then some (.new (xs ++ ys)) else none
  | _, _ => none
def dAdd : R → R → Option R
  | .val (.int i), .val (.int j) => some (.val (.int (i + j)))
  | .val (.str s), .val (.str t) => if s.length + t.length ≤ 100000 then some (.val (.str (s ++ t))) else none
  | a, b => catR a b
def rAddA (K : PySem.W.Frag) : R2 := fun x y H Q => (rI0 fun i j => .int (i + j)) x y H Q ∨ ((fun x y H Q => ∃ i j, x = V.str i ∧ y = V.str j ∧ i.length + j.length ≤ sizeLine ∧ Q (.str (i ++ j)) H : R2) x y H Q ∨ rCatL K x y H Q)
theorem op_addA : OpR X (binaryOp .Add) (rAddA X.K) := OpR.or op_add (OpR.or op_add_str op_catL)
/-- a new list laid -/
theorem rr_lst {H0 F H : Hp} (ok : Ok T F H) {p : Addr} (hp : H p = none) {ds : List D} {vs : List V} (h : RpL K F ds vs) : Rr K T H0 H F (upd H p (.lst vs)) (.ref p) (.new ds) :=
  ⟨p, vs, rfl, hp, ok.nf hp, ok.nt hp, upd_same, h⟩
theorem od_add : OpD K T (rAddA K) dAdd := fun H0 F H x y a b c Q ok up q1 q2 h k => by
  unfold dAdd at h
  split at h
  · cases h
    exact .inl ⟨_, _, rq_int q1, rq_int q2, k _ F H (Le.refl ok) (by rw [Rr, Rp])⟩
  · split at h
    · rename_i s t hl
      cases h
      refine .inr (.inl ⟨_, _, rq_str q1, rq_str q2, by rw [tx_len, tx_len]; exact sz hl, ?_⟩)
      rw [tx_app]
      exact k _ F H (Le.refl ok) (by rw [Rr, Rp])
    · cases h
  · unfold catR at h
    split at h
    · rename_i xs ys e1 e2
      split at h
      · rename_i hl
        cases h
        obtain ⟨p, vs, rfl, s1, r1⟩ := q1.itmL ok up e1
        obtain ⟨p2, vs2, rfl, s2, r2⟩ := q2.itmL ok up e2
        refine .inr (.inr ⟨p, p2, vs, vs2, rfl, rfl, s1, s2, by rw [← r1.len, ← r2.len]; exact sz hl, fun p hp => ?_⟩)
        exact k _ F _ (Le.newH ok hp) (rr_lst ok hp (r1.app r2))
      · cases h
    · cases h
/-! ### * : ints, texts -/
def dMul : R → R → Option R := i2 mulC fun i j => .int (i * j)
theorem od_mul : OpD K T (rI CMul fun i j => .int (i * j)) dMul := opd_I (fun i j h => by simpa [mulC, CMul] using h) fun _ _ _ => by rw [Rp]
end
end Fw
namespace Fw
open PySem PySem.Spec PyProof.Rows L2
/-! ### == of data -/
mutual
def deq : D → D → Bool
  | .non, .non => true
  | .bl a, .bl b => a == b
  | .bl a, .int j => (if a then 1 else 0) == j
  | .int i, .bl b => i == (if b then 1 else 0)
  | .int i, .int j => i == j
  | .str s, .str t => s == t
  | .lst xs, .lst ys => deqL xs ys
  | .tup xs, .tup ys => deqL xs ys
  | _, _ => false
def deqL : List D → List D → Bool
  | [], [] => true
  | x :: xs, y :: ys => deq x y && deqL xs ys
  | _, _ => false
end
mutual
def py : D → PyData
  | .non => .none
  | .bl b => .bool b
  | .int i => .int i
  | .str s => .str (tx s)
  | .lst xs => .list (pyL xs)
  | .tup xs => .tuple (pyL xs)
  | .ty _ => .none
  | .ins _ _ _ => .none
  | .exn _ _ _ => .none
  | .emp => .none
  | .slf _ _ _ _ => .none
  | .cls _ => .none
  | .dct _ _ => .none
def pyL : List D → List PyData
  | [] => []
  | d :: ds => py d :: pyL ds
end
/-- plain data, at most n deep, the signs of a text as they can be -/
def shp : Nat → D → Bool
  | _, .non => true
  | _, .bl _ => true
  | _, .int _ => true
  | _, .str s => s.all fun c => decide (c < 1114112)
  | n + 1, .lst xs => xs.all (shp n)
  | n + 1, .tup xs => xs.all (shp n)
  | _, _ => false
theorem tx_beq (s t : List Nat) : (tx s == tx t) = (s == t) := by
  by_cases h : s = t
  · subst h; simp
  · have h2 : tx s ≠ tx t := fun z => h (tx_inj z)
    rw [beq_eq_false_iff_ne.mpr h, beq_eq_false_iff_ne.mpr h2]
mutual
theorem eqv_deq : ∀ (n m : Nat) (a b : D), shp n a = true → shp m b = true → PyData.eqv (py a) (py b) = deq a b
  | n, m, .lst xs, .lst ys, h1, h2 => by
    cases n with
    | zero => simp [shp] at h1
    | succ n =>
      cases m with
      | zero => simp [shp] at h2
      | succ m =>
        simp only [shp] at h1 h2
        simp only [py, PyData.eqv, deq]
        exact eqvL_deq n m xs ys h1 h2
  | n, m, .tup xs, .tup ys, h1, h2 => by
    cases n with
    | zero => simp [shp] at h1
    | succ n =>
      cases m with
      | zero => simp [shp] at h2
      | succ m =>
        simp only [shp] at h1 h2
        simp only [py, PyData.eqv, deq]
        exact eqvL_deq n m xs ys h1 h2
  | n, m, .non, b, h1, h2 => by cases b <;> simp_all [py, PyData.eqv, deq, shp]
  | n, m, .bl x, b, h1, h2 => by cases b <;> simp_all [py, PyData.eqv, deq, shp]
  | n, m, .int x, b, h1, h2 => by cases b <;> simp_all [py, PyData.eqv, deq, shp]
  | n, m, .str x, b, h1, h2 => by cases b <;> simp_all [py, PyData.eqv, deq, shp, tx_beq]
  | n, m, .lst x, .non, h1, h2 => by simp_all [py, PyData.eqv, deq, shp]
  | n, m, .lst x, .bl _, h1, h2 => by simp_all [py, PyData.eqv, deq, shp]
  | n, m, .lst x, .int _, h1, h2 => by simp_all [py, PyData.eqv, deq, shp]
  | n, m, .lst x, .str _, h1, h2 => by simp_all [py, PyData.eqv, deq, shp]
  | n, m, .lst x, .tup _, h1, h2 => by simp_all [py, PyData.eqv, deq, shp]
  | n, m, .tup x, .non, h1, h2 => by simp_all [py, PyData.eqv, deq, shp]
  | n, m, .tup x, .bl _, h1, h2 => by simp_all [py, PyData.eqv, deq, shp]
  | n, m, .tup x, .int _, h1, h2 => by simp_all [py, PyData.eqv, deq, shp]
  | n, m, .tup x, .str _, h1, h2 => by simp_all [py, PyData.eqv, deq, shp]
  | n, m, .tup x, .lst _, h1, h2 => by simp_all [py, PyData.eqv, deq, shp]
  | n, m, .lst x, .ty _, h1, h2 => by cases m <;> simp [shp] at h2
  | n, m, .lst x, .ins _ _ _, h1, h2 => by cases m <;> simp [shp] at h2
  | n, m, .lst x, .exn _ _ _, h1, h2 => by cases m <;> simp [shp] at h2
  | n, m, .lst x, .emp, h1, h2 => by cases m <;> simp [shp] at h2
  | n, m, .lst x, .slf _ _ _ _, h1, h2 => by cases m <;> simp [shp] at h2
  | n, m, .lst x, .cls _, h1, h2 => by cases m <;> simp [shp] at h2
  | n, m, .lst x, .dct _ _, h1, h2 => by cases m <;> simp [shp] at h2
  | n, m, .tup x, .ty _, h1, h2 => by cases m <;> simp [shp] at h2
  | n, m, .tup x, .ins _ _ _, h1, h2 => by cases m <;> simp [shp] at h2
  | n, m, .tup x, .exn _ _ _, h1, h2 => by cases m <;> simp [shp] at h2
  | n, m, .tup x, .emp, h1, h2 => by cases m <;> simp [shp] at h2
  | n, m, .tup x, .slf _ _ _ _, h1, h2 => by cases m <;> simp [shp] at h2
  | n, m, .tup x, .cls _, h1, h2 => by cases m <;> simp [shp] at h2
  | n, m, .tup x, .dct _ _, h1, h2 => by cases m <;> simp [shp] at h2
  | n, m, .ty _, b, h1, h2 => by cases n <;> simp [shp] at h1
  | n, m, .ins _ _ _, b, h1, h2 => by cases n <;> simp [shp] at h1
  | n, m, .exn _ _ _, b, h1, h2 => by cases n <;> simp [shp] at h1
  | n, m, .emp, b, h1, h2 => by cases n <;> simp [shp] at h1
  | n, m, .slf _ _ _ _, b, h1, h2 => by cases n <;> simp [shp] at h1
  | n, m, .cls _, b, h1, h2 => by cases n <;> simp [shp] at h1
  | n, m, .dct _ _, b, h1, h2 => by cases n <;> simp [shp] at h1
theorem eqvL_deq : ∀ (n m : Nat) (xs ys : List D), xs.all (shp n) = true → ys.all (shp m) = true → PyData.eqvAll (pyL xs) (pyL ys) = deqL xs ys
  | n, m, [], [], _, _ => by simp [pyL, PyData.eqvAll, deqL]
  | n, m, [], y :: ys, _, _ => by simp [pyL, PyData.eqvAll, deqL]
  | n, m, x :: xs, [], _, _ => by simp [pyL, PyData.eqvAll, deqL]
  | n, m, x :: xs, y :: ys, h1, h2 => by
    rw [List.all_cons, Bool.and_eq_true] at h1 h2
    simp only [pyL, PyData.eqvAll, deqL]
    rw [eqv_deq n m x y h1.1 h2.1, eqvL_deq n m xs ys h1.2 h2.2]
end
mutual
theorem shp_lay : ∀ (n : Nat) (a : D), shp n a = true → (py a).canLay0 = true ∧ (py a).depth ≤ n
  | n, .lst xs, h => by
    cases n with
    | zero => simp [shp] at h
    | succ n =>
      simp only [shp] at h
      have := shpL_lay n xs h
      simp only [py, PyData.canLay0, PyData.depth]
      exact ⟨this.1, by omega⟩
  | n, .tup xs, h => by
    cases n with
    | zero => simp [shp] at h
    | succ n =>
      simp only [shp] at h
      have := shpL_lay n xs h
      simp only [py, PyData.canLay0, PyData.depth]
      exact ⟨this.1, by omega⟩
  | n, .non, h => by simp [py, PyData.canLay0, PyData.depth]
  | n, .bl _, h => by simp [py, PyData.canLay0, PyData.depth]
  | n, .int _, h => by simp [py, PyData.canLay0, PyData.depth]
  | n, .str s, h => by
    have h' : (s.all fun c => decide (c < 1114112)) = true := by cases n <;> simpa only [shp] using h
    simp only [py, PyData.canLay0, PyData.depth]
    refine ⟨?_, Nat.zero_le _⟩
    show (tx s).cps.all (· < 0x110000) = true
    rw [tx]
    simpa using h'
  | n, .ty _, h => by cases n <;> simp [shp] at h
  | n, .ins _ _ _, h => by cases n <;> simp [shp] at h
  | n, .exn _ _ _, h => by cases n <;> simp [shp] at h
  | n, .emp, h => by cases n <;> simp [shp] at h
  | n, .slf _ _ _ _, h => by cases n <;> simp [shp] at h
  | n, .cls _, h => by cases n <;> simp [shp] at h
  | n, .dct _ _, h => by cases n <;> simp [shp] at h
theorem shpL_lay : ∀ (n : Nat) (xs : List D), xs.all (shp n) = true → PyData.canLayAll0 (pyL xs) = true ∧ PyData.depthAll (pyL xs) ≤ n
  | n, [], _ => by simp [pyL, PyData.canLayAll0, PyData.depthAll]
  | n, x :: xs, h => by
    rw [List.all_cons, Bool.and_eq_true] at h
    have h1 := shp_lay n x h.1
    have h2 := shpL_lay n xs h.2
    simp only [pyL, PyData.canLayAll0, PyData.depthAll]
    exact ⟨by rw [h1.1, h2.1]; rfl, by omega⟩
end
theorem shp_shaped {a : D} (h : shp 60 a = true) : SeqAt.shaped (py a) = true := by
  have := shp_lay 60 a h
  unfold SeqAt.shaped
  rw [this.1, Bool.true_and]
  exact decide_eq_true (by omega)
mutual
theorem rp_dp {K : PySem.W.Frag} {H : Hp} : ∀ (n : Nat) (d : D) {v : V}, shp n d = true → Rp K H d v → Dp K H v (py d)
  | n, .non, v, _, h => by rw [Rp] at h; subst h; simp only [py]; exact .non
  | n, .bl b, v, _, h => by rw [Rp] at h; subst h; simp only [py]; exact .bl b
  | n, .int i, v, _, h => by rw [Rp] at h; subst h; simp only [py]; exact .int i
  | n, .str s, v, _, h => by rw [Rp] at h; subst h; simp only [py]; exact .str _
  | n, .lst xs, v, hs, h => by
    rw [Rp] at h
    obtain ⟨a, vs, rfl, h2, h3⟩ := h
    cases n with
    | zero => simp [shp] at hs
    | succ n =>
      simp only [shp] at hs
      simp only [py]
      exact .lst h2 (rpl_dp n xs hs h3)
  | n, .tup xs, v, hs, h => by
    rw [Rp] at h
    obtain ⟨a, vs, rfl, h2, h3⟩ := h
    cases n with
    | zero => simp [shp] at hs
    | succ n =>
      simp only [shp] at hs
      simp only [py]
      exact .tup h2 (rpl_dp n xs hs h3)
  | n, .ty _, v, hs, h => by cases n <;> simp [shp] at hs
  | n, .ins _ _ _, v, hs, h => by cases n <;> simp [shp] at hs
  | n, .exn _ _ _, v, hs, h => by cases n <;> simp [shp] at hs
  | n, .emp, v, hs, h => by cases n <;> simp [shp] at hs
  | n, .slf _ _ _ _, v, hs, h => by cases n <;> simp [shp] at hs
  | n, .cls _, v, hs, h => by cases n <;> simp [shp] at hs
  | n, .dct _ _, v, hs, h => by cases n <;> simp [shp] at hs
theorem rpl_dp {K : PySem.W.Frag} {H : Hp} : ∀ (n : Nat) (ds : List D) {vs : List V}, ds.all (shp n) = true → RpL K H ds vs → DpAll K H vs (pyL ds)
  | n, [], vs, _, h => by rw [RpL] at h; subst h; simp only [pyL]; exact .nil
  | n, d :: ds, vs, hs, h => by
    rw [RpL] at h
    obtain ⟨v, r, rfl, h2, h3⟩ := h
    rw [List.all_cons, Bool.and_eq_true] at hs
    simp only [pyL]
    exact .cons (rp_dp n d hs.1 h2) (rpl_dp n ds hs.2 h3)
end
section
variable {X : Cx} {T : Tb} {K : PySem.W.Frag}
def dEq (a b : R) : Option R := if shp 60 a.dat && shp 60 b.dat then some (.val (.bl (deq a.dat b.dat))) else none
def dNe (a b : R) : Option R := if shp 60 a.dat && shp 60 b.dat then some (.val (.bl (!deq a.dat b.dat))) else none
theorem od_eq : OpD K T (rEqD K) dEq := fun H0 F H x y a b c Q ok up q1 q2 h k => by
  unfold dEq at h
  split at h
  · rename_i e
    rw [Bool.and_eq_true] at e
    cases h
    refine ⟨py a.dat, py b.dat, rp_dp 60 _ e.1 (q1.toH ok up), rp_dp 60 _ e.2 (q2.toH ok up), shp_shaped e.1, shp_shaped e.2, ?_⟩
    rw [eqv_deq 60 60 _ _ e.1 e.2]
    exact k _ F H (Le.refl ok) (by rw [Rr, Rp])
  · cases h
theorem od_ne : OpD K T (rNeD K) dNe := fun H0 F H x y a b c Q ok up q1 q2 h k => by
  unfold dNe at h
  split at h
  · rename_i e
    rw [Bool.and_eq_true] at e
    cases h
    refine ⟨py a.dat, py b.dat, rp_dp 60 _ e.1 (q1.toH ok up), rp_dp 60 _ e.2 (q2.toH ok up), shp_shaped e.1, shp_shaped e.2, ?_⟩
    rw [eqv_deq 60 60 _ _ e.1 e.2]
    exact k _ F H (Le.refl ok) (by rw [Rr, Rp])
  · cases h
/-! ### in -/
def plainF : D → Bool
  | .non => true
  | .bl _ => true
  | .int _ => true
  | .str _ => true
  | _ => false
theorem flatV_of {H : Hp} {d : D} {v : V} (f : plainF d = true) (h : Rp K H d v) : flatV v = true := by
  cases d <;> simp [plainF] at f <;> (rw [Rp] at h; subst h; rfl)
theorem eqV_of {H : Hp} {d e : D} {v u : V} (f : plainF d = true) (g : plainF e = true) (h : Rp K H d v) (h' : Rp K H e u) : eqV v u = deq d e := by
  cases d <;> simp [plainF] at f <;> cases e <;> simp [plainF] at g <;> (rw [Rp] at h; rw [Rp] at h'; subst h h'; simp [eqV, deq, tx_beq])
theorem flatVs_of {H : Hp} : ∀ {ds : List D} {vs : List V}, ds.all plainF = true → RpL K H ds vs → vs.all flatV = true
  | [], vs, _, h => by rw [RpL] at h; subst h; rfl
  | d :: ds, vs, f, h => by
    rw [RpL] at h
    obtain ⟨v, r, rfl, h2, h3⟩ := h
    rw [List.all_cons, Bool.and_eq_true] at f ⊢
    exact ⟨flatV_of f.1 h2, flatVs_of f.2 h3⟩
theorem inV_of {H : Hp} {e : D} {u : V} (g : plainF e = true) (h' : Rp K H e u) : ∀ {ds : List D} {vs : List V}, ds.all plainF = true → RpL K H ds vs → inV u vs = ds.any fun d => deq d e
  | [], vs, _, h => by rw [RpL] at h; subst h; rfl
  | d :: ds, vs, f, h => by
    rw [RpL] at h
    obtain ⟨v, r, rfl, h2, h3⟩ := h
    rw [List.all_cons, Bool.and_eq_true] at f
    show (eqV v u || inV u r) = _
    rw [List.any_cons, eqV_of f.1 g h2 h', inV_of g h' f.2 h3]
def itmD : D → Option (List D)
  | .lst xs => some xs
  | .tup xs => some xs
  | _ => none
def dIn (a b : R) : Option R := match itmD b.dat with
  | some ds => if plainF a.dat && ds.all plainF then some (.val (.bl (ds.any fun d => deq d a.dat))) else none
  | none => none
def dNin (a b : R) : Option R := match itmD b.dat with
  | some ds => if plainF a.dat && ds.all plainF then some (.val (.bl (!ds.any fun d => deq d a.dat))) else none
  | none => none
theorem itmD_ok {H : Hp} {d : D} {v : V} {ds : List D} (h : Rp K H d v) (e : itmD d = some ds) : ∃ p vs, v = .ref p ∧ (SqL K H p vs ∨ SqT K H p vs) ∧ RpL K H ds vs := by
  cases d <;> simp only [itmD] at e <;> cases e
  · rw [Rp] at h
    obtain ⟨a, vs, h1, h2, h3⟩ := h
    exact ⟨a, vs, h1, .inl h2, h3⟩
  · rw [Rp] at h
    obtain ⟨a, vs, h1, h2, h3⟩ := h
    exact ⟨a, vs, h1, .inr h2, h3⟩
theorem od_in : OpD K T (rIn K false) dIn := fun H0 F H x y a b c Q ok up q1 q2 h k => by
  unfold dIn at h
  split at h
  · rename_i ds e
    split at h
    · rename_i f
      rw [Bool.and_eq_true] at f
      cases h
      obtain ⟨p, vs, rfl, h1, h2⟩ := itmD_ok (q2.toH ok up) e
      have q := q1.toH ok up
      refine ⟨p, vs, rfl, h1, flatV_of f.1 q, flatVs_of f.2 h2, ?_⟩
      rw [if_neg Bool.false_ne_true, inV_of f.1 q f.2 h2]
      exact k _ F H (Le.refl ok) (by rw [Rr, Rp])
    · cases h
  · cases h
theorem od_nin : OpD K T (rIn K true) dNin := fun H0 F H x y a b c Q ok up q1 q2 h k => by
  unfold dNin at h
  split at h
  · rename_i ds e
    split at h
    · rename_i f
      rw [Bool.and_eq_true] at f
      cases h
      obtain ⟨p, vs, rfl, h1, h2⟩ := itmD_ok (q2.toH ok up) e
      have q := q1.toH ok up
      refine ⟨p, vs, rfl, h1, flatV_of f.1 q, flatVs_of f.2 h2, ?_⟩
      rw [if_pos rfl, inV_of f.1 q f.2 h2]
      exact k _ F H (Le.refl ok) (by rw [Rr, Rp])
    · cases h
  · cases h
/-! ### is -/
def isNonD : D → Bool
  | .non => true
  | _ => false
def isB (a b : R) : Option Bool := match a.dat, b.dat with
  | .bl x, .bl y => some (decide (x = y))
  | .ty m, .ty n => some (decide (m = n))
  | x, .non => some (isNonD x)
  | _, _ => none
def dIs (a b : R) : Option R := (isB a b).map fun k => .val (.bl k)
def dNis (a b : R) : Option R := (isB a b).map fun k => .val (.bl (!k))
def rIsA : R2 := fun x y H Q => rIsB x y H Q ∨ ((fun x y H Q => ∃ m n, x = V.ty m ∧ y = V.ty n ∧ Q (.bl (decide (m = n))) H : R2) x y H Q ∨ (fun x y H Q => y = V.non ∧ Q (.bl (decide (x = .non))) H : R2) x y H Q)
def rNisA : R2 := fun x y H Q => rNotB x y H Q ∨ ((fun x y H Q => ∃ m n, x = V.ty m ∧ y = V.ty n ∧ Q (.bl (!decide (m = n))) H : R2) x y H Q ∨ (fun x y H Q => y = V.non ∧ Q (.bl (!decide (x = .non))) H : R2) x y H Q)
theorem op_isA : OpR X (compareOp .Is) rIsA := OpR.or op_isBl (OpR.or op_isTy op_isN)
theorem op_nisA : OpR X (compareOp .IsNot) rNisA := OpR.or op_notBl (OpR.or op_isNotTy op_notN)
theorem isNon_of {H : Hp} {d : D} {v : V} (h : Rp K H d v) : decide (v = .non) = isNonD d := by
  cases d <;> rw [Rp] at h <;> first | (subst h; rfl) | (obtain ⟨a, vs, rfl, _⟩ := h; rfl) | (obtain ⟨a, dx, vs, rfl, _⟩ := h; rfl) | (obtain ⟨a, d, rfl, _⟩ := h; rfl) | (obtain ⟨a, rfl, _⟩ := h; rfl) | (obtain ⟨rfl, _⟩ := h; rfl)
theorem isA_ok {H0 F H : Hp} {x y : V} {a b : R} {k : Bool} (ok : Ok T F H) (up : Up K H0 H) (q1 : Rq K T H0 F H x a) (q2 : Rq K T H0 F H y b) (h : isB a b = some k) :
    (∃ i j, x = .bl i ∧ y = .bl j ∧ decide (i = j) = k) ∨ (∃ m n, x = .ty m ∧ y = .ty n ∧ decide (m = n) = k) ∨ (y = .non ∧ decide (x = .non) = k) := by
  have z1 := q1.toH ok up
  have z2 := q2.toH ok up
  unfold isB at h
  split at h
  · rename_i e1 e2
    rw [e1, Rp] at z1; rw [e2, Rp] at z2
    exact .inl ⟨_, _, z1, z2, Option.some.inj h⟩
  · rename_i e1 e2
    rw [e1, Rp] at z1; rw [e2, Rp] at z2
    exact .inr (.inl ⟨_, _, z1, z2, Option.some.inj h⟩)
  · rename_i e2
    rw [e2, Rp] at z2
    exact .inr (.inr ⟨z2, (isNon_of z1).trans (Option.some.inj h)⟩)
  · cases h
theorem od_is : OpD K T rIsA dIs := fun H0 F H x y a b c Q ok up q1 q2 h k => by
  unfold dIs at h
  cases e : isB a b with
  | none => rw [e] at h; cases h
  | some z =>
    rw [e] at h
    cases h
    have w := k (.bl z) F H (Le.refl ok) (by rw [Rr, Rp])
    rcases isA_ok ok up q1 q2 e with ⟨i, j, h1, h2, h3⟩ | ⟨m, n, h1, h2, h3⟩ | ⟨h1, h2⟩
    · exact .inl ⟨i, j, h1, h2, by rw [h3]; exact w⟩
    · exact .inr (.inl ⟨m, n, h1, h2, by rw [h3]; exact w⟩)
    · exact .inr (.inr ⟨h1, by rw [h2]; exact w⟩)
theorem od_nis : OpD K T rNisA dNis := fun H0 F H x y a b c Q ok up q1 q2 h k => by
  unfold dNis at h
  cases e : isB a b with
  | none => rw [e] at h; cases h
  | some z =>
    rw [e] at h
    cases h
    have w := k (.bl (!z)) F H (Le.refl ok) (by rw [Rr, Rp])
    rcases isA_ok ok up q1 q2 e with ⟨i, j, h1, h2, h3⟩ | ⟨m, n, h1, h2, h3⟩ | ⟨h1, h2⟩
    · exact .inl ⟨i, j, h1, h2, by rw [h3]; exact w⟩
    · exact .inr (.inl ⟨m, n, h1, h2, by rw [h3]; exact w⟩)
    · exact .inr (.inr ⟨h1, by rw [h2]; exact w⟩)
/-! ### subscripts -/
theorem atI_len {H : Hp} {ds : List D} {vs : List V} {i : Int} {d : D} (h : RpL K H ds vs) (e : atI ds i = some d) : ∃ v, atI vs i = some v ∧ Rp K H d v := by
  unfold atI at e ⊢
  rw [← h.len]
  cases hk : ixN ds.length i with
  | none => rw [hk] at e; cases e
  | some j =>
    rw [hk] at e
    exact h.get e
def atR (i : Int) : R → Option R
  | .val (.lst xs) => (atI xs i).map .val
  | .val (.tup xs) => (atI xs i).map .val
  | .bor xs => (atI xs i).map .val
  | .brw (.lst xs) => (atI xs i).map nrm
  | .brw (.tup xs) => (atI xs i).map nrm
  | .val (.str s) => if s.length ≤ 100000 then (atI s i).map fun c => .val (.str [c]) else none
  | _ => none
def dIx : R → R → Option R
  | a, .val (.int i) => atR i a
  | _, _ => none
theorem od_ix : OpD K T (rIx K) dIx := fun H0 F H x y a b c Q ok up q1 q2 h k => by
  unfold dIx at h
  split at h
  · rename_i i
    have ey := rq_int q2
    unfold atR at h
    split at h
    · rename_i xs
      cases e : atI xs i with
      | none => rw [e] at h; cases h
      | some d =>
        rw [e] at h; cases h
        rw [Rq, Rp] at q1
        obtain ⟨p, vs, h1, h2, h3⟩ := q1
        obtain ⟨v, h4, h5⟩ := atI_len h3 e
        exact .inl ⟨p, vs, i, v, h1, ey, ok.sub.l h2, h4, k _ F H (Le.refl ok) h5⟩
    · rename_i xs
      cases e : atI xs i with
      | none => rw [e] at h; cases h
      | some d =>
        rw [e] at h; cases h
        rw [Rq, Rp] at q1
        obtain ⟨p, vs, h1, h2, h3⟩ := q1
        obtain ⟨v, h4, h5⟩ := atI_len h3 e
        exact .inr (.inl ⟨p, vs, i, v, h1, ey, ok.sub.t h2, h4, k _ F H (Le.refl ok) h5⟩)
    · rename_i xs
      cases e : atI xs i with
      | none => rw [e] at h; cases h
      | some d =>
        rw [e] at h; cases h
        obtain ⟨p, vs, h1, _, _, h2, h3⟩ := q1
        obtain ⟨v, h4, h5⟩ := atI_len h3 e
        exact .inl ⟨p, vs, i, v, h1, ey, .inl (.inl h2), h4, k _ F H (Le.refl ok) h5⟩
    · rename_i xs
      cases e : atI xs i with
      | none => rw [e] at h; cases h
      | some d =>
        rw [e] at h; cases h
        rw [Rq, Rp] at q1
        obtain ⟨p, vs, h1, h2, h3⟩ := q1
        obtain ⟨v, h4, h5⟩ := atI_len h3 e
        refine .inl ⟨p, vs, i, v, h1, ey, up.l h2, h4, k _ F H (Le.refl ok) (rr_nrm h5)⟩
    · rename_i xs
      cases e : atI xs i with
      | none => rw [e] at h; cases h
      | some d =>
        rw [e] at h; cases h
        rw [Rq, Rp] at q1
        obtain ⟨p, vs, h1, h2, h3⟩ := q1
        obtain ⟨v, h4, h5⟩ := atI_len h3 e
        refine .inr (.inl ⟨p, vs, i, v, h1, ey, up.t h2, h4, k _ F H (Le.refl ok) (rr_nrm h5)⟩)
    · rename_i s
      split at h
      · rename_i hl
        cases e : atI s i with
        | none => rw [e] at h; cases h
        | some d =>
          rw [e] at h; cases h
          refine .inr (.inr ⟨tx s, i, d, rq_str q1, ey, by rw [tx_len]; exact sz hl, by rw [tx_list]; exact e, ?_⟩)
          exact k _ F H (Le.refl ok) (by rw [Rr, Rp]; rfl)
      · cases h
    · cases h
  · cases h
end
end Fw
namespace Fw
open PySem PySem.Spec PyProof.Rows L2
section
variable {X : Cx} {T : Tb} {W : WX} {K : PySem.W.Frag} {a b e o : Expr} {fa fb : Env → O R} {es : List Expr} {pos p2 apos : Pos} {x name : Str}
/-! ### slices -/
def fPart (f : Env → O R) : Env → O (Option Int) := fun es => (f es).bind fun r => match r with
  | .val (.int i) => .ok (some i)
  | _ => .no
def fNoPart : Env → O (Option Int) := fun _ => .ok none
def tDO (K : PySem.W.Frag) (T : Tb) (W : WX) (f : Env → O (Option Int)) : TO := fun σ H Q => ∃ F0 H0 F es, StOk K T F0 H0 F H σ es ∧ PO K T W F H σ (fun _ _ b a => b = a) Q (f es)
def DO (X : Cx) (T : Tb) (W : WX) (e : Option Expr) (f : Env → O (Option Int)) : Prop := L2.PO X e (tDO X.K T W f)
theorem po_weak {e : Option Expr} {t t' : TO} (h : L2.PO X e t) (w : ∀ σ H Q, t' σ H Q → t σ H Q) : L2.PO X e t' := ⟨fun pins s σ H Q I q => h.run pins s σ H Q I (w σ H Q q)⟩
theorem do_none : DO X T W none fNoPart := po_weak po_none fun σ H Q ⟨F0, H0, F, es, st, h⟩ => h none F H (Le.refl st.ok) rfl
theorem do_some (h : DE X T W e fa) : DO X T W (some e) (fPart fa) := po_weak (po_some h) fun σ H Q ⟨F0, H0, F, es, st, h⟩ => by
  refine ⟨F0, H0, F, es, st, po_seq (rel' := fun _ _ b a => b = a) st h (fun _ _ _ _ _ _ _ z => z) fun r v F1 H1 _ st1 l1 q1 h1 => ?_⟩
  split at h1
  · rename_i i _
    exact ⟨i, rq_int (T := T) (H0 := H0) (F := F1) (H := H1) q1, h1 _ F1 H1 (Le.refl st1.ok) rfl⟩
  · exact h1.elim
def cutL {α : Type} (xs : List α) (lo hi : Option Int) : List α := (xs.drop (HT.sIx xs.length 0 lo)).take (HT.sIx xs.length xs.length hi - HT.sIx xs.length 0 lo)
theorem cutL_rp {H : Hp} {ds : List D} {vs : List V} (h : RpL K H ds vs) (lo hi : Option Int) : RpL K H (cutL ds lo hi) (cutV vs lo hi) := by
  unfold cutL cutV
  rw [h.len]
  exact (h.drop _).take _
theorem cutS_tx (s : List Nat) (lo hi : Option Int) : cutS (tx s) lo hi = tx (cutL s lo hi) := by
  unfold cutS cutL
  rw [tx_list, tx_len]; rfl
def dSl (r : R) (lo hi : Option Int) : Option R := match r with
  | .val (.str s) => if s.length ≤ 100000 then some (.val (.str (cutL s lo hi))) else none
  | r => (r.itmL).map fun xs => .new (cutL xs lo hi)
def rSlQ (K : PySem.W.Frag) : V → Option Int → Option Int → Hp → VK → Prop := fun x lo hi H Q => rSlL K x lo hi H Q ∨ rSlS x lo hi H Q
theorem sl_q : SlR X (rSlQ X.K) := SlR.or sl_list sl_str
def fSl (fa : Env → O R) (lo hi : Env → O (Option Int)) : Env → O R := fun es => (fa es).bind fun r => (lo es).bind fun l => (hi es).bind fun h => O.of (dSl r.fz l h)
/-- a part first -/
theorem po_part {F0 H0 F H : Hp} {σ : L2.St} {es : Env} {Q : VK} {Q' : Option Int → Hp → Prop} {o : O (Option Int)} {g : Option Int → O R} (st : StOk K T F0 H0 F H σ es) (h : PO K T W F H σ (Rr K T H0 H) Q (o.bind g))
    (k : ∀ b F1 H1, o = .ok b → StOk K T F0 H0 F1 H1 σ es → Le T F H F1 H1 → PO K T W F1 H1 σ (Rr K T H0 H1) Q (g b) → Q' b H1) : PO K T W F H σ (fun _ _ b a => b = a) Q' o := by
  cases o with
  | ok a =>
    intro v F1 H1 l q
    subst q
    exact k v F1 H1 rfl (st.step l) l (PO.step h l fun _ _ _ _ => Rr.back l)
  | exc c fs => exact h
  | no => exact h
theorem de_slice {lo hi : Option Expr} {fl fh : Env → O (Option Int)} (ha : DE X T W e fa) (hl : DO X T W lo fl) (hh : DO X T W hi fh) : DE X T W (.Subscript e (.Slice lo hi none p2) pos) (fSl fa fl fh) :=
  pe_weak (pe_slice sl_q ha hl hh) fun σ H Q ⟨F0, H0, F, es, st, h⟩ => by
    refine ⟨F0, H0, F, es, st, pr_seq st h fun r v F1 H1 _ st1 l1 q1 h1 => ?_⟩
    refine ⟨F0, H0, F1, es, st1, po_part st1 h1 fun lo F2 H2 _ st2 l2 h2 => ?_⟩
    refine ⟨F0, H0, F2, es, st2, po_part st2 h2 fun hi F3 H3 _ st3 l3 h3 => ?_⟩
    have q := (q1.step l2).step l3
    cases hd : dSl r.fz lo hi with
    | none => rw [hd] at h3; exact h3.elim
    | some c =>
      rw [hd] at h3
      generalize r.fz = r' at hd q
      unfold dSl at hd
      split at hd
      · rename_i s
        split at hd
        · rename_i hz
          cases hd
          refine .inr ⟨_, rq_str q, by rw [tx_len]; exact sz hz, ?_⟩
          rw [cutS_tx]
          exact h3 _ F3 H3 (Le.refl st3.ok) (by rw [Rr, Rp])
        · cases hd
      · cases e : r'.itmL with
        | none => rw [e] at hd; cases hd
        | some xs =>
          rw [e] at hd
          cases hd
          obtain ⟨p, vs, rfl, s1, r1⟩ := q.itmL st3.ok st3.up e
          refine .inl ⟨p, vs, rfl, s1, fun z hz => ?_⟩
          exact h3 _ F3 _ (Le.newH st3.ok hz) (rr_lst st3.ok hz (cutL_rp r1 lo hi))
/-- xs[::-1] -/
def fRev (fa : Env → O R) : Env → O R := fun es => (fa es).bind fun r => match r.fz.itmL with
  | some xs => .ok (.new xs.reverse)
  | none => .no
theorem de_rev {k : Nat} {p1 p2 p3 : Pos} (ha : DE X T W e fa) : DE X T W (.Subscript e (.Slice none none (some (.UnaryOp .USub (.Constant (.int 1) k p1) p2)) p3) pos) (fRev fa) :=
  pe_weak (pe_revL ha) fun σ H Q ⟨F0, H0, F, es, st, h⟩ => by
    refine ⟨F0, H0, F, es, st, pr_seq st h fun r v F1 H1 _ st1 l1 q1 h1 => ?_⟩
    split at h1
    · rename_i xs e
      obtain ⟨p, vs, rfl, s1, r1⟩ := q1.itmL st1.ok st1.up e
      refine ⟨p, vs, rfl, s1, fun z hz => ?_⟩
      exact h1 _ F1 _ (Le.newH st1.ok hz) (rr_lst st1.ok hz r1.rev)
    · exact h1.elim
/-! ### defs -/
/-- a def by what it is on data -/
def spD (K : PySem.W.Frag) (T : Tb) (n : Nat) (g : List D → O R) : Sp := fun vs H Q E => ∃ F ds, vs.length = n ∧ Ok T F H ∧ RpL K H ds vs ∧ match g ds with
  | .ok (.val d) => ∀ v F' H', Le T F H F' H' → Rr K T H H F' H' v (.val d) → Q v H'
  | .ok (.new xs) => ∀ v F' H', Le T F H F' H' → Rr K T H H F' H' v (.new xs) → Q v H'
  | .exc c fs => ∀ cls d F' H', Le T F H F' H' → XOk K F' c fs cls d → E cls d H'
  | _ => False
def fCall (g : List D → O R) (fr : Env → O (List R)) : Env → O R := fun es => (fr es).bind fun rs => match g (rs.map R.dat) with
  | .ok (.val d) => .ok (.val d)
  | .ok (.new xs) => .ok (.new xs)
  | .exc c fs => .exc c fs
  | _ => .no
/-- a def's call, from its promise; Ec: what is wanted of an exception -/
theorem call_weak {n : Nat} {g : List D → O R} {fr : Env → O (List R)} {Ec : L2.St → XK} {σ : L2.St} {H : Hp} {Q : VK} (hx : ∀ cls d H', W cls d σ H' → Ec σ cls d H') (hn : ∀ es rs, fr es = .ok rs → rs.length = n)
    (h : tD K T W (fCall g fr) σ H Q) : tDA K T W fr σ H fun vs H1 => spD K T n g vs H1 Q (Ec σ) := by
  obtain ⟨F0, H0, F, es, st, h⟩ := h
  refine ⟨F0, H0, F, es, st, pa_seq st h fun rs vs F1 H1 hrs st1 l1 q1 h1 => ?_⟩
  refine ⟨F1, rs.map R.dat, by rw [← q1.len]; exact hn es rs hrs, st1.ok, q1.toH st1.ok st1.up, ?_⟩
  cases hg : g (rs.map R.dat) with
  | no => rw [hg] at h1; exact h1
  | exc c fs =>
    rw [hg] at h1
    exact fun cls d F' H' l q => hx cls d H' (h1 cls d F' H' l q)
  | ok r =>
    rw [hg] at h1
    cases r with
    | val d => exact fun v F' H' l q => h1 v F' H' l q
    | new xs => exact fun v F' H' l q => h1 v F' H' l q
    | brw d => exact h1
    | bor xs => exact h1
/-- how many arguments -/
theorem fCons_len {fa : Env → O R} {fr : Env → O (List R)} {n : Nat} (h : ∀ es rs, fr es = .ok rs → rs.length = n) : ∀ es rs, fCons fa fr es = .ok rs → rs.length = n + 1 := by
  intro es rs e
  unfold fCons at e
  cases ha : fa es with
  | ok r =>
    rw [ha] at e
    cases hr : fr es with
    | ok l =>
      rw [hr] at e
      cases e
      show l.length + 1 = n + 1
      rw [h es l hr]
    | exc c fs => rw [hr] at e; cases e
    | no => rw [hr] at e; cases e
  | exc c fs => rw [ha] at e; cases e
  | no => rw [ha] at e; cases e
theorem fNil_len : ∀ es rs, fNil es = .ok rs → rs.length = 0 := by
  intro es rs e
  cases e
  rfl
/-- a call where nothing is raised -/
def fCall0 (g : List D → O R) (fr : Env → O (List R)) : Env → O R := fun es => (fr es).bind fun rs => match g (rs.map R.dat) with
  | .ok (.val d) => .ok (.val d)
  | .ok (.new xs) => .ok (.new xs)
  | _ => .no
theorem call0_weak {n : Nat} {g : List D → O R} {fr : Env → O (List R)} {Ec : XK} {σ : L2.St} {H : Hp} {Q : VK} (hn : ∀ es rs, fr es = .ok rs → rs.length = n)
    (h : tD K T W (fCall0 g fr) σ H Q) : tDA K T W fr σ H fun vs H1 => spD K T n g vs H1 Q Ec := by
  obtain ⟨F0, H0, F, es, st, h⟩ := h
  refine ⟨F0, H0, F, es, st, pa_seq st h fun rs vs F1 H1 hrs st1 l1 q1 h1 => ?_⟩
  refine ⟨F1, rs.map R.dat, by rw [← q1.len]; exact hn es rs hrs, st1.ok, q1.toH st1.ok st1.up, ?_⟩
  cases hg : g (rs.map R.dat) with
  | no => rw [hg] at h1; exact h1
  | exc c fs => rw [hg] at h1; exact h1.elim
  | ok r =>
    rw [hg] at h1
    cases r with
    | val d => exact fun v F' H' l q => h1 v F' H' l q
    | new xs => exact fun v F' H' l q => h1 v F' H' l q
    | brw d => exact h1
    | bor xs => exact h1
/-- f(..), nothing raised -/
theorem de_call {CX : CXT} {Ec : XK} {k n : Nat} {f : Addr} {fd : FuncData} {ps : List Str} {g : List D → O R} {fr : Env → O (List R)} {pos p : Pos} (F : FnOk X.prog X.w X.K X.mg X.base CX k f fd ps (spD X.K T n g)) (hx : Passes CX X Ec) (hr : Room k X.A) (hm : X.mg x = some (.ref f))
    (hk : PySem.W.keepIn X.K (.ref f) = true) (hb : Binds X.K fd ps []) (ha : DA X T W (e :: es) fr) (hn : ∀ es rs, fr es = .ok rs → rs.length = n) (hg : Gl X x := by rfl) (hdb : (x == ("__debug__" : Str)) = false := by decide)
    (he : starEach (e :: es) X.env = (false, eval e X.env) :: starEach es X.env := by rfl) (hpl : (backTo pos (starEach es X.env)).any (·.1) = false := by rfl) : DE X T W (.Call (.Name x p) (e :: es) [] pos) (fCall0 g fr) :=
  pe_weak (pe_call F hr hg hm hk hb .nil hx ha hdb he hpl) fun σ H Q h => by
    show tDA _ _ _ _ _ _ _
    have z := call0_weak (n := n) (Ec := Ec) hn h
    obtain ⟨F0, H0, F, es, st, z⟩ := z
    refine ⟨F0, H0, F, es, st, ?_⟩
    cases ho : fr es with
    | no => rw [ho] at z; exact z
    | exc c fs => rw [ho] at z; exact z
    | ok rs =>
      rw [ho] at z
      intro vs F' H' l q
      rw [List.append_nil]
      exact z vs F' H' l q
/-! ### built-ins by values -/
def CallD (K : PySem.W.Frag) (T : Tb) (r : List V → Hp → VK → Prop) (d : List R → Option R) : Prop :=
  ∀ (H0 F H : Hp) (vs : List V) (rs : List R) (c : R) (Q : VK), Ok T F H → Up K H0 H → RqL K T H0 F H rs vs → d rs = some c → (∀ v F' H', Le T F H F' H' → Rr K T H0 H F' H' v c → Q v H') → r vs H Q
def fBi (d : List R → Option R) (fr : Env → O (List R)) : Env → O R := fun es => (fr es).bind fun rs => O.of (d rs)
theorem bi_weak {r : List V → Hp → VK → Prop} {d : List R → Option R} {fr : Env → O (List R)} (hd : CallD K T r d) {σ : L2.St} {H : Hp} {Q : VK} (h : tD K T W (fBi d fr) σ H Q) : tCB r (tDA K T W fr) σ H Q := by
  obtain ⟨F0, H0, F, es, st, h⟩ := h
  refine ⟨F0, H0, F, es, st, pa_seq st h fun rs vs F1 H1 _ st1 l1 q1 h1 => ?_⟩
  cases hc : d rs with
  | none => rw [hc] at h1; exact h1.elim
  | some c =>
    rw [hc] at h1
    exact hd H0 F1 H1 vs rs c Q st1.ok st1.up q1 hc h1
theorem de_bi {id : String} {r : List V → Hp → VK → Prop} {d : List R → Option R} {fr : Env → O (List R)} {pos p : Pos} (hc : CallR X (.builtin id) r) (hd : CallD X.K T r d) (hm : X.mg x = none) (hv : bootBuiltins x = some (.builtin id)) (ha : DA X T W (e :: es) fr)
    (hg : Gl X x := by rfl) (hn : x ≠ "__name__" := by decide) (hdb : (x == ("__debug__" : Str)) = false := by decide) (he : starEach (e :: es) X.env = (false, eval e X.env) :: starEach es X.env := by rfl) (hpl : (backTo pos (starEach es X.env)).any (·.1) = false := by rfl) :
    DE X T W (.Call (.Name x p) (e :: es) [] pos) (fBi d fr) := pe_weak (pe_callB hc hg hm hv ha hn hdb he hpl) fun σ H Q h => bi_weak hd h
theorem de_biT {ty : String} {r : List V → Hp → VK → Prop} {d : List R → Option R} {fr : Env → O (List R)} {pos p : Pos} (hc : CallR X (.type ty) r) (hd : CallD X.K T r d) (hm : X.mg x = none) (hv : bootBuiltins x = some (.type ty)) (ha : DA X T W (e :: es) fr)
    (hg : Gl X x := by rfl) (hn : x ≠ "__name__" := by decide) (hdb : (x == ("__debug__" : Str)) = false := by decide) (he : starEach (e :: es) X.env = (false, eval e X.env) :: starEach es X.env := by rfl) (hpl : (backTo pos (starEach es X.env)).any (·.1) = false := by rfl) :
    DE X T W (.Call (.Name x p) (e :: es) [] pos) (fBi d fr) := pe_weak (pe_callTy hc hg hm hv ha hn hdb he hpl) fun σ H Q h => bi_weak hd h
end
end Fw
namespace Fw
open PySem PySem.Spec PyProof.Rows L2
section
variable {X : Cx} {T : Tb} {W : WX} {K : PySem.W.Frag}
theorem rql1 {H0 F H : Hp} {r : R} {vs : List V} (q : RqL K T H0 F H [r] vs) : ∃ v, vs = [v] ∧ Rq K T H0 F H v r := by
  obtain ⟨v, t, h1, h2, h3⟩ := q
  cases h3
  exact ⟨v, h1, h2⟩
theorem rql2 {H0 F H : Hp} {r u : R} {vs : List V} (q : RqL K T H0 F H [r, u] vs) : ∃ v w, vs = [v, w] ∧ Rq K T H0 F H v r ∧ Rq K T H0 F H w u := by
  obtain ⟨v, t, h1, h2, h3⟩ := q
  obtain ⟨w, rfl, h4⟩ := rql1 h3
  exact ⟨v, w, h1, h2, h4⟩
/-! ### len -/
def lenD : D → Option Int
  | .str s => if s.length ≤ 100000 then some s.length else none
  | .lst xs => some xs.length
  | .tup xs => some xs.length
  | _ => none
def dLen : List R → Option R
  | [r] => (lenD r.dat).map fun n => .val (.int n)
  | _ => none
theorem cd_len : CallD K T (fun xs H Q => ∃ x n, xs = [x] ∧ LenV K x H n ∧ Q (.int n) H) dLen := fun H0 F H vs rs c Q ok up q h k => by
  unfold dLen at h
  split at h
  · rename_i r
    obtain ⟨v, rfl, q1⟩ := rql1 q
    have z := q1.toH ok up
    cases e : lenD r.dat with
    | none => rw [e] at h; cases h
    | some n =>
      rw [e] at h
      cases h
      have w := k (.int n) F H (Le.refl ok) (by rw [Rr, Rp])
      unfold lenD at e
      split at e
      · rename_i s es
        split at e
        · rename_i hl
          cases e
          rw [es, Rp] at z
          subst z
          exact ⟨_, s.length, rfl, ⟨by rw [tx_len]; exact sz hl, (tx_len s).symm⟩, w⟩
        · cases e
      · rename_i s es
        cases e
        rw [es, Rp] at z
        obtain ⟨p, us, rfl, h2, h3⟩ := z
        exact ⟨_, s.length, rfl, .inl ⟨us, h2, h3.len⟩, w⟩
      · rename_i s es
        cases e
        rw [es, Rp] at z
        obtain ⟨p, us, rfl, h2, h3⟩ := z
        exact ⟨_, s.length, rfl, .inr ⟨us, h2, h3.len⟩, w⟩
      · cases e
  · cases h
/-! ### type, isinstance -/
def tyD : D → Option String
  | .non => some "NoneType"
  | .bl _ => some "bool"
  | .int _ => some "int"
  | .str _ => some "str"
  | .lst _ => some "list"
  | .tup _ => some "tuple"
  | _ => none
def tyD2 : D → Option String
  | .emp => some "dict"
  | d => tyD d
def dType : List R → Option R
  | [r] => (tyD2 r.dat).map fun n => .val (.ty n)
  | _ => none
theorem tyB_of {H : Hp} {d : D} {v : V} {n : String} (h : Rp K H d v) (e : tyD d = some n) : TyB K H v n := by
  cases d <;> simp only [tyD] at e <;> cases e <;> rw [Rp] at h
  · subst h; exact .non
  · subst h; exact .bl _
  · subst h; exact .int _
  · subst h; exact .str _
  · obtain ⟨a, vs, rfl, h2, _⟩ := h; exact .lst h2
  · obtain ⟨a, vs, rfl, h2, _⟩ := h; exact .tup h2
theorem tyB_of2 {H : Hp} {d : D} {v : V} {n : String} (h : Rp K H d v) (e : tyD2 d = some n) : TyB K H v n := by
  cases d <;> first | exact tyB_of h e | skip
  cases e
  rw [Rp] at h
  obtain ⟨a, rfl, h2⟩ := h
  exact .dK h2
theorem cd_type : CallD K T (rTyp K) dType := fun H0 F H vs rs c Q ok up q h k => by
  unfold dType at h
  split at h
  · rename_i r
    obtain ⟨v, rfl, q1⟩ := rql1 q
    cases e : tyD2 r.dat with
    | none => rw [e] at h; cases h
    | some n =>
      rw [e] at h
      cases h
      exact ⟨v, n, rfl, tyB_of2 (q1.toH ok up) e, k _ F H (Le.refl ok) (by rw [Rr, Rp])⟩
  · cases h
/-- isinstance of plain data and a built-in class -/
def isiB (a n : String) : Option Bool :=
  if n = "bool" then some (decide (a = "bool"))
  else if n = "int" then some (decide (a = "int") || decide (a = "bool"))
  else if n = "str" then some (decide (a = "str"))
  else if n = "list" then some (decide (a = "list"))
  else if n = "tuple" then some (decide (a = "tuple"))
  else none
def tyNames : List String := ["NoneType", "bool", "int", "str", "list", "tuple"]
theorem isiB_kit : ∀ a ∈ tyNames, ∀ n ∈ ["bool", "int", "str", "list", "tuple"], ∀ k, isiB a n = some k → kitB a n = some k := by
  have h : (tyNames.all fun a => ["bool", "int", "str", "list", "tuple"].all fun n => match isiB a n with
    | some k => decide (kitB a n = some k)
    | none => true) = true := by decide +kernel
  intro a ha n hn k hk
  have h1 := List.all_eq_true.mp h a ha
  have h2 := List.all_eq_true.mp h1 n hn
  rw [hk] at h2
  exact of_decide_eq_true h2
theorem isiB_n {a n : String} {k : Bool} (h : isiB a n = some k) : n ∈ ["bool", "int", "str", "list", "tuple"] := by
  unfold isiB at h
  by_cases h1 : n = "bool"
  · simp [h1]
  by_cases h2 : n = "int"
  · simp [h2]
  by_cases h3 : n = "str"
  · simp [h3]
  by_cases h4 : n = "list"
  · simp [h4]
  by_cases h5 : n = "tuple"
  · simp [h5]
  · simp [h1, h2, h3, h4, h5] at h
theorem tyD_n {d : D} {a : String} (h : tyD d = some a) : a ∈ tyNames := by
  cases d <;> simp only [tyD] at h <;> cases h <;> simp [tyNames]
def dIsi : List R → Option R
  | [r, .val (.ty n)] => match tyD r.dat with
    | some a => (isiB a n).map fun k => .val (.bl k)
    | none => none
  | _ => none
theorem tyX_of {H : Hp} {d : D} {v : V} {n : String} (h : Rp K H d v) (e : tyD d = some n) : TyX K H v (.type n) := by
  cases d <;> simp only [tyD] at e <;> cases e <;> rw [Rp] at h
  · subst h; exact .base .non
  · subst h; exact .base (.bl _)
  · subst h; exact .base (.int _)
  · subst h; exact .base (.str _)
  · obtain ⟨a, vs, rfl, h2, _⟩ := h
    rcases h2 with (h2 | ⟨o, h2⟩) | ⟨o, its, n, h2, h3, _⟩
    · exact .base (.lst h2)
    · exact .base (.frz h2)
    · exact .kList h2 h3
  · obtain ⟨a, vs, rfl, h2, _⟩ := h
    rcases h2 with (h2 | ⟨o, h2⟩) | ⟨o, its, n, h2, h3, _⟩
    · exact .base (.tup h2)
    · exact .fTuple h2
    · exact .kTuple h2 h3
theorem cd_isi : CallD K T (rIsi K) dIsi := fun H0 F H vs rs c Q ok up q h k => by
  unfold dIsi at h
  split at h
  · rename_i r n
    obtain ⟨v, w, rfl, q1, q2⟩ := rql2 q
    split at h
    · rename_i a ea
      cases e : isiB a n with
      | none => rw [e] at h; cases h
      | some b =>
        rw [e] at h
        cases h
        rw [Rq, Rp] at q2
        exact ⟨v, w, .type a, .type n, b, rfl, by rw [q2]; exact .ty n, tyX_of (q1.toH ok up) ea, kit_ty (isiB_kit a (tyD_n ea) n (isiB_n e) b e), k _ F H (Le.refl ok) (by rw [Rr, Rp])⟩
    · cases h
  · cases h
/-! ### int -/
/-- a text of one figure -/
def numS : List Nat → Option Int
  | [c] => if 48 ≤ c ∧ c ≤ 57 then some ((c : Int) - 48) else none
  | _ => none
theorem numS_ok {s : List Nat} {n : Int} (h : numS s = some n) : PySem.intText? (tx s) = some n := by
  unfold numS at h
  split at h
  · rename_i c
    split at h
    · rename_i hc
      cases h
      have : ∀ c, c ≤ 57 → 48 ≤ c → PySem.intText? (tx [c]) = some ((c : Int) - 48) := by
        have h : ((List.range 58).all fun c => decide (48 ≤ c → PySem.intText? (tx [c]) = some ((c : Int) - 48))) = true := by decide +kernel
        intro c h1 h2
        exact of_decide_eq_true (List.all_eq_true.mp h c (List.mem_range.mpr (by omega))) h2
      exact this c hc.2 hc.1
    · cases h
  · cases h
def dInt : List R → Option R
  | [.val (.int i)] => some (.val (.int i))
  | [.val (.bl b)] => some (.val (.int (if b then 1 else 0)))
  | [.val (.str s)] => if s.length ≤ 600 then (numS s).map fun n => .val (.int n) else none
  | _ => none
def rIntA : List V → Hp → VK → Prop := fun xs H Q => ((fun xs H Q => (∃ i, xs = [V.int i] ∧ Q (.int i) H) ∨ ∃ k, xs = [V.bl k] ∧ Q (.int (if k then 1 else 0)) H : List V → Hp → VK → Prop) xs H Q) ∨
  ((fun xs H Q => ∃ a n, xs = [V.str a] ∧ PySem.intText? a = some n ∧ a.length ≤ 640 ∧ Q (.int n) H : List V → Hp → VK → Prop) xs H Q)
theorem call_intA : CallR X (.type "int") rIntA := fun pins s σ H xs us Q I r h => by
  rcases h with h | h
  · exact call_int1 pins s σ H xs us Q I r h
  · exact call_int_str pins s σ H xs us Q I r h
theorem cd_int : CallD K T rIntA dInt := fun H0 F H vs rs c Q ok up q h k => by
  unfold dInt at h
  split at h
  · obtain ⟨v, rfl, q1⟩ := rql1 q
    cases h
    exact .inl (.inl ⟨_, by rw [rq_int q1], k _ F H (Le.refl ok) (by rw [Rr, Rp])⟩)
  · obtain ⟨v, rfl, q1⟩ := rql1 q
    cases h
    exact .inl (.inr ⟨_, by rw [rq_bl q1], k _ F H (Le.refl ok) (by rw [Rr, Rp])⟩)
  · rename_i s
    split at h
    · rename_i hl
      obtain ⟨v, rfl, q1⟩ := rql1 q
      cases e : numS s with
      | none => rw [e] at h; cases h
      | some n =>
        rw [e] at h
        cases h
        exact .inr ⟨tx s, n, by rw [rq_str q1], numS_ok e, by rw [tx_len]; omega, k _ F H (Le.refl ok) (by rw [Rr, Rp])⟩
    · cases h
  · cases h
/-! ### list(xs) -/
def signsD (s : List Nat) : List D := s.map fun c => .str [c]
theorem signs_rp {H : Hp} : ∀ s : List Nat, RpL K H (signsD s) (s.map fun c => V.str ⟨#[c]⟩)
  | [] => RpL.nil
  | c :: s => RpL.cons (by rw [Rp]; rfl) (signs_rp s)
def dList : List R → Option R
  | [.val (.str s)] => if s.length ≤ 100000 then some (.new (signsD s)) else none
  | [r] => r.itm.map .new
  | _ => none
def rListA (K : PySem.W.Frag) : List V → Hp → VK → Prop := fun xs H Q => (∃ p ys, xs = [V.ref p] ∧ (SqL K H p ys ∨ SqT K H p ys) ∧ ∀ l, H l = none → Q (.ref l) (upd H l (.lst ys))) ∨
  ∃ z, xs = [V.str z] ∧ z.length ≤ sizeLine ∧ ∀ l, H l = none → Q (.ref l) (upd H l (.lst (z.cps.toList.map fun c => V.str ⟨#[c]⟩)))
theorem signs_vals {z : Str} {us : List Value} (hl : us.length = z.cps.size) (h : ∀ (i : Nat) (u : Value), us[i]? = some u → ∃ (c : Nat) (t : Tok), z.cps[i]? = some c ∧ u = Value.str ⟨#[c]⟩ t) : Vals (z.cps.toList.map fun c => V.str ⟨#[c]⟩) us := by
  have e : (z.cps.toList.map fun c => V.str ⟨#[c]⟩) = (List.range us.length).map fun i => V.str ⟨#[z.cps.toList.getD i 0]⟩ := by
    rw [hl]
    apply List.ext_getElem
    · simp
    · intro i h1 h2
      simp at h1
      simp [h1]
  rw [e]
  refine vals_of_get us _ fun j u hj => ?_
  obtain ⟨c, t, h1, h2⟩ := h j u hj
  subst h2
  refine ⟨t, ?_⟩
  have : z.cps.toList.getD j 0 = c := by simp [h1]
  rw [this]
theorem call_listA (hc : X.calm = true) : CallR X (.type "list") (rListA X.K) := fun pins s σ H xs us Q I r h => by
  rcases h with h | ⟨z, rfl, hz, q⟩
  · exact call_list_of pins s σ H xs us Q I r h
  · obtain ⟨u, rfl, rx⟩ := vals1 r
    obtain ⟨t, rfl⟩ := rx
    refine call_list_str (I.ok.hd hc) z t (hn := hz) fun h' tk acc' c' hk hS hacc => ?_
    have hv : Vals (z.cps.toList.map fun c => V.str ⟨#[c]⟩) acc'.toList := signs_vals (by rw [Array.length_toList]; exact hacc.1) fun i u hu => hacc.2 i u (by rw [← Array.getElem?_toList]; exact hu)
    refine ⟨.ref s.heap.objs.size, _, I.laid (o := .lst (z.cps.toList.map fun c => V.str ⟨#[c]⟩)) hk (Nat.le_refl _) ⟨?_, acc'.toList, c', hv, ?_⟩, rfl, q _ I.fresh⟩
    · rw [List.length_map, Array.length_toList]; exact hz
    · rw [Array.toArray_toList]; exact hS
theorem cd_list : CallD K T (rListA K) dList := fun H0 F H vs rs c Q ok up q h k => by
  unfold dList at h
  split at h
  · rename_i s
    split at h
    · rename_i hl
      cases h
      obtain ⟨v, rfl, q1⟩ := rql1 q
      refine .inr ⟨tx s, by rw [rq_str q1], by rw [tx_len]; exact sz hl, fun p hp => ?_⟩
      rw [tx_list]
      exact k _ F _ (Le.newH ok hp) (rr_lst ok hp (signs_rp s))
    · cases h
  · rename_i r _
    obtain ⟨v, rfl, q1⟩ := rql1 q
    cases e : r.itm with
    | none => rw [e] at h; cases h
    | some xs =>
      rw [e] at h
      cases h
      obtain ⟨p, us, rfl, h1, h2⟩ := q1.itm ok up e
      exact .inl ⟨p, us, rfl, h1, fun l hl => k _ F _ (Le.newH ok hl) (rr_lst ok hl h2)⟩
  · cases h
end
end Fw
namespace Fw
open PySem PySem.Spec PyProof.Rows L2
/-! ### what is walked -/
section
variable {X : Cx} {tg : Expr} {pins : List (Addr × Obj)} {σ : L2.St} {H : Hp} {s : Shared} {Rk : It → Hp → Prop} {E : Value → Shared → Prop}
theorem it_list {a : Addr} {xs : List V} (I : Inv X pins σ H s) (hq : SqL X.K H a xs) (q : Rk (Itl X.K a) H) : wpAny (model X.prog X.w) X.A (pyIter (.ref a)) (PIE X pins σ tg Rk) E s := by
  obtain ⟨its, rv, p, hz⟩ := I.list hq
  exact wpAny_pyIter_list p.isList (pi_one (tk := s.toks) I _ (turn_list a _) ⟨_, Heap.get?_push_size _ rfl, rfl, rfl⟩ q)
theorem it_tup {a : Addr} {xs : List V} (I : Inv X pins σ H s) (hq : SqT X.K H a xs) (q : Rk (Itt X.K a) H) : wpAny (model X.prog X.w) X.A (pyIter (.ref a)) (PIE X pins σ tg Rk) E s := by
  obtain ⟨its, rv, p, hz⟩ := I.tuple hq
  exact wpAny_pyIter_tuple (show s.heap.IsTuple a its.toArray from p) (pi_one (tk := s.toks) I _ (turn_tuple a _) ⟨_, Heap.get?_push_size _ rfl, rfl, rfl⟩ q)
theorem it_str {x : Str} {t : Tok} (I : Inv X pins σ H s) (q : Rk (Its x) H) : wpAny (model X.prog X.w) X.A (pyIter (.str x t)) (PIE X pins σ tg Rk) E s := by
  cases ha : x.cps.all (· < 128)
  · exact wpAny_pyIter_wide ha (pi_one (tk := s.toks) I _ (turn_str _ x t "str_iterator" (.inr rfl)) ⟨_, Heap.get?_push_size _ rfl, rfl, rfl⟩ q)
  · exact wpAny_pyIter_ascii ha (pi_one (tk := s.toks) I _ (turn_str _ x t "str_ascii_iterator" (.inl rfl)) ⟨_, Heap.get?_push_size _ rfl, rfl, rfl⟩ q)
end
/-- the walk J gives the items xs, wherever S holds -/
def Src (K : PySem.W.Frag) (T : Tb) (H0 : Hp) (S : Hp → Hp → Prop) (xs : List R) (J : It) : Prop := ∃ (G : Hp → Prop) (Y : Nat → Hp → V → Hp → Prop), Walk J xs.length G Y ∧ (∀ F2 H2, S F2 H2 → G H2) ∧
  ∀ i H2 x H3 F2, i < xs.length → S F2 H2 → Y i H2 x H3 → ∃ F3 r, xs[i]? = some r ∧ Le T F2 H2 F3 H3 ∧ Rq K T H0 F3 H3 x r
/-- fz: a loop's body may change lists of its own -/
def Sta (T : Tb) (fz : Bool) (F0 H0 F' H' F2 H2 : Hp) : Prop := (if fz = true then Sub F' F2 else Le T F' H' F2 H2) ∧ Le T F0 H0 F2 H2
theorem Sta.f {T : Tb} {fz : Bool} {F0 H0 F' H' F2 H2 : Hp} (s : Sta T fz F0 H0 F' H' F2 H2) : Sub F' F2 := by
  cases fz with
  | true => exact s.1
  | false => exact Le.f s.1
def tI (fz : Bool) (K : PySem.W.Frag) (T : Tb) (W : WX) (f : Env → O (List R)) : TI := fun σ H Rk => ∃ F0 H0 F es, StOk K T F0 H0 F H σ es ∧ PO K T W F H σ (fun F' H' (J : It) xs => Src K T H0 (Sta T fz F0 H0 F' H') xs J) Rk (f es)
def DI (fz : Bool) (X : Cx) (T : Tb) (W : WX) (tg e : Expr) (f : Env → O (List R)) : Prop := PI X tg e (tI fz X.K T W f)
section
variable {X : Cx} {T : Tb} {W : WX} {tg a b e : Expr} {fa fb : Env → O R} {pos p p2 : Pos} {fz : Bool}
/-- items that stand -/
def itmR (fz : Bool) : R → Option (List R)
  | .val (.lst xs) => some (xs.map .val)
  | .val (.tup xs) => some (xs.map .val)
  | .val (.str s) => some ((signsD s).map .val)
  | .brw (.lst xs) => some (xs.map nrm)
  | .brw (.tup xs) => some (xs.map nrm)
  | .bor xs => if fz then none else some (xs.map .val)
  | _ => none
theorem val_at {K : PySem.W.Frag} {F2 : Hp} {xs : List D} {vs : List V} {i : Nat} {x : V} (r : RpL K F2 xs vs) (h : vs[i]? = some x) {H0 H3 : Hp} : ∃ rr, (xs.map R.val)[i]? = some rr ∧ Rq K T H0 F2 H3 x rr := by
  obtain ⟨d, h1, h2⟩ := r.getV h
  exact ⟨.val d, by rw [List.getElem?_map, h1]; rfl, h2⟩
theorem src_val {K : PySem.W.Frag} {F0 H0 F' H' : Hp} {a : Addr} {xs : List D} {vs : List V} (hs : SqL K F' a vs) (r : RpL K F' xs vs) : Src K T H0 (Sta T fz F0 H0 F' H') (xs.map .val) (Itl K a) := by
  refine ⟨fun H => SqL K H a vs, YAt vs, by rw [List.length_map, r.len]; exact walk_list, fun F2 H2 s => s.2.ok.sub.l (s.f.l hs), fun i H2 x H3 F2 hi s ⟨e, y⟩ => ?_⟩
  subst e
  obtain ⟨rr, h1, h2⟩ := val_at (T := T) (r.mono s.f) y (H0 := H0) (H3 := H3)
  exact ⟨F2, rr, h1, Le.refl s.2.ok, h2⟩
theorem src_valT {K : PySem.W.Frag} {F0 H0 F' H' : Hp} {a : Addr} {xs : List D} {vs : List V} (hs : SqT K F' a vs) (r : RpL K F' xs vs) : Src K T H0 (Sta T fz F0 H0 F' H') (xs.map .val) (Itt K a) := by
  refine ⟨fun H => SqT K H a vs, YAt vs, by rw [List.length_map, r.len]; exact walk_tup, fun F2 H2 s => s.2.ok.sub.t (s.f.t hs), fun i H2 x H3 F2 hi s ⟨e, y⟩ => ?_⟩
  subst e
  obtain ⟨rr, h1, h2⟩ := val_at (T := T) (r.mono s.f) y (H0 := H0) (H3 := H3)
  exact ⟨F2, rr, h1, Le.refl s.2.ok, h2⟩
theorem nrm_at {K : PySem.W.Frag} {H0 F2 H3 : Hp} {xs : List D} {vs : List V} {i : Nat} {x : V} (r : RpL K H0 xs vs) (h : vs[i]? = some x) : ∃ rr, (xs.map nrm)[i]? = some rr ∧ Rq K T H0 F2 H3 x rr := by
  obtain ⟨d, h1, h2⟩ := r.getV h
  exact ⟨nrm d, by rw [List.getElem?_map, h1]; rfl, rq_nrm h2⟩
theorem src_brw {K : PySem.W.Frag} {F0 H0 F' H' : Hp} {a : Addr} {xs : List D} {vs : List V} (ok0 : Ok T F0 H0) (hs : SqL K H0 a vs) (r : RpL K H0 xs vs) : Src K T H0 (Sta T fz F0 H0 F' H') (xs.map nrm) (Itl K a) := by
  refine ⟨fun H => SqL K H a vs, YAt vs, by rw [List.length_map, r.len]; exact walk_list, fun F2 H2 s => s.2.l ok0.odd hs, fun i H2 x H3 F2 hi s ⟨e, y⟩ => ?_⟩
  subst e
  obtain ⟨rr, h1, h2⟩ := nrm_at (T := T) r y (F2 := F2) (H3 := H3)
  exact ⟨F2, rr, h1, Le.refl s.2.ok, h2⟩
theorem src_brwT {K : PySem.W.Frag} {F0 H0 F' H' : Hp} {a : Addr} {xs : List D} {vs : List V} (ok0 : Ok T F0 H0) (hs : SqT K H0 a vs) (r : RpL K H0 xs vs) : Src K T H0 (Sta T fz F0 H0 F' H') (xs.map nrm) (Itt K a) := by
  refine ⟨fun H => SqT K H a vs, YAt vs, by rw [List.length_map, r.len]; exact walk_tup, fun F2 H2 s => s.2.t ok0.odd hs, fun i H2 x H3 F2 hi s ⟨e, y⟩ => ?_⟩
  subst e
  obtain ⟨rr, h1, h2⟩ := nrm_at (T := T) r y (F2 := F2) (H3 := H3)
  exact ⟨F2, rr, h1, Le.refl s.2.ok, h2⟩
theorem src_bor {K : PySem.W.Frag} {F0 H0 F' H' : Hp} {a : Addr} {xs : List D} {vs : List V} (nt : a ∉ T) (hs : H' a = some (.lst vs)) (r : RpL K F' xs vs) : Src K T H0 (Sta T false F0 H0 F' H') (xs.map .val) (Itl K a) := by
  refine ⟨fun H => SqL K H a vs, YAt vs, by rw [List.length_map, r.len]; exact walk_list, fun F2 H2 s => ?_, fun i H2 x H3 F2 hi s ⟨e, y⟩ => ?_⟩
  · have l : Le T F' H' F2 H2 := s.1
    exact .inl (.inl (l.h a _ nt hs))
  · subst e
    obtain ⟨rr, h1, h2⟩ := val_at (T := T) (r.mono s.f) y (H0 := H0) (H3 := H3)
    exact ⟨F2, rr, h1, Le.refl s.2.ok, h2⟩
theorem src_str {K : PySem.W.Frag} {F0 H0 F' H' : Hp} {s : List Nat} : Src K T H0 (Sta T fz F0 H0 F' H') ((signsD s).map .val) (Its (tx s)) := by
  refine ⟨fun _ => True, fun i H v H' => H' = H ∧ ∃ c, (tx s).cps[i]? = some c ∧ v = V.str ⟨#[c]⟩, by
    have e : ((signsD s).map R.val).length = (tx s).cps.size := by simp [signsD, tx]
    rw [e]; exact walk_str, fun _ _ _ => trivial, fun i H2 x H3 F2 hi st ⟨e, c, h1, h2⟩ => ?_⟩
  subst e h2
  refine ⟨F2, .val (.str [c]), ?_, Le.refl st.2.ok, ?_⟩
  · have : s[i]? = some c := by simpa [tx] using h1
    simp [signsD, this]
  · rw [Rq, Rp]; rfl
def fIt (fz : Bool) (fa : Env → O R) : Env → O (List R) := fun es => (fa es).bind fun r => O.of (itmR fz r.fz)
theorem di_any (ha : DE X T W a fa) : DI fz X T W tg a (fIt fz fa) := by
  refine ⟨fun pins s σ H Rk I h => ?_⟩
  obtain ⟨F0, H0, F, es, st, h⟩ := h
  refine thn (ha.run pins s σ H (fun v H1 => ∃ J, Rk J H1 ∧ ((∃ a xs, v = V.ref a ∧ SqL X.K H1 a xs ∧ J = Itl X.K a) ∨ (∃ a xs, v = V.ref a ∧ SqT X.K H1 a xs ∧ J = Itt X.K a) ∨ (∃ z, v = V.str z ∧ J = Its z))) I ⟨F0, H0, F, es, st, po_seq (rel' := fun F' H' (J : It) xs => Src X.K T H0 (Sta T fz F0 H0 F' H') xs J) st h (fun _ _ _ _ _ _ _ z => z) fun r v F1 H1 _ st1 l1 q1 h1 => ?_⟩) fun u s1 ⟨v, H1, I1, rv, J, hR, q⟩ => ?_
  · cases hi : itmR fz r.fz with
    | none => rw [hi] at h1; exact h1.elim
    | some xs =>
      rw [hi] at h1
      have fin : ∀ J, Src X.K T H0 (Sta T fz F0 H0 F1 H1) xs J → Rk J H1 := fun J s => h1 J F1 H1 (Le.refl st1.ok) s
      generalize r.fz = r' at hi q1
      unfold itmR at hi
      split at hi
      · cases hi
        rw [Rq, Rp] at q1
        obtain ⟨a, vs, rfl, h2, h3⟩ := q1
        exact ⟨_, fin _ (src_val h2 h3), .inl ⟨a, vs, rfl, st1.ok.sub.l h2, rfl⟩⟩
      · cases hi
        rw [Rq, Rp] at q1
        obtain ⟨a, vs, rfl, h2, h3⟩ := q1
        exact ⟨_, fin _ (src_valT h2 h3), .inr (.inl ⟨a, vs, rfl, st1.ok.sub.t h2, rfl⟩)⟩
      · cases hi
        exact ⟨_, fin _ src_str, .inr (.inr ⟨_, rq_str q1, rfl⟩)⟩
      · cases hi
        rw [Rq, Rp] at q1
        obtain ⟨a, vs, rfl, h2, h3⟩ := q1
        exact ⟨_, fin _ (src_brw st1.ok0 h2 h3), .inl ⟨a, vs, rfl, st1.up.l h2, rfl⟩⟩
      · cases hi
        rw [Rq, Rp] at q1
        obtain ⟨a, vs, rfl, h2, h3⟩ := q1
        exact ⟨_, fin _ (src_brwT st1.ok0 h2 h3), .inr (.inl ⟨a, vs, rfl, st1.up.t h2, rfl⟩)⟩
      · split at hi
        · cases hi
        · rename_i hf
          cases hi
          have e : fz = false := by simpa using hf
          subst e
          obtain ⟨p, vs, rfl, h2, h3, h4, h5⟩ := q1
          exact ⟨_, fin _ (src_bor h3 h4 h5), .inl ⟨p, vs, rfl, .inl (.inl h4), rfl⟩⟩
      · cases hi
  · rcases q with ⟨a, xs, rfl, h2, rfl⟩ | ⟨a, xs, rfl, h2, rfl⟩ | ⟨z, rfl, rfl⟩
    · cases rv
      exact it_list I1 h2 hR
    · cases rv
      exact it_tup I1 h2 hR
    · obtain ⟨t, rfl⟩ := rv
      exact it_str I1 hR
/-! range -/
def rgD (lo : Int) (n : Nat) : List R := (List.range n).map fun i => .val (.int (lo + (i : Nat)))
theorem src_range {K : PySem.W.Frag} {F0 H0 F' H' : Hp} {lo : Int} {n : Nat} : Src K T H0 (Sta T fz F0 H0 F' H') (rgD lo n) (Itr lo n) := by
  refine ⟨fun _ => True, YFn fun i => .int (lo + i), by
    have e : (rgD lo n).length = n := by simp [rgD]
    rw [e]; exact walk_range, fun _ _ _ => trivial, fun i H2 x H3 F2 hi st ⟨e, e2⟩ => ?_⟩
  subst e e2
  have hi' : i < n := by simpa [rgD] using hi
  exact ⟨F2, .val (.int (lo + i)), by simp [rgD, hi'], Le.refl st.2.ok, by rw [Rq, Rp]⟩
def fRg1 (fr : Env → O (List R)) : Env → O (List R) := fun es => (fr es).bind fun rs => match rs with
  | [.val (.int j)] => if -(2 ^ 62) ≤ j ∧ j < 2 ^ 62 then .ok (rgD 0 j.toNat) else .no
  | _ => .no
def fRg2 (fr : Env → O (List R)) : Env → O (List R) := fun es => (fr es).bind fun rs => match rs with
  | [.val (.int i), .val (.int j)] => if -(2 ^ 62) ≤ i ∧ i < 2 ^ 62 ∧ -(2 ^ 62) ≤ j ∧ j < 2 ^ 62 then .ok (rgD i (j - i).toNat) else .no
  | _ => .no
/-- arguments first, for what is walked -/
theorem pa_seqI {K : PySem.W.Frag} {F0 H0 F H : Hp} {σ : L2.St} {es : Env} {α β : Type} {rel rel' : Hp → Hp → β → α → Prop} {Q : β → Hp → Prop} {Q' : List V → Hp → Prop} {o : O (List R)} {g : List R → O α} (st : StOk K T F0 H0 F H σ es) (h : PO K T W F H σ rel Q (o.bind g))
    (hr : ∀ F' H' v a, rel' F' H' v a → rel F' H' v a)
    (k : ∀ rs vs F1 H1, o = .ok rs → StOk K T F0 H0 F1 H1 σ es → Le T F H F1 H1 → RqL K T H0 F1 H1 rs vs → PO K T W F1 H1 σ rel' Q (g rs) → Q' vs H1) : PO K T W F H σ (fun F' H' vs rs => RqL K T H0 F' H' rs vs) Q' o := by
  cases o with
  | ok a =>
    intro v F1 H1 l q
    exact k a v F1 H1 rfl (st.step l) l q (PO.step h l hr)
  | exc c fs => exact h
  | no => exact h
theorem di_range1 {fr : Env → O (List R)} (hm : X.mg "range" = none) (ha : DA X T W [a] fr) (hg : Gl X "range" := by rfl) (hs : starEach [a] X.env = [(false, eval a X.env)] := by rfl) : DI fz X T W tg (.Call (.Name "range" p) [a] [] pos) (fRg1 fr) :=
  pi_weak (pi_range1 hg hm ha hs) fun σ H Rk ⟨F0, H0, F, es, st, h⟩ => ⟨F0, H0, F, es, st, pa_seqI st h (fun _ _ _ _ z => z) fun rs vs F1 H1 _ st1 l1 q1 h1 => by
    split at h1
    · rename_i j _
      split at h1
      · rename_i hj
        obtain ⟨v, rfl, q2⟩ := rql1 q1
        exact ⟨j, by rw [rq_int q2], hj.1, hj.2, h1 _ F1 H1 (Le.refl st1.ok) src_range⟩
      · exact h1.elim
    · exact h1.elim⟩
theorem di_range2 {fr : Env → O (List R)} (hm : X.mg "range" = none) (ha : DA X T W [a, b] fr) (hg : Gl X "range" := by rfl) (hs : starEach [a, b] X.env = [(false, eval a X.env), (false, eval b X.env)] := by rfl) (hs2 : starEach [b] X.env = [(false, eval b X.env)] := by rfl) :
    DI fz X T W tg (.Call (.Name "range" p) [a, b] [] pos) (fRg2 fr) :=
  pi_weak (pi_range2 hg hm ha hs hs2) fun σ H Rk ⟨F0, H0, F, es, st, h⟩ => ⟨F0, H0, F, es, st, pa_seqI st h (fun _ _ _ _ z => z) fun rs vs F1 H1 _ st1 l1 q1 h1 => by
    split at h1
    · rename_i i j _
      split at h1
      · rename_i hj
        obtain ⟨v, w, rfl, q2, q3⟩ := rql2 q1
        exact ⟨i, j, by rw [rq_int q2, rq_int q3], hj, h1 _ F1 H1 (Le.refl st1.ok) src_range⟩
      · exact h1.elim
    · exact h1.elim⟩
/-! ### targets -/
inductive Tg where
  | nm (i : Nat) | tp (is : List Nat) | tq (i : Nat) (is : List Nat)
def gsOf : List Nat → TGs
  | [] => gNil
  | i :: is => gCons (gName i) (gsOf is)
def tgOf (K : PySem.W.Frag) : Tg → TG
  | .nm i => gName i
  | .tp is => gTup K is.length (gsOf is)
  | .tq i is => gTup K 2 (gCons (gName i) (gCons (gTup K is.length (gsOf is)) gNil))
def R.slot : R → Option Sl
  | .val d => some (.val d)
  | .brw d => some (.brw d)
  | _ => none
def setAll : List Nat → List R → Env → Option Env
  | [], [], es => some es
  | i :: is, r :: rs, es => match r.slot with
    | some s => setAll is rs (es.set i s)
    | none => none
  | _, _, _ => none
def R.parts : R → Option (List R)
  | .val (.tup ds) => some (ds.map .val)
  | .brw (.tup ds) => some (ds.map nrm)
  | _ => none
def stTg : Tg → R → Env → Option Env
  | .nm i, r, es => r.slot.map fun s => es.set i s
  | .tp is, r, es => match r.parts with
    | some rs => if rs.length = is.length then setAll is rs es else none
    | none => none
  | .tq i is, r, es => match r with
    | .val (.tup [d, .tup ds]) => if ds.length = is.length then setAll is (ds.map .val) (es.set i (.val d)) else none
    | _ => none
def Tg.at : Tg → List Nat
  | .nm i => [i]
  | .tp is => is
  | .tq i is => i :: is
end
section
variable {K : PySem.W.Frag} {T : Tb} {F0 H0 F H : Hp} {σ : L2.St} {es : Env}
theorem get_set {α : Type} {l : List α} {i j : Nat} {a b : α} (h : (l.set i a)[j]? = some b) : (i = j ∧ b = a) ∨ (i ≠ j ∧ l[j]? = some b) := by
  by_cases e : i = j
  · subst e
    rw [List.getElem?_set_self'] at h
    cases hl : l[i]? with
    | none => rw [hl] at h; cases h
    | some c => rw [hl] at h; exact .inl ⟨rfl, (Option.some.inj h).symm⟩
  · rw [List.getElem?_set_ne e] at h
    exact .inr ⟨e, h⟩
/-- a slot is stored: a value that stays -/
theorem StOk.set {i : Nat} {v : V} {s : Sl} (st : StOk K T F0 H0 F H σ es) (hs : match s with
    | .no => True
    | .val d => Rp K F d v
    | .brw d => Rp K H0 d v
    | .own xs => ∃ p vs, v = .ref p ∧ H0 p = none ∧ F p = none ∧ p ∉ T ∧ H p = some (.lst vs) ∧ RpL K F xs vs ∧ (∀ j ys, j ≠ i → es[j]? = some (.own ys) → σ[j]? ≠ some (some (.ref p))) ∧ ∀ (j : Nat) (yss : List (List D)) (p' : Addr) (ps' : List Addr), es[j]? = some (Sl.own2 yss) → σ[j]? = some (some (V.ref p')) → Own2 K T H0 F H p' ps' yss → p ≠ p' ∧ p ∉ ps'
    | .own2 _ => False
    | .odc _ _ => False) :
    StOk K T F0 H0 F H (σ.set i (some v)) (es.set i s) where
  ok0 := st.ok0
  le := st.le
  env := by
    have ln := st.env.len
    have at_ : ∀ {u : Sl}, (es.set i s)[i]? = some u → (σ.set i (some v))[i]? = some (some v) := fun {u} h => by
      have : i < σ.length := by
        rw [ln]
        have := (List.getElem?_eq_some_iff.mp h).1
        simpa using this
      simp [this]
    refine ⟨by simp [ln], fun j d h => ?_, fun j d h => ?_, fun j xs h => ?_, fun j k xs ys p h1 h2 h3 h4 => ?_, fun j yss h => ?_, st.env.dic.of (fun j ks ds h => ?_) (Sub.refl _) (fun _ _ _ f _ => f) (fun _ _ e _ _ => e)⟩
    · rcases get_set h with ⟨e, e2⟩ | ⟨e, e2⟩
      · subst e
        refine ⟨v, at_ h, ?_⟩
        rw [← e2] at hs
        exact hs
      · rw [List.getElem?_set_ne e]
        exact st.env.val j d e2
    · rcases get_set h with ⟨e, e2⟩ | ⟨e, e2⟩
      · subst e
        refine ⟨v, at_ h, ?_⟩
        rw [← e2] at hs
        exact hs
      · rw [List.getElem?_set_ne e]
        exact st.env.brw j d e2
    · rcases get_set h with ⟨e, e2⟩ | ⟨e, e2⟩
      · subst e
        rw [← e2] at hs
        obtain ⟨p, vs, h1, h2, h3, h4, h5, h6, _, _⟩ := hs
        exact ⟨p, vs, by rw [at_ h, h1], h2, h3, h4, h5, h6⟩
      · rw [List.getElem?_set_ne e]
        exact st.env.own j xs e2
    · rcases get_set h1 with ⟨e, e2⟩ | ⟨e, e2⟩
      · rcases get_set h2 with ⟨f, f2⟩ | ⟨f, f2⟩
        · rw [← e, ← f]
        · subst e
          rw [at_ h1] at h3
          rw [← e2] at hs
          obtain ⟨p', vs, g1, _, _, _, _, _, g, _⟩ := hs
          rw [List.getElem?_set_ne f] at h4
          have : p = p' := by
            have := Option.some.inj (Option.some.inj h3)
            rw [g1] at this
            cases this; rfl
          subst this
          exact absurd h4 (g k ys (Ne.symm f) f2)
      · rcases get_set h2 with ⟨f, f2⟩ | ⟨f, f2⟩
        · subst f
          rw [at_ h2] at h4
          rw [← f2] at hs
          obtain ⟨p', vs, g1, _, _, _, _, _, g, _⟩ := hs
          rw [List.getElem?_set_ne e] at h3
          have : p = p' := by
            have := Option.some.inj (Option.some.inj h4)
            rw [g1] at this
            cases this; rfl
          subst this
          exact absurd h3 (g j xs (Ne.symm e) e2)
        · rw [List.getElem?_set_ne e] at h3
          rw [List.getElem?_set_ne f] at h4
          exact st.env.uni j k xs ys p e2 f2 h3 h4
    · rcases get_set h with ⟨e, e2⟩ | ⟨e, e2⟩
      · rw [← e2] at hs
        exact hs.elim
      · obtain ⟨p, ps, h1, h2, h3, h4⟩ := st.env.two j yss e2
        refine ⟨p, ps, by rw [List.getElem?_set_ne e]; exact h1, h2, fun k xs q hk hq => ?_, fun k zss hk => ?_⟩
        · rcases get_set hk with ⟨f, f2⟩ | ⟨f, f2⟩
          · subst f
            rw [at_ hk] at hq
            rw [← f2] at hs
            obtain ⟨p', vs, g1, _, _, _, _, _, _, g⟩ := hs
            have e3 : q = p' := by
              have := Option.some.inj (Option.some.inj hq)
              rw [g1] at this
              cases this; rfl
            subst e3
            exact g j yss p ps e2 h1 h2
          · rw [List.getElem?_set_ne f] at hq
            exact h3 k xs q f2 hq
        · rcases get_set hk with ⟨f, f2⟩ | ⟨f, f2⟩
          · rw [← f2] at hs
            exact hs.elim
          · exact h4 k zss f2
    · rcases get_set h with ⟨e, e2⟩ | ⟨e, e2⟩
      · rw [← e2] at hs
        exact hs.elim
      · exact ⟨e2, List.getElem?_set_ne e⟩
theorem StOk.slot {i : Nat} {v : V} {r : R} {s : Sl} (st : StOk K T F0 H0 F H σ es) (q : Rq K T H0 F H v r) (e : r.slot = some s) : StOk K T F0 H0 F H (σ.set i (some v)) (es.set i s) := by
  cases r <;> simp only [R.slot] at e <;> cases e
  · exact st.set q
  · exact st.set q
theorem wipe_get (σ : L2.St) (i : Nat) : ∀ vs : List Nat, (wipe σ vs)[i]? = if i ∈ vs ∧ i < σ.length then some none else σ[i]?
  | [] => by simp [wipe]
  | v :: vs => by
    have ih := wipe_get σ i vs
    unfold wipe
    by_cases e : v = i
    · subst e
      by_cases hl : v < σ.length
      · have : v < (wipe σ vs).length := by rw [wipe_length]; exact hl
        simp [this, hl]
      · have h1 : (wipe σ vs).length ≤ v := by rw [wipe_length]; omega
        have h2 : σ[v]? = none := List.getElem?_eq_none (by omega)
        have h3 : ((wipe σ vs).set v none)[v]? = none := List.getElem?_eq_none (by simpa using h1)
        rw [h3, if_neg (fun z => hl z.2), h2]
    · rw [List.getElem?_set_ne e, ih]
      have : i ≠ v := fun z => e z.symm
      simp [this]
theorem wipe_set {σ : L2.St} {i : Nat} {x : Option V} {vs : List Nat} (h : i ∈ vs) : wipe (σ.set i x) vs = wipe σ vs := by
  apply List.ext_getElem?
  intro j
  rw [wipe_get, wipe_get]
  by_cases e : j ∈ vs
  · by_cases hl : j < σ.length
    · simp [e, hl]
    · have h1 : σ[j]? = none := List.getElem?_eq_none (by omega)
      have h2 : (σ.set i x)[j]? = none := List.getElem?_eq_none (by simp; omega)
      rw [h1, h2]
      simp [hl]
  · have : i ≠ j := fun z => e (z ▸ h)
    simp [e, List.getElem?_set_ne this]
theorem gs_ok {Q : L2.St → Hp → Prop} : ∀ {is : List Nat} {rs : List R} {xs : List V} {σ : L2.St} {es es' : Env}, StOk K T F0 H0 F H σ es → RqL K T H0 F H rs xs → setAll is rs es = some es' →
    (∀ σ', StOk K T F0 H0 F H σ' es' → (∀ vs, (∀ i ∈ is, i ∈ vs) → wipe σ' vs = wipe σ vs) → Q σ' H) → gsOf is xs σ H Q
  | [], rs, xs, σ, es, es', st, q, e, k => by
    cases rs with
    | nil =>
      cases q
      cases e
      exact ⟨rfl, k σ st fun _ _ => rfl⟩
    | cons => cases e
  | i :: is, rs, xs, σ, es, es', st, q, e, k => by
    cases rs with
    | nil => cases e
    | cons r rs =>
      obtain ⟨v, t, rfl, h2, h3⟩ := q
      simp only [setAll] at e
      split at e
      · rename_i s es
        refine ⟨v, t, rfl, ?_⟩
        exact gs_ok (st.slot h2 es) h3 e fun σ' st' hw => k σ' st' fun vs hv => (hw vs fun j hj => hv j (List.mem_cons_of_mem _ hj)).trans (wipe_set (hv i List.mem_cons_self))
      · cases e
theorem rql_val {F H : Hp} : ∀ {ds : List D} {vs : List V}, RpL K F ds vs → RqL K T H0 F H (ds.map .val) vs
  | [], vs, h => by rw [RpL] at h; exact h
  | d :: ds, vs, h => by
    rw [RpL] at h
    obtain ⟨v, r, h1, h2, h3⟩ := h
    exact ⟨v, r, h1, h2, rql_val h3⟩
theorem rql_nrm {F H : Hp} : ∀ {ds : List D} {vs : List V}, RpL K H0 ds vs → RqL K T H0 F H (ds.map nrm) vs
  | [], vs, h => by rw [RpL] at h; exact h
  | d :: ds, vs, h => by
    rw [RpL] at h
    obtain ⟨v, r, h1, h2, h3⟩ := h
    exact ⟨v, r, h1, rq_nrm h2, rql_nrm h3⟩
theorem tg_ok {t : Tg} {r : R} {x : V} {es' : Env} {Q : L2.St → Hp → Prop} (st : StOk K T F0 H0 F H σ es) (q : Rq K T H0 F H x r) (e : stTg t r es = some es')
    (k : ∀ σ', StOk K T F0 H0 F H σ' es' → (∀ vs, (∀ i ∈ t.at, i ∈ vs) → wipe σ' vs = wipe σ vs) → Q σ' H) : tgOf K t x σ H Q := by
  cases t with
  | nm i =>
    simp only [stTg] at e
    cases hs : r.slot with
    | none => rw [hs] at e; cases e
    | some s =>
      rw [hs] at e
      cases e
      exact k _ (st.slot q hs) fun vs hv => wipe_set (hv i (by simp [Tg.at]))
  | tp is =>
    simp only [stTg] at e
    split at e
    · rename_i rs hp
      split at e
      · rename_i hl
        cases r <;> simp only [R.parts] at hp <;> try cases hp
        all_goals (rename_i d; cases d <;> simp only [R.parts] at hp <;> try cases hp)
        · rw [Rq, Rp] at q
          obtain ⟨a, vs, rfl, h2, h3⟩ := q
          refine ⟨a, vs, rfl, st.ok.sub.t h2, by rw [← h3.len]; simpa using hl, ?_⟩
          exact gs_ok st (rql_val h3) e k
        · rw [Rq, Rp] at q
          obtain ⟨a, vs, rfl, h2, h3⟩ := q
          refine ⟨a, vs, rfl, st.up.t h2, by rw [← h3.len]; simpa using hl, ?_⟩
          exact gs_ok st (rql_nrm h3) e k
      · cases e
    · cases e
  | tq i is =>
    simp only [stTg] at e
    split at e
    · rename_i d ds
      split at e
      · rename_i hl
        rw [Rq, Rp] at q
        obtain ⟨a, vs, rfl, h2, h3⟩ := q
        rw [RpL] at h3
        obtain ⟨v, r1, rfl, g1, g2⟩ := h3
        rw [RpL] at g2
        obtain ⟨w, r2, rfl, g3, g4⟩ := g2
        rw [RpL] at g4
        subst g4
        rw [Rp] at g3
        obtain ⟨b, ws, rfl, g5, g6⟩ := g3
        refine ⟨a, _, rfl, st.ok.sub.t h2, rfl, v, _, rfl, .ref b, [], rfl, b, ws, rfl, st.ok.sub.t g5, by rw [← g6.len]; exact hl, ?_⟩
        refine gs_ok (st.set (i := i) (v := v) (s := .val d) g1) (rql_val g6) e fun σ' st' hw => ⟨rfl, k σ' st' fun vs hv => ?_⟩
        exact (hw vs fun j hj => hv j (by simp [Tg.at, hj])).trans (wipe_set (hv i (by simp [Tg.at])))
      · cases e
    · cases e
end
end Fw
namespace Fw
open PySem PySem.Spec PyProof.Rows L2
abbrev W0 : WX := fun _ _ _ _ => False
def noX {α : Type} : O α → O α
  | .ok a => .ok a
  | _ => .no
def wipeE : Env → List Nat → Env
  | es, [] => es
  | es, v :: vs => (wipeE es vs).set v .no
theorem wipeE_get (es : Env) (i : Nat) : ∀ vs : List Nat, (wipeE es vs)[i]? = if i ∈ vs ∧ i < es.length then some .no else es[i]?
  | [] => by simp [wipeE]
  | v :: vs => by
    have ih := wipeE_get es i vs
    have ln : (wipeE es vs).length = es.length := by
      clear ih
      induction vs with
      | nil => rfl
      | cons v vs ih => simp [wipeE, ih]
    unfold wipeE
    by_cases e : v = i
    · subst e
      by_cases hl : v < es.length
      · have : v < (wipeE es vs).length := by rw [ln]; exact hl
        simp [this, hl]
      · have h1 : (wipeE es vs).length ≤ v := by rw [ln]; omega
        have h2 : es[v]? = none := List.getElem?_eq_none (by omega)
        have h3 : ((wipeE es vs).set v Sl.no)[v]? = none := List.getElem?_eq_none (by simpa using h1)
        rw [h3, if_neg (fun z => hl z.2), h2]
    · rw [List.getElem?_set_ne e, ih]
      have : i ≠ v := fun z => e z.symm
      simp [this]
theorem wipeE_len (es : Env) : ∀ vs : List Nat, (wipeE es vs).length = es.length
  | [] => rfl
  | v :: vs => by simp [wipeE, wipeE_len es vs]
theorem wipeE_some {es : Env} {i : Nat} {s : Sl} {vs : List Nat} (h : (wipeE es vs)[i]? = some s) (hs : s ≠ .no) : es[i]? = some s ∧ i ∉ vs := by
  rw [wipeE_get] at h
  split at h
  · exact absurd (Option.some.inj h).symm hs
  · rename_i z
    have hl := (List.getElem?_eq_some_iff.mp h).1
    exact ⟨h, fun m => z ⟨m, hl⟩⟩
section
variable {K : PySem.W.Frag} {T : Tb} {F0 H0 F H : Hp} {σ : L2.St} {es : Env}
theorem StOk.wipe (st : StOk K T F0 H0 F H σ es) (vs : List Nat) : StOk K T F0 H0 F H (L2.wipe σ vs) (wipeE es vs) where
  ok0 := st.ok0
  le := st.le
  env := by
    have g : ∀ {i : Nat}, i ∉ vs → (L2.wipe σ vs)[i]? = σ[i]? := fun {i} n => by rw [wipe_get, if_neg (fun z => n z.1)]
    refine ⟨by rw [wipe_length, wipeE_len]; exact st.env.len, fun i d h => ?_, fun i d h => ?_, fun i xs h => ?_, fun i j xs ys p h1 h2 h3 h4 => ?_, fun i xss h => ?_, st.env.dic.of (fun i ks ds h => ?_) (Sub.refl _) (fun _ _ _ f _ => f) (fun _ _ e _ _ => e)⟩
    · obtain ⟨h1, h2⟩ := wipeE_some h (by simp)
      rw [g h2]; exact st.env.val i d h1
    · obtain ⟨h1, h2⟩ := wipeE_some h (by simp)
      rw [g h2]; exact st.env.brw i d h1
    · obtain ⟨h1, h2⟩ := wipeE_some h (by simp)
      rw [g h2]; exact st.env.own i xs h1
    · obtain ⟨h1, e1⟩ := wipeE_some h1 (by simp)
      obtain ⟨h2, e2⟩ := wipeE_some h2 (by simp)
      rw [g e1] at h3
      rw [g e2] at h4
      exact st.env.uni i j xs ys p h1 h2 h3 h4
    · obtain ⟨h1, h2⟩ := wipeE_some h (by simp)
      obtain ⟨p, ps, g1, g2, g3, g4⟩ := st.env.two i xss h1
      refine ⟨p, ps, by rw [g h2]; exact g1, g2, fun j xs q hj hq => ?_, fun j yss hj => ?_⟩
      · obtain ⟨k1, k2⟩ := wipeE_some hj (by simp)
        rw [g k2] at hq
        exact g3 j xs q k1 hq
      · exact g4 j yss (wipeE_some hj (by simp)).1
    · obtain ⟨h1, h2⟩ := wipeE_some h (by simp)
      exact ⟨h1, g h2⟩
end
/-! ### comprehensions -/
def lcL (tg : Tg) (cond : Env → O Bool) (elt : Env → O R) (es : Env) : List R → O (List D)
  | [] => .ok []
  | x :: xs => match stTg tg x es with
    | none => .no
    | some e1 => (noX (cond e1)).bind fun b => if b = true then (noX (elt e1)).bind fun r => match r.fz.sto with
        | none => .no
        | some d => (lcL tg cond elt es xs).bind fun ds => .ok (d :: ds)
      else lcL tg cond elt es xs
def fLc (src : Env → O (List R)) (vs : List Nat) (tg : Tg) (cond : Env → O Bool) (elt : Env → O R) : Env → O R := fun es => (src es).bind fun xs => if xs.length ≤ 90000 then (noX (lcL tg cond elt (wipeE es vs) xs)).bind fun ds => .ok (.new ds) else .no
def fYes : Env → O Bool := fun _ => .ok true
section
variable {X : Cx} {T : Tb} {W : WX}
theorem lc_weak {K : PySem.W.Frag} {src : Env → O (List R)} {vs : List Nat} {tg : Tg} {cond : Env → O Bool} {elt : Env → O R} {σ : L2.St} {H : Hp} {Q : VK} (hvs : ∀ i ∈ tg.at, i ∈ vs) (h : tD K T W (fLc src vs tg cond elt) σ H Q) :
    tLc (tI false K T W src) (tgOf K tg) (tT K T W0 cond) (tD K T W0 elt) vs σ H Q := by
  obtain ⟨F0, H0, F, es, st, h⟩ := h
  unfold fLc at h
  refine ⟨F0, H0, F, es, st, ?_⟩
  cases hs : src es with
  | no => rw [hs] at h; exact h
  | exc c fs => rw [hs] at h; exact h
  | ok xs =>
    rw [hs] at h
    intro J F1 H1 l1 ⟨G, Y, w, hG, hY⟩ Dl hD
    rw [O.bind_ok] at h
    split at h
    · rename_i hlen
      cases hds : lcL tg cond elt (wipeE es vs) xs with
      | no => rw [hds] at h; exact h.elim
      | exc c fs => rw [hds] at h; exact h.elim
      | ok ds =>
        rw [hds] at h
        have st1 := st.step l1
        have nT : Dl ∉ T := st1.ok.nt hD
        refine lc_it w (fun i H2 => ∃ F2 ds1 ds2 vs2, Le T F1 H1 F2 H2 ∧ F2 Dl = none ∧ H2 Dl = some (.lst vs2) ∧ RpL K F2 ds1 vs2 ∧ lcL tg cond elt (wipeE es vs) (xs.drop i) = .ok ds2 ∧ ds = ds1 ++ ds2 ∧ ds1.length ≤ i)
          ⟨F1, [], ds, [], Le.newH st1.ok hD, st1.ok.nf hD, upd_same, RpL.nil, hds, rfl, Nat.le_refl _⟩ ?_ ?_ ?_
        · intro i H2 hi ⟨F2, ds1, ds2, vs2, l2, _⟩
          exact hG F2 H2 ⟨l2, st1.le.trans l2⟩
        · intro i x H2 H3 hi ⟨F2, ds1, ds2, vs2, l2, hF, hH, hr, hl, he, hle⟩ hy
          obtain ⟨F3, r, hx, l3, q3⟩ := hY i H2 x H3 F2 hi ⟨l2, st1.le.trans l2⟩ hy
          have hdr : xs.drop i = r :: xs.drop (i + 1) := by
            have : i < xs.length := hi
            rw [List.drop_eq_getElem_cons this]
            rw [List.getElem?_eq_getElem this] at hx
            rw [Option.some.inj hx]
          rw [hdr] at hl
          simp only [lcL] at hl
          have st3 : StOk K T F0 H0 F3 H3 (L2.wipe σ vs) (wipeE es vs) := ((st1.step l2).step l3).wipe vs
          cases h1 : stTg tg r (wipeE es vs) with
          | none => rw [h1] at hl; cases hl
          | some e1 =>
            rw [h1] at hl
            simp only at hl
            refine tg_ok st3 q3 h1 fun σ' st' hw => ⟨?_, ?_⟩
            · rw [hw vs hvs]
              apply List.ext_getElem?
              intro j
              rw [wipe_get, wipe_get, wipe_length]
              split <;> rfl
            · refine ⟨F0, H0, F3, e1, st', ?_⟩
              cases hc : cond e1 with
              | no => rw [hc] at hl; cases hl
              | exc c fs => rw [hc] at hl; cases hl
              | ok b =>
                rw [hc] at hl
                simp only [noX, O.bind_ok] at hl
                intro b' F4 H4 l4 eb
                subst eb
                have hF3 : F3 Dl = none := l3.n Dl hF (by rw [hH]; simp)
                have hH3 : H3 Dl = some (.lst vs2) := l3.h Dl _ nT hH
                have hF4 : F4 Dl = none := l4.n Dl hF3 (by rw [hH3]; simp)
                have hH4 : H4 Dl = some (.lst vs2) := l4.h Dl _ nT hH3
                cases b' with
                | false =>
                  rw [if_neg Bool.false_ne_true]
                  rw [if_neg Bool.false_ne_true] at hl
                  exact ⟨F4, ds1, ds2, vs2, (l2.trans l3).trans l4, hF4, hH4, hr.mono (l3.f.trans l4.f), hl, he, by omega⟩
                | true =>
                  rw [if_pos rfl]
                  rw [if_pos rfl] at hl
                  refine ⟨F0, H0, F4, e1, st'.step l4, ?_⟩
                  cases hel : elt e1 with
                  | no => rw [hel] at hl; cases hl
                  | exc c fs => rw [hel] at hl; cases hl
                  | ok r2 =>
                    rw [hel] at hl
                    simp only [noX, O.bind_ok] at hl
                    intro y F5 H5 l5 q5
                    obtain ⟨F6, l6, _, q6⟩ := q5.fz l5
                    split at hl
                    · cases hl
                    · rename_i d hd
                      cases hrest : lcL tg cond elt (wipeE es vs) (xs.drop (i + 1)) with
                      | no => rw [hrest] at hl; cases hl
                      | exc c fs => rw [hrest] at hl; cases hl
                      | ok ds3 =>
                        rw [hrest] at hl
                        cases hl
                        have hF6 : F6 Dl = none := l6.n Dl hF4 (by rw [hH4]; simp)
                        have hH6 : H5 Dl = some (.lst vs2) := l6.h Dl _ nT hH4
                        have hsub : Sub F2 F6 := (l3.f.trans l4.f).trans l6.f
                        refine ⟨vs2, hH6, by rw [← hr.len]; exact szl (by omega), F6, ds1 ++ [d], ds3, vs2 ++ [y], (((l2.trans l3).trans l4).trans l6).mut hD hF6 nT, hF6, upd_same, (hr.mono hsub).app (RpL.cons (q6.sto hd) RpL.nil), rfl, by rw [he]; simp, by simp; omega⟩
        · intro H2 ⟨F2, ds1, ds2, vs2, l2, hF, hH, hr, hl, he, hle⟩
          have e0 : xs.drop xs.length = [] := List.drop_length
          rw [e0] at hl
          cases hl
          have e1 : ds = ds1 := by rw [he]; simp
          subst e1
          exact h (.ref Dl) F2 H2 (l1.trans l2) (Rr.back l1 ⟨Dl, vs2, rfl, hD, hF, nT, hH, hr⟩)
    · exact h.elim
/-- a clause's tests -/
def DTs (X : Cx) (T : Tb) (ifs : List Expr) (f : Env → O Bool) : Prop := PTs X ifs (tT X.K T W0 f)
theorem pts_weak {ifs : List Expr} {t t' : TT} (h : PTs X ifs t) (w : ∀ σ H Q, t' σ H Q → t σ H Q) : PTs X ifs t' := ⟨fun pins s σ H Q I q => h.run pins s σ H Q I (w σ H Q q)⟩
theorem dts_nil : DTs X T [] fYes := pts_weak pts_nil fun σ H Q ⟨F0, H0, F, es, st, h⟩ => h true F H (Le.refl st.ok) rfl
theorem dts_one {c : Expr} {f : Env → O Bool} (h : DT X T W0 c f) : DTs X T [c] f := pts_one h
theorem de_lc {elt tg iter : Expr} {ifs : List Expr} {scope : Scope} {own : List (Str × Nat)} {pos : Pos} {src : Env → O (List R)} {t : Tg} {cond : Env → O Bool} {fe : Env → O R} (hN : X.N.Nodup) (hi : DI false X T W tg iter src) (ok : BlkOk X.N X.env.scope scope own)
    (hg : ∀ (s : Shared) (H : Hp) (C : Addr) (cl : List (Str × Addr)) (fp : List Addr), PG (X.blk s H scope (compEnvC scope cl C X.env) fp) tg (tgOf X.K t))
    (ht : ∀ (s : Shared) (H : Hp) (C : Addr) (cl : List (Str × Addr)) (fp : List Addr), DTs (X.blk s H scope (compEnvC scope cl C X.env) fp) T ifs cond)
    (he : ∀ (s : Shared) (H : Hp) (C : Addr) (cl : List (Str × Addr)) (fp : List Addr), DE (X.blk s H scope (compEnvC scope cl C X.env) fp) T W0 elt fe) (hc : X.calm = true := by rfl) (hs : ∀ x, foldedSetIterable iter X.env x = pure x := by intro _; rfl)
    (hvs : ∀ i ∈ t.at, i ∈ own.map (·.2) := by decide) :
    DE X T W (.ListComp elt [⟨tg, iter, ifs, 0⟩] scope pos) (fLc src (own.map (·.2)) t cond fe) :=
  pe_weak (pe_lc (tt := tT X.K T W0 cond) (te := tD X.K T W0 fe) hc hN hi ok hg (fun s H C cl fp => ht s H C cl fp) (fun s H C cl fp => he s H C cl fp) hs) fun σ H Q h => lc_weak hvs h
end
/-! ### targets by their places -/
section
variable {X : Cx} {pos : Pos}
theorem pgN (i : Nat) {K : PySem.W.Frag} {x : Str} (hN : X.N.Nodup) (hi : X.N[i]? = some x := by rfl) (hx : Loc X.env.scope x := by first | exact Or.inl rfl | exact Or.inr rfl) (hf : X.fn x = true ∨ X.env.scope.names.lookup x = some .local := by first | exact .inl rfl | exact .inr rfl) : PG X (.Name x pos) (tgOf K (.nm i)) := pg_name hN hi hx hf
theorem pgs0 : PGs X [] (gsOf []) := pgs_nil
theorem pgs1 {e : Expr} {es : List Expr} {i : Nat} {is : List Nat} (h : PG X e (tgOf X.K (.nm i))) (r : PGs X es (gsOf is)) (hs : (assignEach (e :: es) X.env).map (·.2) = assign e X.env :: (assignEach es X.env).map (·.2) := by rfl) : PGs X (e :: es) (gsOf (i :: is)) := pgs_cons h r hs
theorem pgT {es : List Expr} {k : Nat} {is : List Nat} (h : PGs X es (gsOf is)) (hn : (assignEach es X.env).length = is.length := by rfl) (hst : (assignEach es X.env).findIdx? (·.1) = none := by rfl) (hc : X.calm = true := by rfl) : PG X (.Tuple es k pos) (tgOf X.K (.tp is)) := pg_tup hc h hn hst
theorem pgQ {e e2 : Expr} {k : Nat} {i : Nat} {is : List Nat} (h : PG X e (tgOf X.K (.nm i))) (h2 : PG X e2 (tgOf X.K (.tp is))) (hn : (assignEach [e, e2] X.env).length = 2 := by rfl) (hst : (assignEach [e, e2] X.env).findIdx? (·.1) = none := by rfl) (hc : X.calm = true := by rfl)
    (hs : (assignEach [e, e2] X.env).map (·.2) = assign e X.env :: (assignEach [e2] X.env).map (·.2) := by rfl) (hs2 : (assignEach [e2] X.env).map (·.2) = assign e2 X.env :: (assignEach [] X.env).map (·.2) := by rfl) : PG X (.Tuple [e, e2] k pos) (tgOf X.K (.tq i is)) := pg_tup hc (pgs_cons h (pgs_cons h2 pgs_nil hs2) hs) hn hst
end
/-! ### statements -/
inductive Out where
  | nx (es : Env) | rt (r : R) | br (es : Env) | ct (es : Env) | exc (es : Env) (c : Addr) (fs : Option (List Str × List D)) | no
section
variable (K : PySem.W.Frag) (T : Tb) (W : WX) (F0 H0 : Hp)
/-- what follows an outcome; Fc: what stands before -/
def OutOk (Fc : Hp) (D : Ends) : Out → Prop
  | .nx es => ∀ σ F H, Sub Fc F → StOk K T F0 H0 F H σ es → D.nx σ H
  | .br es => ∀ σ F H, Sub Fc F → StOk K T F0 H0 F H σ es → D.bk σ H
  | .ct es => ∀ σ F H, Sub Fc F → StOk K T F0 H0 F H σ es → D.ct σ H
  | .rt r => ∀ v F H, Le T F0 H0 F H → Rr K T H0 H0 F H v r → D.rt v H
  | .exc es c fs => ∀ cls d σ F H, Sub Fc F → StOk K T F0 H0 F H σ es → XOk K F c fs cls d → W cls d σ H
  | .no => False
def tS (g : Env → Out) : TS := fun D σ H => ∃ F es, StOk K T F0 H0 F H σ es ∧ OutOk K T W F0 H0 F D (g es)
end
def DS (X : Cx) (T : Tb) (W : WX) (st : Stmt) (g : Env → Out) : Prop := ∀ F0 H0, PS X st (tS X.K T W F0 H0 g)
def DSs (X : Cx) (T : Tb) (W : WX) (st : List Stmt) (g : Env → Out) : Prop := ∀ F0 H0, PSs X st (tS X.K T W F0 H0 g)
def Out.seq (o : Out) (g : Env → Out) : Out := match o with
  | .nx es => g es
  | o => o
@[simp] theorem Out.seq_nx (es : Env) (g : Env → Out) : (Out.nx es).seq g = g es := rfl
@[simp] theorem Out.seq_rt (r : R) (g : Env → Out) : (Out.rt r).seq g = .rt r := rfl
@[simp] theorem Out.seq_no (g : Env → Out) : Out.no.seq g = .no := rfl
@[simp] theorem Out.seq_br (es : Env) (g : Env → Out) : (Out.br es).seq g = .br es := rfl
@[simp] theorem Out.seq_ct (es : Env) (g : Env → Out) : (Out.ct es).seq g = .ct es := rfl
@[simp] theorem Out.seq_exc (es : Env) (c fs) (g : Env → Out) : (Out.exc es c fs).seq g = .exc es c fs := rfl
def gSeq (g h : Env → Out) : Env → Out := fun es => (g es).seq h
def gNext : Env → Out := fun es => .nx es
/-- an expression's outcome in a statement -/
def O.out {α : Type} (o : O α) (es : Env) (k : α → Out) : Out := match o with
  | .ok a => k a
  | .exc c fs => .exc es c fs
  | .no => .no
@[simp] theorem O.out_ok {α : Type} (a : α) (es : Env) (k : α → Out) : (O.ok a).out es k = k a := rfl
@[simp] theorem O.out_exc {α : Type} (c fs) (es : Env) (k : α → Out) : (O.exc c fs : O α).out es k = .exc es c fs := rfl
@[simp] theorem O.out_no {α : Type} (es : Env) (k : α → Out) : (O.no : O α).out es k = .no := rfl
section
variable {X : Cx} {T : Tb} {W : WX} {st : Stmt} {rest : List Stmt} {g h : Env → Out} {e : Expr} {f : Env → O R} {pos : Pos}
theorem OutOk.sub {K : PySem.W.Frag} {F0 H0 Fc Fd : Hp} {D : Ends} {o : Out} (h : OutOk K T W F0 H0 Fc D o) (l : Sub Fc Fd) : OutOk K T W F0 H0 Fd D o := by
  cases o with
  | nx es => exact fun σ F H z s => h σ F H (l.trans z) s
  | br es => exact fun σ F H z s => h σ F H (l.trans z) s
  | ct es => exact fun σ F H z s => h σ F H (l.trans z) s
  | rt r => exact h
  | exc es c fs => exact fun cls d σ F H z s x => h cls d σ F H (l.trans z) s x
  | no => exact h
theorem dss_nil : DSs X T W [] gNext := fun F0 H0 => pss_weak pss_nil fun D σ H ⟨F, es, st, h⟩ => h σ F H (Sub.refl _) st
theorem dss_cons (h1 : DS X T W st g) (h2 : DSs X T W rest h) : DSs X T W (st :: rest) (gSeq g h) := fun F0 H0 => pss_weak (pss_cons (h1 F0 H0) (h2 F0 H0)) fun D σ H ⟨F, es, st, q⟩ => by
  refine ⟨F, es, st, ?_⟩
  unfold gSeq at q
  cases hg : g es with
  | nx es' => rw [hg] at q; exact fun σ' F' H' z s => ⟨F', es', s, q.sub z⟩
  | rt r => rw [hg] at q; exact q
  | br es' => rw [hg] at q; exact q
  | ct es' => rw [hg] at q; exact q
  | exc es' c fs => rw [hg] at q; exact q
  | no => rw [hg] at q; exact q
theorem dss_one (h1 : DS X T W st g) : DSs X T W [st] g := fun F0 H0 => pss_one (h1 F0 H0)
/-- an expression, then k of what it gives -/
theorem out_seq {K : PySem.W.Frag} {F0 H0 F H : Hp} {σ : L2.St} {es : Env} {α β : Type} {rel : Hp → Hp → β → α → Prop} {Q : β → Hp → Prop} {o : O α} {k : α → Out} {D : Ends} (st : StOk K T F0 H0 F H σ es) (h : OutOk K T W F0 H0 F D (o.out es k))
    (hk : ∀ a v F1 H1, o = .ok a → StOk K T F0 H0 F1 H1 σ es → Le T F H F1 H1 → rel F1 H1 v a → OutOk K T W F0 H0 F1 D (k a) → Q v H1) : PO K T W F H σ rel Q o := by
  cases o with
  | ok a => exact fun v F1 H1 l q => hk a v F1 H1 rfl (st.step l) l q (h.sub l.f)
  | exc c fs => exact fun cls d F1 H1 l q => h cls d σ F1 H1 l.f (st.step l) q
  | no => exact h
/-! name = e -/
def gSet (i : Nat) (fz : Bool) (f : Env → O R) : Env → Out := fun es => (f es).out es fun r => match (if fz = true then r.fz else r) with
  | .val d => .nx (es.set i (.val d))
  | .brw d => .nx (es.set i (.brw d))
  | .new xs => .nx (es.set i (.own xs))
  | .bor _ => .no
theorem set_weak {K : PySem.W.Frag} {F0 H0 : Hp} {i : Nat} {fz : Bool} {D : Ends} {σ : L2.St} {H : Hp} (q : tS K T W F0 H0 (gSet i fz f) D σ H) : tAsg (tD K T W f) (gName i) D σ H := by
  obtain ⟨F, es, st, q⟩ := q
  refine ⟨F0, H0, F, es, st, out_seq st q fun r v F1 H1 _ st1 l1 q1 h1 => ?_⟩
  show D.nx (σ.set i (some v)) H1
  cases fz with
  | true =>
    rw [if_pos rfl] at h1
    obtain ⟨F2, l2, s12, q2⟩ := q1.fz l1
    have st2 := st.step l2
    replace h1 := h1.sub s12
    generalize r.fz = r' at h1 q2
    cases r' with
    | val d => exact h1 _ F2 H1 (Sub.refl _) (st2.set q2)
    | brw d => exact h1 _ F2 H1 (Sub.refl _) (st2.set q2)
    | new xs => exact q2.elim
    | bor xs => exact h1.elim
  | false =>
    rw [if_neg Bool.false_ne_true] at h1
    cases r with
    | val d => exact h1 _ F1 H1 (Sub.refl _) (st1.set q1)
    | brw d => exact h1 _ F1 H1 (Sub.refl _) (st1.set q1)
    | new xs =>
      obtain ⟨p, vs, e1, e2, e3, e4, e5, e6⟩ := q1
      have h0p : H0 p = none := by
        cases z : H0 p with
        | none => rfl
        | some o => rw [st.le.h p o e4 z] at e2; cases e2
      refine h1 _ F1 H1 (Sub.refl _) (st1.set ⟨p, vs, e1, h0p, e3, e4, e5, e6, fun j ys hj hy hs => ?_, fun j yss p' ps' hy hs ho => ?_⟩)
      obtain ⟨p', vs', g1, _, _, _, g5, _⟩ := st.env.own j ys hy
      rw [g1] at hs
      cases hs
      rw [g5] at e2
      cases e2
      obtain ⟨p2, ps2, g1, g2, _⟩ := st.env.two j yss hy
      rw [g1] at hs
      cases hs
      have g2' := g2.step l1
      have ep : ps2 = ps' := refs_inj (HO.lst.inj (Option.some.inj (g2'.2.2.2.1.symm.trans ho.2.2.2.1)))
      subst ep
      refine ⟨fun z => ?_, fun z => ?_⟩
      · rw [z, g2.2.2.2.1] at e2; cases e2
      · obtain ⟨k, hk⟩ := List.mem_iff_getElem?.mp z
        obtain ⟨_, _, _, us, xs', _, g5, _⟩ := g2.2.2.2.2.2.2.2 k p hk
        rw [g5] at e2; cases e2
    | bor xs => exact h1.elim
theorem ds_set {i : Nat} {fz : Bool} {x : Str} {pos' : Pos} (hN : X.N.Nodup) (he : DE X T W e f) (hi : X.N[i]? = some x := by rfl) (hx : Loc X.env.scope x := by first | exact Or.inl rfl | exact Or.inr rfl) (hs : swapsWith e (some (.Name x pos')) pos.line X.env = pure false := by rfl)
    (hf : X.fn x = true ∨ X.env.scope.names.lookup x = some .local := by first | exact .inl rfl | exact .inr rfl) : DS X T W (.Assign [.Name x pos'] e pos) (gSet i fz f) := fun F0 H0 => ps_weak (ps_set hN hi hx he hs hf) fun D σ H q => set_weak q
/-- name = [..], one clause, the name a local -/
theorem ds_setLc {i : Nat} {fz : Bool} {y : Str} {py : Pos} {elt tg iter : Expr} {ifs : List Expr} {scope : Scope} {own : List (Str × Nat)} {pos spos : Pos} {src : Env → O (List R)} {t : Tg} {cond : Env → O Bool} {fe : Env → O R} (hN : X.N.Nodup) (hi : DI false X T W tg iter src) (ok : BlkOk X.N X.env.scope scope own)
    (hg : ∀ (s : Shared) (H : Hp) (C : Addr) (cl : List (Str × Addr)) (fp : List Addr), PG (X.blk s H scope (compEnvC scope cl C X.env) fp) tg (tgOf X.K t))
    (ht : ∀ (s : Shared) (H : Hp) (C : Addr) (cl : List (Str × Addr)) (fp : List Addr), DTs (X.blk s H scope (compEnvC scope cl C X.env) fp) T ifs cond)
    (he : ∀ (s : Shared) (H : Hp) (C : Addr) (cl : List (Str × Addr)) (fp : List Addr), DE (X.blk s H scope (compEnvC scope cl C X.env) fp) T W0 elt fe)
    (hy : X.N[i]? = some y := by rfl) (hyl : X.env.scope.names.lookup y = some .local := by rfl) (hsw : swapsWith (.ListComp elt [⟨tg, iter, ifs, 0⟩] scope pos) (some (.Name y py)) spos.line X.env = pure true := by exact sw_true rfl rfl rfl (by decide +kernel))
    (hc : X.calm = true := by rfl) (hs : ∀ x, foldedSetIterable iter X.env x = pure x := by intro _; rfl) (hvs : ∀ i ∈ t.at, i ∈ own.map (·.2) := by decide) :
    DS X T W (.Assign [.Name y py] (.ListComp elt [⟨tg, iter, ifs, 0⟩] scope pos) spos) (gSet i fz (fLc src (own.map (·.2)) t cond fe)) := fun F0 H0 =>
  ps_weak (ps_setLc (tt := tT X.K T W0 cond) (te := tD X.K T W0 fe) hc hN hy hyl hsw hi ok hg (fun s H C cl fp => ht s H C cl fp) (fun s H C cl fp => he s H C cl fp) hs) fun D σ H q => by
    have z := set_weak q
    show tLc _ _ _ _ _ _ _ _
    exact lc_weak hvs z
/-! target = e -/
def gAsg (t : Tg) (f : Env → O R) : Env → Out := fun es => (f es).out es fun r => match stTg t r.fz es with
  | some es' => .nx es'
  | none => .no
theorem ds_asg {tg : Expr} {t : Tg} (he : DE X T W e f) (hg : PG X tg (tgOf X.K t)) (hs : swapsWithSole [tg] e pos.line X.env = pure false := by rfl) (hw : swappedStores [tg] e X.env = pure none := by rfl)
    (h1 : (assignEach [tg] X.env).map (·.2) = [assign tg X.env] := by rfl) : DS X T W (.Assign [tg] e pos) (gAsg t f) := fun F0 H0 => ps_weak (ps_asg he hg hs hw h1) fun D σ H ⟨F, es, st, q⟩ => by
  refine ⟨F0, H0, F, es, st, out_seq st q fun r v F1 H1 _ st1 l1 q1 h1 => ?_⟩
  obtain ⟨F2, l2, s12, q2⟩ := q1.fz l1
  have st2 := st.step l2
  cases ht : stTg t r.fz es with
  | none => rw [ht] at h1; exact h1.elim
  | some es' =>
    rw [ht] at h1
    exact tg_ok st2 q2 ht fun σ' st' _ => h1 σ' F2 H1 s12 st'
/-! e; return e; if -/
def gExpr (f : Env → O R) : Env → Out := fun es => (f es).out es fun _ => .nx es
theorem ds_expr (he : DE X T W e f) (hs : swapsWith e none pos.line X.env = pure false := by rfl) : DS X T W (.Expr e pos) (gExpr f) := fun F0 H0 => ps_weak (ps_expr he hs) fun D σ H ⟨F, es, st, q⟩ =>
  ⟨F0, H0, F, es, st, out_seq st q fun r v F1 H1 _ st1 l1 q1 h1 => h1 σ F1 H1 (Sub.refl _) st1⟩
theorem ds_doc {x j pos pos'} : DS X T W (.Expr (.Constant (.str x) j pos) pos') gNext := fun F0 H0 => ps_weak ps_doc fun D σ H ⟨F, es, st, h⟩ => h σ F H (Sub.refl _) st
def gRet (f : Env → O R) : Env → Out := fun es => (f es).out es fun r => match r with
  | .val d => .rt (.val d)
  | .new xs => .rt (.new xs)
  | .bor _ => .no
  | .brw _ => .no
def gRetV (i : Nat) : Env → Out := fun es => (fVar i es).out es fun r => match r with
  | .val d => .rt (.val d)
  | .new xs => .rt (.new xs)
  | .bor xs => .rt (.new xs)
  | .brw _ => .no
theorem StOk.h0 {K : PySem.W.Frag} {F0 H0 F H : Hp} {σ : L2.St} {es : Env} (st : StOk K T F0 H0 F H σ es) {p : Addr} (nt : p ∉ T) (h : H p = none) : H0 p = none := by
  cases z : H0 p with
  | none => rfl
  | some o => rw [st.le.h p o nt z] at h; cases h
theorem ds_ret (he : DE X T W e f) : DS X T W (.Return (some e) pos) (gRet f) := fun F0 H0 => ps_weak (ps_ret he) fun D σ H ⟨F, es, st, q⟩ =>
  ⟨F0, H0, F, es, st, out_seq st q fun r v F1 H1 hr st1 l1 q1 h1 => by
    cases r with
    | val d => exact h1 v F1 H1 st1.le q1
    | brw d => exact h1.elim
    | bor xs => exact h1.elim
    | new xs => exact h1 v F1 H1 st1.le (Rr.back st.le q1)⟩
/-- return x -/
theorem ds_retV (i : Nat) {x : Str} {p : Pos} (hN : X.N[i]? = some x := by rfl) (hv : Vis X.env.scope x := by first | exact Or.inl rfl | exact Or.inr (Or.inl rfl) | exact Or.inr (Or.inr rfl)) (hd : (x == ("__debug__" : Str)) = false := by decide)
    (hcd : (x == ("__classdict__" : Str)) = false := by decide) : DS X T W (.Return (some (.Name x p)) pos) (gRetV i) := fun F0 H0 => ps_weak (ps_ret (pv i hN hv hd hcd)) fun D σ H ⟨F, es, st, q⟩ => by
  unfold gRetV at q
  cases hf : fVar i es with
  | no => rw [hf] at q; exact q.elim
  | exc c fs =>
    unfold fVar at hf
    split at hf <;> cases hf
  | ok r =>
    rw [hf] at q
    obtain ⟨v, h1, h2⟩ := st.var hf
    refine ⟨v, h1, ?_⟩
    cases r with
    | val d => exact q v F H st.le h2
    | brw d => exact q.elim
    | new xs =>
      unfold fVar at hf
      split at hf
      · cases hf
      · rename_i d _
        unfold nrm at hf
        split at hf <;> cases hf
      · cases hf
      · cases hf
    | bor xs =>
      have e : es[i]? = some (.own xs) := by
        unfold fVar at hf
        split at hf
        · cases hf
        · rename_i d _
          unfold nrm at hf
          split at hf <;> cases hf
        · rename_i e
          cases hf
          exact e
        · cases hf
      obtain ⟨p, vs, g1, g2, g3, g4, g5, g6⟩ := st.env.own i xs e
      rw [g1] at h1
      cases h1
      exact q (.ref p) F H st.le ⟨p, vs, rfl, g2, g3, g4, g5, g6⟩
def gRetN : Env → Out := fun _ => .rt (.val .non)
theorem ds_retN : DS X T W (.Return none pos) gRetN := fun F0 H0 => ps_weak ps_retN fun D σ H ⟨F, es, st, q⟩ => q .non F H st.le (by rw [Rr, Rp])
def gIf (c : Env → O Bool) (g h : Env → Out) : Env → Out := fun es => (c es).out es fun b => if b = true then g es else h es
theorem ds_if {c : Expr} {fc : Env → O Bool} {sa sb : List Stmt} (hc : DT X T W c fc) (ha : DSs X T W sa g) (hb : DSs X T W sb h) : DS X T W (.If c sa sb pos) (gIf fc g h) := fun F0 H0 => ps_weak (ps_if hc (ha F0 H0) (hb F0 H0)) fun D σ H ⟨F, es, st, q⟩ =>
  ⟨F0, H0, F, es, st, out_seq (rel := fun _ _ b a => b = a) st q fun a b F1 H1 _ st1 l1 q1 h1 => by
    subst q1
    cases b with
    | true => exact ⟨F1, es, st1, h1⟩
    | false => exact ⟨F1, es, st1, h1⟩⟩
def gPass : Env → Out := gNext
theorem ds_pass : DS X T W (.Pass pos) gNext := fun F0 H0 => ps_weak ps_pass fun D σ H ⟨F, es, st, h⟩ => h σ F H (Sub.refl _) st
def gBreak : Env → Out := fun es => .br es
def gCont : Env → Out := fun es => .ct es
theorem ds_break : DS X T W (.Break pos) gBreak := fun F0 H0 => ps_weak ps_break fun D σ H ⟨F, es, st, h⟩ => h σ F H (Sub.refl _) st
theorem ds_cont : DS X T W (.Continue pos) gCont := fun F0 H0 => ps_weak ps_continue fun D σ H ⟨F, es, st, h⟩ => h σ F H (Sub.refl _) st
/-! for -/
def forL (t : Tg) (body : Env → Out) : List R → Env → Out
  | [], es => .nx es
  | x :: xs, es => match stTg t x es with
    | none => .no
    | some e1 => match body e1 with
      | .nx e2 => forL t body xs e2
      | .ct e2 => forL t body xs e2
      | .br e2 => .nx e2
      | .rt r => .rt r
      | .exc es c fs => .exc es c fs
      | .no => .no
def gFor (src : Env → O (List R)) (t : Tg) (body : Env → Out) : Env → Out := fun es => (src es).out es fun xs => forL t body xs es
theorem ds_for {tg iter : Expr} {body : List Stmt} {src : Env → O (List R)} {t : Tg} (hi : DI true X T W tg iter src) (hg : PG X tg (tgOf X.K t)) (hb : DSs X T W body g) (hp : PassesOwn (model X.prog X.w) X.A X.env X.xe) (hc : X.calm = true := by rfl) (hs : ∀ x, foldedSetIterable iter X.env x = pure x := by intro _; rfl) :
    DS X T W (.For tg iter body [] pos) (gFor src t g) := fun F0 H0 => ps_weak (ps_for hp hc hi hg (hb F0 H0) hs) fun D σ H ⟨F, es, st, q⟩ => by
  refine ⟨F0, H0, F, es, st, out_seq st q fun xs J F1 H1 _ st1 l1 ⟨G, Y, w, hG, hY⟩ h1 => ?_⟩
  refine for_it w (fun i σ2 H2 => ∃ F2 e2, Sub F1 F2 ∧ StOk X.K T F0 H0 F2 H2 σ2 e2 ∧ OutOk X.K T W F0 H0 F2 D (forL t g (xs.drop i) e2)) ⟨F1, es, Sub.refl _, st1, h1⟩ ?_ ?_ ?_
  · intro i σ2 H2 hi ⟨F2, e2, s2, st2, _⟩
    exact hG F2 H2 ⟨s2, st2.le⟩
  · intro i x σ2 H2 H3 hi ⟨F2, e2, s2, st2, o2⟩ hy
    obtain ⟨F3, r, hx, l3, q3⟩ := hY i H2 x H3 F2 hi ⟨s2, st2.le⟩ hy
    have hdr : xs.drop i = r :: xs.drop (i + 1) := by
      have : i < xs.length := hi
      rw [List.drop_eq_getElem_cons this]
      rw [List.getElem?_eq_getElem this] at hx
      rw [Option.some.inj hx]
    rw [hdr] at o2
    simp only [forL] at o2
    cases he : stTg t r e2 with
    | none => rw [he] at o2; exact o2.elim
    | some e3 =>
      rw [he] at o2
      simp only at o2
      refine tg_ok (st2.step l3) q3 he fun σ3 st3 _ => ⟨F3, e3, st3, ?_⟩
      have s3 : Sub F1 F3 := s2.trans l3.f
      replace o2 := o2.sub l3.f
      cases hb : g e3 with
      | nx e4 => rw [hb] at o2; exact fun σ4 F4 H4 z st4 => ⟨F4, e4, s3.trans z, st4, o2.sub z⟩
      | ct e4 => rw [hb] at o2; exact fun σ4 F4 H4 z st4 => ⟨F4, e4, s3.trans z, st4, o2.sub z⟩
      | br e4 => rw [hb] at o2; exact o2
      | rt r => rw [hb] at o2; exact o2
      | exc es c fs => rw [hb] at o2; exact o2
      | no => rw [hb] at o2; exact o2
  · intro σ2 H2 ⟨F2, e2, s2, st2, o2⟩
    have e0 : xs.drop xs.length = [] := List.drop_length
    rw [e0] at o2
    exact o2 σ2 F2 H2 (Sub.refl _) st2
end
end Fw
namespace Fw
open PySem PySem.Spec PyProof.Rows L2
/-! ### lists of one's own that change -/
section
variable {K : PySem.W.Frag} {T : Tb} {F0 H0 F H : Hp} {σ : L2.St} {es : Env}
theorem StOk.mutOwn {i : Nat} {xs xs' : List D} {p : Addr} {vs' : List V} (st : StOk K T F0 H0 F H σ es) (he : es[i]? = some (.own xs)) (hp : σ[i]? = some (some (.ref p))) (r : RpL K F xs' vs') :
    StOk K T F0 H0 F (upd H p (.lst vs')) σ (es.set i (.own xs')) := by
  obtain ⟨p', vs, h1, h2, h3, h4, h5, h6⟩ := st.env.own i xs he
  have e : p = p' := by rw [hp] at h1; cases h1; rfl
  subst e
  have hi : i < es.length := (List.getElem?_eq_some_iff.mp he).1
  refine ⟨st.ok0, st.le.mut h2 h3 h4, ⟨by simpa using st.env.len, fun j d h => ?_, fun j d h => ?_, fun j ys h => ?_, fun j k xs ys q g1 g2 g3 g4 => ?_, fun j yss h => ?_, st.env.dic.of (fun j ks ds h => ?_) (Sub.refl _) (fun _ _ _ f _ => f) (fun q us e _ _ => by
    rw [upd_ne (fun z => by subst z; rw [h5] at e; cases e)]; exact e)⟩⟩
  · rcases get_set h with ⟨e, e2⟩ | ⟨e, e2⟩
    · cases e2
    · exact st.env.val j d e2
  · rcases get_set h with ⟨e, e2⟩ | ⟨e, e2⟩
    · cases e2
    · exact st.env.brw j d e2
  · rcases get_set h with ⟨e, e2⟩ | ⟨e, e2⟩
    · subst e
      cases e2
      exact ⟨p, vs', h1, h2, h3, h4, upd_same, r⟩
    · obtain ⟨q, us, g1, g2, g3, g4, g5, g6⟩ := st.env.own j ys e2
      refine ⟨q, us, g1, g2, g3, g4, ?_, g6⟩
      have : q ≠ p := fun z => by
        subst z
        exact e (st.env.uni i j xs ys q he e2 h1 g1)
      rw [upd_ne this]; exact g5
  · have w : ∀ {j : Nat} {ys : List D}, (es.set i (.own xs'))[j]? = some (.own ys) → ∃ zs, es[j]? = some (.own zs) := fun {j ys} h => by
      rcases get_set h with ⟨e, _⟩ | ⟨_, e2⟩
      · exact ⟨_, e ▸ he⟩
      · exact ⟨_, e2⟩
    obtain ⟨_, w1⟩ := w g1
    obtain ⟨_, w2⟩ := w g2
    exact st.env.uni j k _ _ q w1 w2 g3 g4
  · rcases get_set h with ⟨e, e2⟩ | ⟨e, e2⟩
    · cases e2
    · obtain ⟨p2, ps, g1, g2, g3, g4⟩ := st.env.two j yss e2
      obtain ⟨n1, n2⟩ := g3 i xs p he h1
      obtain ⟨k1, k2, k3, k4, k5, k6, k7, k8⟩ := g2
      refine ⟨p2, ps, g1, ⟨k1, k2, k3, by rw [upd_ne (Ne.symm n1)]; exact k4, k5, k6, k7, fun m q hm => ?_⟩, fun m zs q hm hq => ?_, fun m zss hm => ?_⟩
      · obtain ⟨f1, f2, f3, us, zs, f4, f5, f6⟩ := k8 m q hm
        have : q ≠ p := fun z => n2 (z ▸ List.mem_iff_getElem?.mpr ⟨m, hm⟩)
        exact ⟨f1, f2, f3, us, zs, f4, by rw [upd_ne this]; exact f5, f6⟩
      · rcases get_set hm with ⟨f, _⟩ | ⟨_, f2⟩
        · subst f; exact g3 i xs q he hq
        · exact g3 m zs q f2 hq
      · rcases get_set hm with ⟨f, f2⟩ | ⟨_, f2⟩
        · cases f2
        · exact g4 m zss f2
  · rcases get_set h with ⟨e, e2⟩ | ⟨e, e2⟩
    · cases e2
    · exact ⟨e2, rfl⟩
end
section
variable {X : Cx} {T : Tb} {W : WX} {e : Expr} {f : Env → O R} {x : Str} {p1 p2 p3 pos : Pos} {g : Env → Out}
/-! x.append(e) -/
def gApp (i : Nat) (f : Env → O R) : Env → Out := fun es => match es[i]? with
  | some (.own xs) => (f es).out es fun r => match r.fz.sto with
    | some d => if xs.length < 90000 then .nx (es.set i (.own (xs ++ [d]))) else .no
    | none => .no
  | _ => .no
theorem own_ty {K : PySem.W.Frag} {H : Hp} {p : Addr} {vs : List V} (h : H p = some (.lst vs)) : tyV K "list" (.ref p) H := Or.inl ⟨rfl, _, SqL.of h⟩
theorem ds_app (i : Nat) (he : DE X T W e f) (hN : X.N[i]? = some x := by rfl) (hv : Vis X.env.scope x := by first | exact Or.inl rfl | exact Or.inr (Or.inl rfl) | exact Or.inr (Or.inr rfl)) (hd : (x == ("__debug__" : Str)) = false := by decide)
    (hcd : (x == ("__classdict__" : Str)) = false := by decide)
    (hst : starEach [e] X.env = (false, eval e X.env) :: starEach [] X.env := by rfl)
    (hbase : attributeBase (.Name x p1) "append" X.env (eval (.Name x p1) X.env) = eval (.Name x p1) X.env := by rfl)
    (hfew : ((backTo p3 (starEach [e] X.env)).all (fun x => !x.1) && (backToKw p3 (keywordEach [] X.env)).all (fun x => x.1.isSome) && decide ([e].length + ([] : List Keyword).length + (if ([] : List Keyword).isEmpty then 0 else 1) < 30)) = true := by rfl)
    (hline : (p2.endLine == p3.line) = true := by rfl)
    (hs : swapsWith (.Call (.Attribute (.Name x p1) "append" p2) [e] [] p3) none pos.line X.env = pure false := by rfl) :
    DS X T W (.Expr (.Call (.Attribute (.Name x p1) "append" p2) [e] [] p3) pos) (gApp i f) := fun F0 H0 =>
  ps_weak (ps_expr (pe_bm PySem.F.plainAttrs_list PySem.F.slot_list_append PySem.F.type_list_append mt_append (pv i hN hv hd hcd) (pa_cons he pa_nil hst) hbase hfew hline hst rfl) hs) fun D σ H ⟨F, es, st, q⟩ => by
    unfold gApp at q
    split at q
    · rename_i xs e1
      obtain ⟨p, vs, h1, h2, h3, h4, h5, h6⟩ := st.env.own i xs e1
      refine ⟨.ref p, h1, own_ty h5, F0, H0, F, es, st, out_seq st q fun r v F1 H1 _ _ l1 q1 q => ?_⟩
      split at q
      · rename_i d e2
        split at q
        · rename_i hl
          obtain ⟨F2, l2, s2, q2⟩ := q1.fz l1
          have st2 := st.step l2
          have h5' : H1 p = some (.lst vs) := l2.h p _ h4 h5
          have rr : RpL X.K F2 (xs ++ [d]) (vs ++ [v]) := (h6.mono l2.f).app (RpL.cons (q2.sto e2) RpL.nil)
          exact ⟨p, vs, v, rfl, rfl, h5', by rw [← h6.len]; exact szl (by omega), q _ F2 _ s2 (st2.mutOwn e1 h1 rr)⟩
        · exact q.elim
      · exact q.elim
    · exact q.elim
/-! x.clear() -/
def gClr (i : Nat) : Env → Out := fun es => match es[i]? with
  | some (.own _) => .nx (es.set i (.own []))
  | _ => .no
theorem ds_clr (i : Nat) (hN : X.N[i]? = some x := by rfl) (hv : Vis X.env.scope x := by first | exact Or.inl rfl | exact Or.inr (Or.inl rfl) | exact Or.inr (Or.inr rfl)) (hd : (x == ("__debug__" : Str)) = false := by decide)
    (hcd : (x == ("__classdict__" : Str)) = false := by decide)
    (hbase : attributeBase (.Name x p1) "clear" X.env (eval (.Name x p1) X.env) = eval (.Name x p1) X.env := by rfl)
    (hline : (p2.endLine == p3.line) = true := by rfl)
    (hs : swapsWith (.Call (.Attribute (.Name x p1) "clear" p2) [] [] p3) none pos.line X.env = pure false := by rfl) :
    DS X T W (.Expr (.Call (.Attribute (.Name x p1) "clear" p2) [] [] p3) pos) (gClr i) := fun F0 H0 =>
  ps_weak (ps_expr (pe_bm0 PySem.F.plainAttrs_list PySem.F.slot_list_clear PySem.F.type_list_clear mt_clear (pv i hN hv hd hcd) hbase hline) hs) fun D σ H ⟨F, es, st, q⟩ => by
    unfold gClr at q
    split at q
    · rename_i xs e1
      obtain ⟨p, vs, h1, h2, h3, h4, h5, h6⟩ := st.env.own i xs e1
      exact ⟨.ref p, h1, own_ty h5, p, vs, rfl, rfl, h5, q _ F _ (Sub.refl _) (st.mutOwn e1 h1 RpL.nil)⟩
    · exact q.elim
/-! x[k] = e -/
def gSetI (i : Nat) (fk f : Env → O R) : Env → Out := fun es => (f es).out es fun r => match es[i]? with
  | some (.own xs) => (fk es).out es fun k => match k.fz, r.fz.sto with
    | .val (.int j), some d => match ixN xs.length j with
      | some n => .nx (es.set i (.own (xs.set n d)))
      | none => .no
    | _, _ => .no
  | _ => .no
theorem ds_setI (i : Nat) {ek : Expr} {fk : Env → O R} {pt : Pos} (hk : DE X T W ek fk) (he : DE X T W e f) (hN : X.N[i]? = some x := by rfl) (hv : Vis X.env.scope x := by first | exact Or.inl rfl | exact Or.inr (Or.inl rfl) | exact Or.inr (Or.inr rfl)) (hd : (x == ("__debug__" : Str)) = false := by decide)
    (hcd : (x == ("__classdict__" : Str)) = false := by decide) {tp : Pos}
    (hg : PG X (.Subscript (.Name x p1) ek tp) (gSub (tVar i) (tD X.K T W fk) rSetL)) (hs : swapsWithSole [.Subscript (.Name x p1) ek tp] e pos.line X.env = pure false := by rfl) (hw : swappedStores [.Subscript (.Name x p1) ek tp] e X.env = pure none := by rfl)
    (h1 : (assignEach [.Subscript (.Name x p1) ek tp] X.env).map (·.2) = [assign (.Subscript (.Name x p1) ek tp) X.env] := by rfl) :
    DS X T W (.Assign [.Subscript (.Name x p1) ek tp] e pos) (gSetI i fk f) := fun F0 H0 =>
  ps_weak (ps_asg he hg hs hw h1) fun D σ H ⟨F, es, st, q⟩ => by
    refine ⟨F0, H0, F, es, st, out_seq st q fun r v F1 H1 _ _ l1 q1 q => ?_⟩
    obtain ⟨F2, l2, s2, q2⟩ := q1.fz l1
    have st2 := st.step l2
    replace q := q.sub s2
    split at q
    · rename_i xs e1
      obtain ⟨p, vs, h1, h2, h3, h4, h5, h6⟩ := st2.env.own i xs e1
      refine ⟨.ref p, h1, F0, H0, F2, es, st2, out_seq st2 q fun k u F3 H3 _ _ l3 q3 q => ?_⟩
      obtain ⟨F4, l4, s4, q4⟩ := q3.fz l3
      have st4 := st2.step l4
      split at q
      · rename_i j d e2 e3
        split at q
        · rename_i n e4
          rw [e2] at q4
          refine ⟨p, vs, j, n, rfl, rq_int q4, l4.h p _ h4 h5, by rw [← h6.len]; exact e4, ?_⟩
          exact q _ F4 _ s4 (st4.mutOwn e1 h1 ((h6.mono l4.f).set n (((q2.step l4)).sto e3)))
        · exact q.elim
      · exact q.elim
    · exact q.elim
/-! while -/
def whL (c : Env → O Bool) (body : Env → Out) : Nat → Env → Out
  | 0, _ => .no
  | n + 1, es => (c es).out es fun b => if b = true then match body es with
      | .nx e2 => whL c body n e2
      | .ct e2 => whL c body n e2
      | .br e2 => .nx e2
      | .rt r => .rt r
      | .exc es c fs => .exc es c fs
      | .no => .no
    else .nx es
def gWhile (n : Nat) (c : Env → O Bool) (body : Env → Out) : Env → Out := whL c body n
theorem ds_while (n : Nat) {c : Expr} {fc : Env → O Bool} {body : List Stmt} (hc : DT X T W c fc) (hb : DSs X T W body g) (hp : PassesOwn (model X.prog X.w) X.A X.env X.xe) : DS X T W (.While c body [] pos) (gWhile n fc g) := fun F0 H0 =>
  ps_weak (ps_while hp hc (hb F0 H0)) fun D σ H ⟨F, es, st, q⟩ => by
    refine ⟨fun m σ H => ∃ F es, StOk X.K T F0 H0 F H σ es ∧ OutOk X.K T W F0 H0 F D (whL fc g m es), ⟨n, F, es, st, q⟩, ?_⟩
    intro m σ H ⟨F, es, st, q⟩
    refine ⟨F0, H0, F, es, st, ?_⟩
    cases m with
    | zero => exact q.elim
    | succ m =>
      simp only [whL] at q
      refine out_seq (rel := fun _ _ b a => b = a) st q fun a b F1 H1 _ st1 l1 q1 h1 => ?_
      subst q1
      cases b with
      | false => exact h1 σ F1 H1 (Sub.refl _) st1
      | true =>
        rw [if_pos rfl] at h1
        refine ⟨fun σ' H' => ∃ F' es', StOk X.K T F0 H0 F' H' σ' es' ∧ OutOk X.K T W F0 H0 F' D (whL fc g m es'), fun σ' H' w => ⟨m, Nat.lt_succ_self _, w⟩, ?_⟩
        refine ⟨F1, es, st1, ?_⟩
        cases hb : g es with
        | nx e2 => rw [hb] at h1; exact fun σ' F' H' z s => ⟨F', e2, s, h1.sub z⟩
        | ct e2 => rw [hb] at h1; exact fun σ' F' H' z s => ⟨F', e2, s, h1.sub z⟩
        | br e2 => rw [hb] at h1; exact h1
        | rt r => rw [hb] at h1; exact h1
        | exc es c fs => rw [hb] at h1; exact h1
        | no => rw [hb] at h1; exact h1
end
/-! ### a def's body -/
def slotD (d : D) : Sl := if flat d then .val d else .brw d
def startE (n : Nat) (ds : List D) : Env := ds.map slotD ++ List.replicate (n - ds.length) .no
/-- a def that raises nothing, by its body -/
def run0 (n : Nat) (body : Env → Out) (ds : List D) : O R := match body (startE n ds) with
  | .nx _ => .ok (.val .non)
  | .rt r => .ok r
  | _ => .no
def runX (n : Nat) (body : Env → Out) (ds : List D) : O R := match body (startE n ds) with
  | .nx _ => .ok (.val .non)
  | .rt r => .ok r
  | .exc _ c fs => .exc c fs
  | _ => .no
section
variable {K : PySem.W.Frag} {T : Tb} {F H : Hp}
theorem start_ok {N : List Str} {ds : List D} {vs : List V} (ok : Ok T F H) (r : RpL K H ds vs) : StOk K T F H F H (L2.start N vs) (startE N.length ds) where
  ok0 := ok
  le := Le.refl ok
  env := by
    have ln := r.len
    have at_ : ∀ {i : Nat} {s : Sl}, (startE N.length ds)[i]? = some s → s ≠ .no → ∃ d v, ds[i]? = some d ∧ s = slotD d ∧ (L2.start N vs)[i]? = some (some v) ∧ Rp K H d v := fun {i s} h hn => by
      unfold startE at h
      by_cases hi : i < ds.length
      · rw [List.getElem?_append_left (by simpa using hi), List.getElem?_map] at h
        cases hd : ds[i]? with
        | none => rw [hd] at h; cases h
        | some d =>
          rw [hd] at h
          cases h
          obtain ⟨v, h1, h2⟩ := r.get hd
          refine ⟨d, v, rfl, rfl, ?_, h2⟩
          unfold L2.start
          rw [List.getElem?_append_left (by simp; omega), List.getElem?_map, h1]; rfl
      · rw [List.getElem?_append_right (by simp; omega), List.getElem?_replicate] at h
        split at h
        · cases h; exact absurd rfl hn
        · cases h
    refine ⟨by simp [L2.start, startE, ln], fun i d h => ?_, fun i d h => ?_, fun i xs h => ?_, fun i j xs ys p h1 h2 h3 h4 => ?_, fun i xss h => ?_, ⟨fun i ks es h => ?_, fun i j ks es ls fs p h1 h2 h3 h4 => ?_⟩⟩
    · obtain ⟨d', v, h1, h2, h3, h4⟩ := at_ h (by simp)
      unfold slotD at h2
      split at h2
      · rename_i f
        cases h2
        exact ⟨v, h3, Rp.flat f h4⟩
      · cases h2
    · obtain ⟨d', v, h1, h2, h3, h4⟩ := at_ h (by simp)
      unfold slotD at h2
      split at h2
      · cases h2
      · cases h2
        exact ⟨v, h3, h4⟩
    · obtain ⟨d', v, h1, h2, h3, h4⟩ := at_ h (by simp)
      unfold slotD at h2
      split at h2 <;> cases h2
    · obtain ⟨d', v, g1, g2, g3, g4⟩ := at_ h1 (by simp)
      unfold slotD at g2
      split at g2 <;> cases g2
    · obtain ⟨d', v, g1, g2, g3, g4⟩ := at_ h (by simp)
      unfold slotD at g2
      split at g2 <;> cases g2
    · obtain ⟨d', v, g1, g2, g3, g4⟩ := at_ h (by simp)
      unfold slotD at g2
      split at g2 <;> cases g2
    · obtain ⟨d', v, g1, g2, g3, g4⟩ := at_ h1 (by simp)
      unfold slotD at g2
      split at g2 <;> cases g2
/-- what is handed back, as the promise has it -/
theorem run_out {W : WX} {E : XK} {Q : VK} {body : Env → Out} {n : Nat} {ds : List D} {g : List D → O R} (hW : ∀ cls d σ H, E cls d H → W cls d σ H) (hg : ∀ ds, g ds = runX n body ds)
    (h : match g ds with
      | .ok (.val d) => ∀ v F' H', Le T F H F' H' → Rr K T H H F' H' v (.val d) → Q v H'
      | .ok (.new xs) => ∀ v F' H', Le T F H F' H' → Rr K T H H F' H' v (.new xs) → Q v H'
      | .exc c fs => ∀ cls d F' H', Le T F H F' H' → XOk K F' c fs cls d → E cls d H'
      | _ => False) : OutOk K T W F H F { nx := fun _ H' => Q .non H', rt := Q } (body (startE n ds)) := by
  rw [hg] at h
  unfold runX at h
  cases hb : body (startE n ds) with
  | nx es => rw [hb] at h; exact fun σ F' H' z s => h .non F' H' s.le (by rw [Rr, Rp])
  | br es => rw [hb] at h; exact h.elim
  | ct es => rw [hb] at h; exact h.elim
  | no => rw [hb] at h; exact h.elim
  | exc es c fs => rw [hb] at h; exact fun cls d σ F' H' z s x => hW _ _ _ _ (h cls d F' H' s.le x)
  | rt r =>
    rw [hb] at h
    cases r with
    | val d => exact fun v F' H' l q => h v F' H' l q
    | new xs => exact fun v F' H' l q => h v F' H' l q
    | brw d => exact h.elim
    | bor xs => exact h.elim
end
section
variable {P : Program} {w : World} {K : PySem.W.Frag} {mg : Str → Option Value} {base : Heap} {T : Tb}
theorem fn_ok0 {x qual : Str} {st : Stmt} {f : Addr} {fd : FuncData} {N ps : List Str} {k : Nat} (F : Fun K x qual st f fd) (S : FnScope N ps (defScope st)) (body : Env → Out)
    (h : ∀ (cdv : Value) (A : Around) (outer : List PySem.Env) (s : Shared) (H : Hp) (E : XK), Room k (A.deeper (envOfC qual (defScope st) s.heap.objs.size f cdv)) → DSs (cxOf CX0 P w K mg base N qual (defScope st) f cdv A outer s H E).nox T W0 (defBody st) body) :
    FnOk P w K mg base CX0 (k + 1) f fd ps (spD K T ps.length (run0 N.length body)) := by
  refine F.ok S (fun vs H Q E h => by obtain ⟨F, ds, hl, _⟩ := h; exact hl) (fun cdv A outer s H vs Q E hr hsp => ?_)
  · obtain ⟨F, ds, hl, ok, r, q⟩ := hsp
    refine ⟨_, h cdv A outer s H E hr F H, F, _, start_ok (N := N) ok r, ?_⟩
    have q' : match runX N.length body ds with
      | .ok (.val d) => ∀ v F' H', Le T F H F' H' → Rr K T H H F' H' v (.val d) → Q v H'
      | .ok (.new xs) => ∀ v F' H', Le T F H F' H' → Rr K T H H F' H' v (.new xs) → Q v H'
      | .exc c fs => ∀ cls d F' H', Le T F H F' H' → XOk K F' c fs cls d → False
      | _ => False := by
      unfold run0 at q
      unfold runX
      cases hb : body (startE N.length ds) with
      | nx es => rw [hb] at q; exact q
      | rt r => cases r <;> (rw [hb] at q; exact q)
      | br es => rw [hb] at q; exact q
      | ct es => rw [hb] at q; exact q
      | no => rw [hb] at q; exact q
      | exc es c fs => rw [hb] at q; exact q.elim
    exact run_out (E := fun _ _ _ => False) (fun _ _ _ _ z => z) (fun _ => rfl) q'
end
end Fw
namespace Fw
open PySem PySem.Spec PyProof.Rows L2
/-! ### enumerate of a text -/
def IteS (z : Str) : It :=
  ⟨fun i _ => i < z.cps.size, fun i H v H' => ∃ p c, v = .ref p ∧ H p = none ∧ H' = upd H p (.tup [.int (i : Nat), .str ⟨#[c]⟩]) ∧ z.cps[i]? = some c, fun i _ => i = z.cps.size⟩
theorem walk_enumS {z : Str} : Walk (IteS z) z.cps.size (fun _ => True) (fun i H v H' => ∃ p c, v = .ref p ∧ H p = none ∧ H' = upd H p (.tup [.int (i : Nat), .str ⟨#[c]⟩]) ∧ z.cps[i]? = some c) where
  goes := fun i H h _ => h
  stops := fun H _ => rfl
  yields := fun i H x H' h _ y => y
theorem turn_enumS {P : Program} {w : World} {K : PySem.W.Frag} {elts : List Expr} {kk : Nat} {tpos : Pos} (z : Str) (t : Tok) (e it : Addr) :
    Turn P w K (.Tuple elts kk tpos) (IteS z) [e, it] e (fun i h => (∃ old, IsEnum h e it ((i : Nat) : Int) old) ∧ h.IsStrIter it (strIterType z) z t i ∧ e ≠ it) where
  mem := by simp
  obj := fun i h st b hb => by
    obtain ⟨⟨old, he⟩, ⟨o, ho, hc, hd⟩, _⟩ := st
    rcases List.mem_cons.mp hb with q | q
    · subst q; exact ⟨_, he, fun v q => nomatch q⟩
    · have q2 : b = it := by simpa using q
      subst q2; exact ⟨o, ho, fun v q => by rw [hd] at q; cases q⟩
  keep := fun i h h' st k => by
    obtain ⟨⟨old, he⟩, ⟨o, ho, hr⟩, hne⟩ := st
    exact ⟨⟨old, k e (by simp) _ he⟩, ⟨o, k it (by simp) _ ho, hr⟩, hne⟩
  item := by
    intro X hP hw hK hc i pins s σ H E I hf st hg
    subst hP hw hK
    obtain ⟨⟨old, he⟩, hit, hne⟩ := st
    have hh : X.A.in1.handled = none := I.ok.hd hc
    have hel : e < s.heap.objs.size := Heap.lt_size he
    have hil : it < s.heap.objs.size := by obtain ⟨_, q, _⟩ := hit; exact Heap.lt_size q
    refine wpAny_pyNext_enum_itemD (Draws.text hh it z t) he hit hg hne (by simpa using hne) fun x h' tk ⟨c, u, hx, ex⟩ ho hit' hT hsz hk => ?_
    subst ex
    refine ⟨_, rfl, wpAny_letOwnedTupleGo_enum (s := { s with heap := h', toks := tk + 1 }) ho fun h2 he2 sb => ?_⟩
    have hT2 : h2.get? s.heap.objs.size = some { cls := .type "tuple", data := .seq #[.int i tk, .str ⟨#[c]⟩ u] } := (sb.2 _ (Nat.ne_of_gt hel)).trans hT
    have new : ObjOk X.prog X.w (upd H s.heap.objs.size (.tup [.int (i : Nat), .str ⟨#[c]⟩])) h2 s.heap.objs.size (.tup [.int (i : Nat), .str ⟨#[c]⟩]) :=
      ⟨by show 2 ≤ sizeLine; decide, [.int i tk, .str ⟨#[c]⟩ u], .cons ⟨_, rfl⟩ (.cons ⟨_, rfl⟩ .nil), ⟨_, hT2, rfl, _, rfl⟩⟩
    have I1 : Inv X pins σ (upd H s.heap.objs.size (.tup [.int (i : Nat), .str ⟨#[c]⟩])) { s with heap := h2, toks := tk + 1 } :=
      I.turnedNew (ch := [e, it]) (fun b ob hb q => (sb.2 b (fun z => hb (by simp [z]))).trans (hk b ob (fun z => hb (by simp [z])) (fun z => hb (by simp [z])) q)) hf (Nat.le_refl _) new
    refine ⟨.ref s.heap.objs.size, _, I1, rfl, ⟨_, c, rfl, I.hok.fresh (Nat.le_refl _), rfl, hx⟩, ⟨⟨.str ⟨#[c]⟩ u, ?_⟩, ?_, hne⟩, fun b hb => ?_⟩
    · have e1 : ((i + 1 : Nat) : Int) = (i : Int) + 1 := by omega
      rw [e1]; exact he2
    · obtain ⟨o, g1, g2⟩ := hit'
      exact ⟨o, (sb.2 it (Ne.symm hne)).trans g1, g2⟩
    · have hlt : b < s.heap.objs.size := by
        rcases List.mem_cons.mp hb with q | q
        · rw [q]; exact hel
        · have q2 : b = it := by simpa using q
          rw [q2]; exact hil
      rw [upd_ne (Nat.ne_of_lt hlt)]
      exact (hf b hb).1
  done := by
    intro X hP hw hK hc i pins s σ H E I hf st hg
    subst hP hw hK
    obtain ⟨⟨old, he⟩, hit, hne⟩ := st
    have hh : X.A.in1.handled = none := I.ok.hd hc
    obtain ⟨f0, f1, f2, f3, f4, f5⟩ := hf it (by simp)
    have hi : i = z.cps.size := hg
    subst hi
    exact wpAny_pyNext_enum_endD (Draws.text hh it z t) he hit fun h' eb => ⟨rfl, I.turned (t' := s.toks) (fun b o hb q => eb b o hb q) f0 f1 f3 f4 f5⟩
  self := fun A i s Q E st h => let ⟨⟨_, he⟩, _⟩ := st; wpAny_pyIter_enum he h
/-- enumerate of a list or a text, by its value -/
def iEnumA (K : PySem.W.Frag) (ta : TA) : TI := fun σ H Rk => ta σ H fun vs H1 => (∃ a xs, vs = [V.ref a] ∧ SqL K H1 a xs ∧ Rk (Ite K a) H1) ∨ ∃ z, vs = [V.str z] ∧ Rk (IteS z) H1
theorem pi_enumA {X : Cx} {e : Expr} {ta : TA} {p pos tpos : Pos} {elts : List Expr} {kk : Nat} (hg : Gl X "enumerate") (hm : X.mg "enumerate" = none) (ha : PA X [e] ta) (hs : starEach [e] X.env = [(false, eval e X.env)] := by rfl) :
    PI X (.Tuple elts kk tpos) (.Call (.Name "enumerate" p) [e] [] pos) (iEnumA X.K ta) := by
  refine ⟨fun pins s σ H Rk I h => ?_⟩
  refine Call_ (ld_blt I hg hm boot_enumerate (PyProof.Rows.callWith_type1 (thn (ha.run pos pins s σ H _ I h) fun us s1 ⟨vs, H1, I1, r1, q1⟩ => ?_) hs rfl))
  have hin : ∀ b : Addr, b ∈ [s1.heap.objs.size + 1, s1.heap.objs.size] → s1.heap.objs.size ≤ b := fun b hb => by
    rcases List.mem_cons.mp hb with q | q
    · rw [q]; exact Nat.le_succ _
    · have q2 : b = s1.heap.objs.size := by simpa using q
      rw [q2]; exact Nat.le_refl _
  rcases q1 with ⟨a, xs, ex, hq, q⟩ | ⟨z, ex, q⟩
  · subst ex
    obtain ⟨u, rfl, ru⟩ := vals1 r1
    cases ru
    obtain ⟨its, rv, p', hz⟩ := I1.list hq
    refine call_enumerate_list p'.isList fun h' he hit hsz hk => wpAny_pyIter_enum he ?_
    have I2 : Inv X pins σ H1 { s1 with heap := h' } := I1.kept (t' := s1.toks) hk
    exact ⟨s1.heap.objs.size + 1, [s1.heap.objs.size + 1, s1.heap.objs.size], _, _, H1, rfl, I2, turn_enum a (s1.heap.objs.size + 1) s1.heap.objs.size, ⟨⟨.none, he⟩, hit, Nat.succ_ne_self _⟩, fun b hb => I1.fpOk (hin b hb) (I1.hok.fresh (hin b hb)), q⟩
  · subst ex
    obtain ⟨u, rfl, ru⟩ := vals1 r1
    obtain ⟨t, rfl⟩ := ru
    refine call_enumerate_str fun h' he hit hsz hk => wpAny_pyIter_enum he ?_
    have I2 : Inv X pins σ H1 { s1 with heap := h' } := I1.kept (t' := s1.toks) hk
    exact ⟨s1.heap.objs.size + 1, [s1.heap.objs.size + 1, s1.heap.objs.size], _, _, H1, rfl, I2, turn_enumS z t (s1.heap.objs.size + 1) s1.heap.objs.size, ⟨⟨.none, he⟩, hit, Nat.succ_ne_self _⟩, fun b hb => I1.fpOk (hin b hb) (I1.hok.fresh (hin b hb)), q⟩
/-- pairs of the places and the items -/
def enD (k : Nat) : List D → List R
  | [] => []
  | d :: ds => .val (.tup [.int (k : Int), d]) :: enD (k + 1) ds
theorem enD_len : ∀ (k : Nat) (ds : List D), (enD k ds).length = ds.length
  | _, [] => rfl
  | k, d :: ds => by simp [enD, enD_len (k + 1) ds]
theorem enD_at : ∀ (k : Nat) (ds : List D) (i : Nat) (d : D), ds[i]? = some d → (enD k ds)[i]? = some (.val (.tup [.int ((k + i : Nat) : Int), d]))
  | _, [], i, d, h => by simp at h
  | k, d :: ds, 0, d', h => by simp at h; subst h; simp [enD]
  | k, d :: ds, i + 1, d', h => by
    have := enD_at (k + 1) ds i d' (by simpa using h)
    simp only [enD, List.getElem?_cons_succ]
    rw [this]
    have e : k + 1 + i = k + (i + 1) := by omega
    rw [e]
def enR (fz : Bool) : R → Option (List R)
  | .val (.lst xs) => some (enD 0 xs)
  | .val (.str s) => some (enD 0 (signsD s))
  | .brw (.lst xs) => if xs.all flat then some (enD 0 xs) else none
  | .bor xs => if fz then none else some (enD 0 xs)
  | _ => none
def fEnum (fz : Bool) (fr : Env → O (List R)) : Env → O (List R) := fun es => (fr es).bind fun rs => match rs with
  | [r] => O.of (enR fz r)
  | _ => .no
section
variable {X : Cx} {T : Tb} {W : WX} {fz : Bool}
/-- a pair is laid -/
theorem pair_step {K : PySem.W.Frag} {H0 F2 H2 : Hp} {p : Addr} {i : Nat} {v : V} {d : D} (ok : Ok T F2 H2) (hp : H2 p = none) (h : Rp K F2 d v) : Le T F2 H2 (upd F2 p (.tup [.int (i : Int), v])) (upd H2 p (.tup [.int (i : Int), v])) ∧
    Rq K T H0 (upd F2 p (.tup [.int (i : Int), v])) (upd H2 p (.tup [.int (i : Int), v])) (.ref p) (.val (.tup [.int (i : Int), d])) :=
  ⟨Le.new ok hp, rp_tup (ok.nf hp) (RpL.cons (by rw [Rp]) (RpL.cons h RpL.nil))⟩
theorem src_enum {K : PySem.W.Frag} {F0 H0 F' H' : Hp} {a : Addr} {xs : List D} {vs : List V} (hs : ∀ F2 H2, Sta T fz F0 H0 F' H' F2 H2 → SqL K H2 a vs) (r : ∀ F2 H2, Sta T fz F0 H0 F' H' F2 H2 → RpL K F2 xs vs) (hl : xs.length = vs.length) :
    Src K T H0 (Sta T fz F0 H0 F' H') (enD 0 xs) (Ite K a) := by
  refine ⟨fun H => SqL K H a vs, YPair (fun i => some (.int (i : Nat))) (fun i => vs[i]?), by rw [enD_len, hl]; exact walk_enum, fun F2 H2 s => hs F2 H2 s, fun i H2 x H3 F2 hi s ⟨p, u, w, e1, e2, e3, e4, e5⟩ => ?_⟩
  subst e1 e3
  cases e4
  obtain ⟨d, h1, h2⟩ := (r F2 H2 s).getV e5
  obtain ⟨l, q⟩ := pair_step (H0 := H0) (i := i) s.2.ok e2 h2
  exact ⟨_, _, by rw [enD_at 0 xs i d h1, Nat.zero_add], l, q⟩
theorem src_enumS {K : PySem.W.Frag} {F0 H0 F' H' : Hp} {s : List Nat} : Src K T H0 (Sta T fz F0 H0 F' H') (enD 0 (signsD s)) (IteS (tx s)) := by
  refine ⟨fun _ => True, fun i H v H' => ∃ p c, v = V.ref p ∧ H p = none ∧ H' = upd H p (.tup [.int (i : Nat), .str ⟨#[c]⟩]) ∧ (tx s).cps[i]? = some c, by
    have e : (enD 0 (signsD s)).length = (tx s).cps.size := by rw [enD_len]; simp [signsD, tx]
    rw [e]; exact walk_enumS, fun _ _ _ => trivial, fun i H2 x H3 F2 hi st ⟨p, c, e1, e2, e3, e4⟩ => ?_⟩
  subst e1 e3
  have hc : s[i]? = some c := by simpa [tx] using e4
  have h1 : (signsD s)[i]? = some (.str [c]) := by simp [signsD, hc]
  obtain ⟨l, q⟩ := pair_step (K := K) (H0 := H0) (i := i) (v := .str ⟨#[c]⟩) (d := .str [c]) st.2.ok e2 (by rw [Rp]; rfl)
  exact ⟨_, _, by rw [enD_at 0 _ i _ h1, Nat.zero_add], l, q⟩
theorem di_enum {e : Expr} {fr : Env → O (List R)} {p pos tpos : Pos} {elts : List Expr} {kk : Nat} (hm : X.mg "enumerate" = none) (ha : DA X T W [e] fr) (hg : Gl X "enumerate" := by rfl) (hs : starEach [e] X.env = [(false, eval e X.env)] := by rfl) :
    DI fz X T W (.Tuple elts kk tpos) (.Call (.Name "enumerate" p) [e] [] pos) (fEnum fz fr) :=
  pi_weak (pi_enumA hg hm ha hs) fun σ H Rk ⟨F0, H0, F, es, st, h⟩ => ⟨F0, H0, F, es, st, pa_seqI st h (fun _ _ _ _ z => z) fun rs vs F1 H1 _ st1 l1 q1 h1 => by
    split at h1
    · rename_i r _
      obtain ⟨v, rfl, q2⟩ := rql1 q1
      cases hr : enR fz r with
      | none => rw [hr] at h1; exact h1.elim
      | some xs =>
        rw [hr] at h1
        have fin : ∀ J, Src X.K T H0 (Sta T fz F0 H0 F1 H1) xs J → Rk J H1 := fun J s => h1 J F1 H1 (Le.refl st1.ok) s
        unfold enR at hr
        split at hr
        · cases hr
          rw [Rq, Rp] at q2
          obtain ⟨a, vs, rfl, h2, h3⟩ := q2
          exact .inl ⟨a, vs, rfl, st1.ok.sub.l h2, fin _ (src_enum (fun F2 H2 s => s.2.ok.sub.l (s.f.l h2)) (fun F2 H2 s => h3.mono s.f) h3.len)⟩
        · cases hr
          exact .inr ⟨_, by rw [rq_str q2], fin _ src_enumS⟩
        · split at hr
          · rename_i hf
            cases hr
            rw [Rq, Rp] at q2
            obtain ⟨a, vs, rfl, h2, h3⟩ := q2
            exact .inl ⟨a, vs, rfl, st1.up.l h2, fin _ (src_enum (fun F2 H2 s => s.2.l st1.ok0.odd h2) (fun F2 H2 s => h3.flat hf) h3.len)⟩
          · cases hr
        · split at hr
          · cases hr
          · rename_i hf
            cases hr
            have e : fz = false := by simpa using hf
            subst e
            obtain ⟨p, vs, rfl, h2, h3, h4, h5⟩ := q2
            refine .inl ⟨p, vs, rfl, .inl (.inl h4), fin _ (src_enum (fun F2 H2 s => ?_) (fun F2 H2 s => h5.mono s.f) h5.len)⟩
            have l : Le T F1 H1 F2 H2 := s.1
            exact .inl (.inl (l.h p _ h3 h4))
        · cases hr
    · exact h1.elim⟩
end
end Fw
namespace Fw
open PySem PySem.Spec PyProof.Rows L2
/-! ### all(test for x in text), the test with names of the module -/
/-- a test of the one sign that x holds; the module's names may be read -/
def EltG (X : Cx) (scope : Scope) (x : Str) (elt : Expr) (pb : Nat → Bool) : Prop :=
  ∀ (ce : PySem.Env) (B : Around) (E' : Value → Shared → Prop) (c : Nat) (t : Tok) (s2 : Shared) (m : Str → Option Value), B.handled = none → ce.scope = scope → ce.globals = mainGlobals →
    (∀ b o, X.base.get? b = some o → s2.heap.get? b = some o) → s2.heap.Ns ce.locals m → m x = some (.str ⟨#[c]⟩ t) →
    wpAny (model X.prog X.w) B (eval elt ce) (fun y s3 => y = .bool (pb c) ∧ Keeps s2 s3) E' s2
section
variable {X : Cx} {pins : List (Addr × Obj)} {σ : L2.St} {H : Hp} {s : Shared}
theorem gen_textG {c P : Addr} {elt iter : Expr} {x : Str} {px gp : Pos} {scope : Scope} {pb : Nat → Bool} {te : TE} {k : Nat} {Qg : Value → Shared → Prop} {Rw : Str → Hp → Prop} (room : Room k X.A)
    (tb : GxR.TabB X.base X.mg c P) (code : X.env.code = .ref c) (sc : GxR.GenS X.env scope x) (pi : PE X iter te) (pel : EltG X scope x elt pb) (fold : ∀ v, genFold iter X.env v = pure v) (I : Inv X pins σ H s)
    (h : te σ H fun v H1 => ∃ a : Str, v = .str a ∧ GxR.TabG H1 P ∧ Rw a H1) (hQ : ∀ a H1 g s5, Rw a H1 → GxR.Ready X pins σ H1 P a pb g s5 → Qg (.ref g) s5) :
    wpAny (model X.prog X.w) X.A (eval (.GeneratorExp elt [⟨.Name x px, iter, [], 0⟩] scope gp) X.env) Qg X.xe s := by
  refine wpAny_GeneratorExp_walksQ room.hd sc.co (closure_ok sc.free) sc.cell sc.dot sc.loc sc.kind (by have z := room.dp; omega) ?_ fold
  refine thn (pi.run pins s σ H _ I h) fun u s1 ⟨v, H1, I1, r1, q1⟩ => ?_
  obtain ⟨a, rfl, ⟨ps, tabP, trip⟩, q1⟩ := q1
  obtain ⟨t, rfl⟩ := _root_.id r1
  refine wpAny_pyIter_str fun o St W start0 => ?_
  have atP : s1.heap.get? P = some { cls := .none, data := .fields ps } := I1.hok P _ tabP
  have ltP : P < s1.heap.objs.size := Heap.lt_size atP
  have atP2 : (s1.heap.push o).get? P = some { cls := .none, data := .fields ps } := Heap.get?_push_of_some _ atP
  have hd : PySem.W.CodeHd (s1.heap.push o) c P := tb.code.keeps fun b u e => Heap.get?_push_of_some _ (I1.bk b u e)
  have lim : (s1.heap.push o).NoLimit := I1.nolimit.push o
  have goOn : ∀ (cv : Value) (h3 : Heap) (tk : Nat) (qs : Array Value), Heap.ExtBut P (s1.heap.push o) h3 → (s1.heap.push o).objs.size ≤ h3.objs.size → h3.get? P = some { cls := .none, data := .fields qs } →
      (∃ more, qs = ps ++ more) → TriplesOk qs.toList → wpAny (model X.prog X.w) X.A (builtinsFor X.env.globals X.env.builtins) (fun bi s4 =>
        ∃ Ia fp wr n0 Pf St0 pz Fy, Value.ref s1.heap.objs.size = .ref Ia ∧ (∀ B : Around, B.handled = none → Walks X.prog X.w B Ia fp wr n0 Pf St0) ∧ St0 0 s4.heap ∧ (∀ b ∈ fp, b < s4.heap.objs.size) ∧
          s4.heap.NoLimit ∧ cStatics ∉ wr ∧ (∀ hr : Heap, (∀ b o, s4.heap.get? b = some o → hr.get? b = some o) →
            QuietGen X.prog X.w (genEnv scope (cloFrom X.env.cells scope.names []) s4.heap.objs.size cv bi X.env) x [] elt (List.range s4.heap.objs.size) wr Pf pz Fy hr) ∧
          (∀ a h5 tk gs, gs.bare = true → s4.heap.objs.size < a → h5.objs.size = a + 1 → (∀ b o, s4.heap.get? b = some o → h5.get? b = some o) →
            WalksS X.prog X.w X.A.in4 a (a :: s4.heap.objs.size :: List.range s4.heap.objs.size) (s4.heap.objs.size :: wr) (GenOnlyQ s4.gens.size) (passing pz n0 0).length
              (fun j y => ∃ i, (passing pz n0 0)[j]? = some i ∧ Fy i y) (GenAt X.prog X.w X.A.in4 a s4.gens.size s4.heap.objs.size (List.range s4.heap.objs.size) wr pz n0 Fy) →
            GenAt X.prog X.w X.A.in4 a s4.gens.size s4.heap.objs.size (List.range s4.heap.objs.size) wr pz n0 Fy 0 { s4 with gens := s4.gens.push gs, toks := tk, heap := h5 } →
            Qg (.ref a) { s4 with gens := s4.gens.push gs, toks := tk, heap := h5 })) X.xe { s1 with heap := h3, toks := tk } := by
    intro cv h3 tk qs ext szs atP3 grown trip3
    obtain ⟨bm, ob, e1, e2, e3, e4, e5, e6, e7, e8⟩ := tb.bm
    have apart : cStatics ≠ P := fun e => by
      obtain ⟨_, ns, _⟩ := I1.nolimit
      obtain ⟨o', es, ep, ho, hd', _⟩ := ns
      rw [e, atP] at ho
      cases ho
      cases hd'
    have statLt : cStatics < s1.heap.objs.size := let ⟨_, ns, _⟩ := I1.nolimit; ns.lt
    have szPush : (s1.heap.push o).objs.size = s1.heap.objs.size + 1 := Heap.size_push ..
    have kept3 : ∀ b u, b ≠ P → s1.heap.get? b = some u → h3.get? b = some u := fun b u n e => ext b u n (Heap.get?_push_of_some _ e)
    refine wpAny_builtinsFor (m := X.mg) (by rw [I1.ok.glob]; exact ((I1.mod.glob.keeps I1.bk).push o).extBut ext tb.gP) e1 e2 (kept3 _ _ e4 (I1.bk _ _ e5)) e6 e7 e8 ?_
    have notP : ∀ b u, X.base.get? b = some u → b ≠ P := fun b u e z => by
      have n := (I1.bs b u e).2
      rw [z, tabP] at n
      cases n
    refine ⟨s1.heap.objs.size, [s1.heap.objs.size], [s1.heap.objs.size], a.cps.size, SignAt a, St, (fun _ => true), (fun i y => ∃ cc, a.cps[i]? = some cc ∧ y = .bool (pb cc)), rfl, W, ?_, ?_, lim.extBut ext apart, ?_, ?_, ?_⟩
    · refine (W X.A room.hd).frame _ _ _ start0 fun b hb u e => ext b u (fun z => ?_) e
      rcases List.mem_cons.mp hb with q | q
      · exact Nat.ne_of_lt ltP (z.symm.trans q)
      · cases q
    · intro b hb
      rcases List.mem_cons.mp hb with q | q
      · subst q
        show s1.heap.objs.size < h3.objs.size
        omega
      · cases q
    · intro hm
      rcases List.mem_cons.mp hm with q | q
      · exact Nat.ne_of_lt statLt q
      · cases q
    · intro hr hrk
      refine ⟨fun B E' i v s2 m2 hB hv hn hm hk => ?_, fun B E' i v s2 m2 hB hv hp hn hm hk => ?_⟩
      · simp only [List.forIn_nil]
        exact wpAny_pure ⟨rfl, GxR.keeps_refl _⟩
      · obtain ⟨cc, u, hcc, rfl⟩ := hv
        refine wpAny_mono (pel _ B E' cc u s2 m2 hB rfl I1.ok.glob (fun b ob e => ?_) hn hm) (fun y s3 r => ⟨⟨cc, hcc, r.1⟩, r.2⟩) fun _ _ e => e
        have g1 := I1.bk b ob e
        have g3 : h3.get? b = some ob := kept3 b ob (notP b ob e) g1
        refine hk b (List.mem_range.mpr (Heap.lt_size g3)) (fun z => ?_) ob (hrk b ob g3)
        have z2 : b = s1.heap.objs.size := by simpa using z
        have lt := Heap.lt_size g1
        rw [z2] at lt
        exact Nat.lt_irrefl _ lt
    · intro g h5 tk5 gs bare5 ab5 sz5 kept5 W5 at0
      simp only [GxR.passing_true, List.length_range] at W5
      refine hQ a H1 g _ q1 ⟨_, _, _, _, _, W5.in4_1, at0, ?_, fun s6 mv => ?_⟩
      · intro j y sj Qj Ej hy hQj
        obtain ⟨i, hij, cc, hcc, rfl⟩ := hy
        obtain ⟨hj, ej⟩ := List.getElem?_eq_some_iff.mp hij
        rw [List.getElem_range] at ej
        subst ej
        have hl : a.cps.toList[j]? = some cc := by rw [Array.getElem?_toList]; exact hcc
        have hQ2 : Qj (GxR.trF pb a.cps.toList j) sj := hQj
        rw [GxR.trF_some hl] at hQ2
        exact wpAny_truthy_bool hQ2
      · obtain ⟨more, em⟩ := grown
        have off : ∀ b u, s1.heap.get? b = some u → b ∉ h3.objs.size :: [s1.heap.objs.size] := fun b u e hb => by
          have lt := Heap.lt_size e
          rcases List.mem_cons.mp hb with q | q
          · rw [q] at lt
            have lt2 : (h3.objs.size : Nat) < s1.heap.objs.size := lt
            omega
          · have q2 : b = s1.heap.objs.size := by simpa using q
            rw [q2] at lt
            exact Nat.lt_irrefl _ lt
        have J := GxR.inv_tab (more := more) (h' := s6.heap) (g' := s6.gens) (d' := s6.drawn) (t' := s6.toks) I1 tabP (fun b u n e => mv.heap b u (off b u e) (kept5 b u (kept3 b u n e)))
          (by rw [← em]; exact mv.heap P _ (off P _ atP) (kept5 P _ atP3)) (AllBare.movedS (I1.bare.push bare5) mv)
        rw [GxR.sh_eta s1 s6 mv.os] at J
        exact ⟨upd H1 P (.tbl (ps ++ more)), ⟨⟨ps ++ more, upd_same, by rw [← em]; exact trip3⟩, fun b n => upd_ne n⟩, J⟩
  refine ⟨lim, ?_⟩
  cases hf : codeAmong gp ps.toList with
  | some cv =>
    refine wpAny_genexprCode_hit code (hd.code atP2 trip) hf ?_
    exact goOn cv (s1.heap.push o) s1.toks ps (Heap.ExtBut.refl _ _) (Nat.le_refl _) atP2 ⟨#[], by simp⟩ trip
  | none =>
    refine wpAny_genexprCodeX code (hd.code atP2 trip) (hd.tab atP2) hf fun c' h' tk ext hge hlt co _ tab _ => ?_
    obtain ⟨o1, vs, f1, tf, fl, tg, inF, tx, tt, op, _, _, _, _, _, _, _, _, _, htr, _⟩ := co
    exact goOn _ h' tk _ ext (Nat.le_trans hge (Nat.le_of_lt hlt)) tab.2 ⟨_, rfl⟩ htr
theorem pe_allG {c P : Addr} {elt iter : Expr} {x : Str} {px p pos gp : Pos} {scope : Scope} {pb : Nat → Bool} {te : TE} {k : Nat} (room : Room k X.A) (hg : Gl X "all") (hm : X.mg "all" = none) (tb : GxR.TabB X.base X.mg c P)
    (code : X.env.code = .ref c) (sc : GxR.GenS X.env scope x) (pi : PE X iter te) (pel : EltG X scope x elt pb) (fold : ∀ v, genFold iter X.env v = pure v)
    (he : starEach [.GeneratorExp elt [⟨.Name x px, iter, [], 0⟩] scope gp] X.env = (false, eval (.GeneratorExp elt [⟨.Name x px, iter, [], 0⟩] scope gp) X.env) :: starEach [] X.env := by rfl) :
    PE X (.Call (.Name "all" p) [.GeneratorExp elt [⟨.Name x px, iter, [], 0⟩] scope gp] [] pos) (GxR.tAllS P pb te) := by
  refine ⟨fun pins s σ H Q I h => wpAny_Call_Name_kw (ld_blt I hg hm boot_all (PyProof.Rows.callWith_builtin1 ?_ he (by rfl)))⟩
  rw [he]
  refine Calls.spliced_cons (gen_textG (Rw := fun a H1 => ∀ H2, GxR.Tabbed P H1 H2 → Q (.bl (a.cps.toList.all pb)) H2) room tb code sc pi pel fold I h fun a H1 g s5 hR hG => ?_)
  obtain ⟨fp, wr, G, Fy, St, W, hst, htr, hI⟩ := hG
  refine Calls.spliced_nil (call_all_walkS (W.self 0 _ _ _ hst ⟨g, fp, wr, G, _, Fy, St, _, rfl, W, hst, htr, fun s6 mv => ?_⟩))
  obtain ⟨H2, hT, J⟩ := hI s6 mv
  exact ⟨.bl _, H2, J, rfl, by rw [GxR.all_signs a pb]; exact hR H2 hT⟩
/-- all(.. for x in text) on data -/
def fAllG (pb : Nat → Bool) (f : Env → O R) : Env → O R := fun es => (f es).bind fun r => match r with
  | .val (.str s) => .ok (.val (.bl (s.all pb)))
  | _ => .no
theorem de_allG {T : Tb} {W : WX} {f : Env → O R} {c P : Addr} {elt iter : Expr} {x : Str} {px p pos gp : Pos} {scope : Scope} {pb : Nat → Bool} {k : Nat} (room : Room k X.A) (hm : X.mg "all" = none) (tb : GxR.TabB X.base X.mg c P) (hP : P ∈ T) (hPl : T.plain)
    (code : X.env.code = .ref c) (sc : GxR.GenS X.env scope x) (pi : DE X T W iter f) (pel : EltG X scope x elt pb) (fold : ∀ v, genFold iter X.env v = pure v := by intro _; rfl) (hg : Gl X "all" := by rfl)
    (he : starEach [.GeneratorExp elt [⟨.Name x px, iter, [], 0⟩] scope gp] X.env = (false, eval (.GeneratorExp elt [⟨.Name x px, iter, [], 0⟩] scope gp) X.env) :: starEach [] X.env := by rfl) :
    DE X T W (.Call (.Name "all" p) [.GeneratorExp elt [⟨.Name x px, iter, [], 0⟩] scope gp] [] pos) (fAllG pb f) :=
  pe_weak (pe_allG room hg hm tb code sc pi pel fold he) fun σ H Q ⟨F0, H0, F, es, st, h⟩ => ⟨F0, H0, F, es, st, pr_seq st h fun r v F1 H1 _ st1 l1 q1 h1 => by
    split at h1
    · rename_i z _
      have q2 : Rq X.K T H0 F1 H1 v (.val (.str z)) := q1
      refine ⟨tx z, rq_str q2, (st1.ok.tab P hP).tab hPl, fun H2 ⟨tg, kp⟩ => ?_⟩
      rw [tx_list]
      have nF : F1 P = none := st1.ok.ntab P hP
      refine h1 _ F1 H2 ⟨Sub.refl _, fun b o n e => ?_, fun b e _ => e, ⟨fun b o e => ?_, fun b m => ?_, st1.ok.ntab⟩⟩ (by rw [Rr, Rp])
      · rw [kp b (fun z => n (z ▸ hP))]; exact e
      · have n : b ≠ P := fun z => by rw [z, nF] at e; cases e
        rw [kp b n]; exact st1.ok.sub b o e
      · by_cases e : b = P
        · rw [e]; exact .inl ⟨tg, hPl P⟩
        · exact (st1.ok.tab b m).keep (Sub.refl _) (kp b e)
    · exact h1.elim⟩
end
end Fw
namespace Fw
open PySem PySem.Spec PyProof.Rows L2
section
variable {X : Cx}
/-- a name of the module holds a text of one sign -/
def One (X : Cx) (n : Str) (c : Nat) : Prop := ∃ t, X.mg n = some (.str ⟨#[c]⟩ t)
theorem ld_mod {ce : PySem.Env} {B : Around} {E : Value → Shared → Prop} {s2 : Shared} {n : Str} {u : Value} {p : Pos} {Q : Value → Shared → Prop} (md : X.base.Ns mainGlobals X.mg) (hk : ce.scope.kind = .function) (hg : ce.kindOf n = some .globalImplicit) (g : ce.globals = mainGlobals)
    (hb : ∀ b o, X.base.get? b = some o → s2.heap.get? b = some o) (hm : X.mg n = some u) (h : Q u s2) (hd : (n == ("__debug__" : Str)) = false := by decide) : wpAny (model X.prog X.w) B (eval (.Name n p) ce) Q E s2 :=
  Calls.Name_function_global hk hg (Calls.loadGlobal_global (by rw [g]; exact md.keeps hb) hm h) hd
/-- x in (A, B, C), names of the module -/
theorem elt_in3 {scope : Scope} {x a b d : Str} {ca cb cd : Nat} {k : Nat} {p1 p2 p3 p4 p5 p6 : Pos} (md : X.base.Ns mainGlobals X.mg) (hA : One X a ca) (hB : One X b cb) (hC : One X d cd) (hk : scope.kind = .function := by rfl) (hl : scope.names.lookup x = some .local := by rfl)
    (ga : scope.names.lookup a = some .globalImplicit := by rfl) (gb : scope.names.lookup b = some .globalImplicit := by rfl) (gd : scope.names.lookup d = some .globalImplicit := by rfl) (hd : (x == ("__debug__" : Str)) = false := by decide)
    (da : (a == ("__debug__" : Str)) = false := by decide) (db : (b == ("__debug__" : Str)) = false := by decide) (dd : (d == ("__debug__" : Str)) = false := by decide) :
    EltG X scope x (.Compare (.Name x p1) [.In] [.Tuple [.Name a p2, .Name b p3, .Name d p4] k p5] p6) (fun c => decide (c = ca) || (decide (c = cb) || decide (c = cd))) := by
  intro ce B E' c t s2 m hB0 hs hg hb hn hm
  obtain ⟨ta, hA⟩ := hA
  obtain ⟨tb, hB⟩ := hB
  obtain ⟨td, hC⟩ := hC
  have kd : ce.scope.kind = .function := by rw [hs]; exact hk
  refine wpAny_Compare1 ?_
  refine wpAny_Name (wpAny_loadName_local kd (show ce.scope.names.lookup x = some .local by rw [hs]; exact hl) hn hm ?_) hd
  refine wpAny_Tuple_spliced ?_
  refine Calls.spliced_cons (ld_mod md kd (show ce.scope.names.lookup a = some .globalImplicit by rw [hs]; exact ga) hg hb hA ?_ da)
  refine Calls.spliced_cons (ld_mod md kd (show ce.scope.names.lookup b = some .globalImplicit by rw [hs]; exact gb) hg hb hB ?_ db)
  refine Calls.spliced_cons (ld_mod md kd (show ce.scope.names.lookup d = some .globalImplicit by rw [hs]; exact gd) hg hb hC ?_ dd)
  refine Calls.spliced_nil ⟨by show 3 ≤ sizeLine; decide, ?_⟩
  have one : ∀ (q : Nat) (tq : Tok), RelV (.str ⟨#[q]⟩) (Value.str ⟨#[q]⟩ tq) := fun q tq => ⟨tq, rfl⟩
  have hv : Vals [V.str ⟨#[ca]⟩, V.str ⟨#[cb]⟩, V.str ⟨#[cd]⟩] [Value.str ⟨#[ca]⟩ ta, Value.str ⟨#[cb]⟩ tb, Value.str ⟨#[cd]⟩ td] := .cons (one _ _) (.cons (one _ _) (.cons (one _ _) .nil))
  refine SeqAt.in_tupleAt (eqU (V.str ⟨#[c]⟩)) (items := [Value.str ⟨#[ca]⟩ ta, Value.str ⟨#[cb]⟩ tb, Value.str ⟨#[cd]⟩ td].toArray) ⟨_, Heap.get?_push_size _ rfl, rfl, _, rfl⟩
    (fun w hw => mem_eqAt (one c t) rfl hv rfl w (by simpa using hw)) ⟨?_, _, _, rfl, fun b o e => Heap.get?_push_of_some _ e⟩
  have e1 : ∀ q : Nat, (({ cps := #[q] } : Str) == { cps := #[c] }) = decide (c = q) := fun q => by
    by_cases e : c = q
    · subst e; simp
    · have : ({ cps := #[q] } : Str) ≠ { cps := #[c] } := fun z => e (by
        have := congrArg (fun s : Str => s.cps.toList) z
        simpa using this.symm)
      rw [beq_eq_false_iff_ne.mpr this, decide_eq_false e]
  simp [eqU, eqV, e1]
end
/-! ### sorting -/
section
variable {α : Type} (le : α → α → Bool)
def insB (x : α) : List α → List α
  | [] => [x]
  | y :: ys => if le x y then x :: y :: ys else y :: insB x ys
def sortB : List α → List α
  | [] => []
  | x :: xs => insB le x (sortB xs)
theorem insB_perm (x : α) : ∀ ys : List α, (insB le x ys).Perm (x :: ys)
  | [] => List.Perm.refl _
  | y :: ys => by
    unfold insB
    split
    · exact List.Perm.refl _
    · exact ((insB_perm x ys).cons y).trans (List.Perm.swap x y ys)
theorem sortB_perm : ∀ xs : List α, (sortB le xs).Perm xs
  | [] => List.Perm.refl _
  | x :: xs => (insB_perm le x _).trans ((sortB_perm xs).cons x)
variable {le}
theorem insB_pw (tot : ∀ a b, le a b = true ∨ le b a = true) (tr : ∀ a b c, le a b = true → le b c = true → le a c = true) (x : α) : ∀ ys : List α, ys.Pairwise (fun a b => le a b = true) → (insB le x ys).Pairwise (fun a b => le a b = true)
  | [], _ => List.pairwise_singleton _ _
  | y :: ys, h => by
    unfold insB
    rw [List.pairwise_cons] at h
    split
    · rename_i e
      rw [List.pairwise_cons, List.pairwise_cons]
      refine ⟨fun z hz => ?_, h⟩
      rcases List.mem_cons.mp hz with q | q
      · subst q; exact e
      · exact tr _ _ _ e (h.1 z q)
    · rename_i e
      have e2 : le y x = true := (tot x y).resolve_left e
      rw [List.pairwise_cons]
      refine ⟨fun z hz => ?_, insB_pw tot tr x ys h.2⟩
      rcases List.mem_cons.mp ((insB_perm le x ys).mem_iff.mp hz) with q | q
      · subst q; exact e2
      · exact h.1 z q
theorem sortB_pw (tot : ∀ a b, le a b = true ∨ le b a = true) (tr : ∀ a b c, le a b = true → le b c = true → le a c = true) : ∀ xs : List α, (sortB le xs).Pairwise (fun a b => le a b = true)
  | [] => List.Pairwise.nil
  | x :: xs => insB_pw tot tr x _ (sortB_pw tot tr xs)
/-- one sorted list alone -/
theorem sortB_uniq (tot : ∀ a b, le a b = true ∨ le b a = true) (tr : ∀ a b c, le a b = true → le b c = true → le a c = true) (an : ∀ a b, le a b = true → le b a = true → a = b) {xs ys : List α} (hp : ys.Perm xs) (hs : ys.Pairwise (fun a b => le a b = true)) : ys = sortB le xs :=
  (hp.trans (sortB_perm le xs).symm).eq_of_pairwise (fun a b _ _ h1 h2 => an a b h1 h2) hs (sortB_pw tot tr xs)
end
def leI (a b : Int) : Bool := decide (a ≤ b)
def sortI : List Int → List Int := sortB leI
theorem sortI_uniq {xs ys : List Int} (hp : ys.Perm xs) (hs : ys.Pairwise (· ≤ ·)) : ys = sortI xs :=
  sortB_uniq (fun a b => by simp only [leI, decide_eq_true_eq]; omega) (fun a b c h1 h2 => by simp only [leI, decide_eq_true_eq] at *; omega) (fun a b h1 h2 => by simp only [leI, decide_eq_true_eq] at *; omega) hp (hs.imp fun h => decide_eq_true h)
/-- texts by their signs -/
def leS (a b : List Nat) : Bool := !ltCps b a
def sortS : List (List Nat) → List (List Nat) := sortB leS
theorem lt_irr : ∀ a : List Nat, ltCps a a = false
  | [] => rfl
  | x :: a => by simp [ltCps, lt_irr a]
theorem lt_asym : ∀ a b : List Nat, ltCps a b = true → ltCps b a = false
  | [], [], h => by simp [ltCps] at h
  | [], _ :: _, _ => rfl
  | _ :: _, [], h => by simp [ltCps] at h
  | x :: a, y :: b, h => by
    simp only [ltCps, Bool.or_eq_true, Bool.and_eq_true, decide_eq_true_eq, beq_iff_eq] at h
    simp only [ltCps, Bool.or_eq_false_iff, Bool.and_eq_false_iff, decide_eq_false_iff_not]
    rcases h with h | ⟨h1, h2⟩
    · exact ⟨by omega, .inl (by rw [beq_eq_false_iff_ne]; omega)⟩
    · subst h1
      exact ⟨by omega, .inr (lt_asym a b h2)⟩
theorem lt_tri : ∀ a b : List Nat, ltCps a b = false → ltCps b a = false → a = b
  | [], [], _, _ => rfl
  | [], _ :: _, h, _ => by simp [ltCps] at h
  | _ :: _, [], _, h => by simp [ltCps] at h
  | x :: a, y :: b, h1, h2 => by
    simp only [ltCps, Bool.or_eq_false_iff, Bool.and_eq_false_iff, decide_eq_false_iff_not] at h1 h2
    have e : x = y := by omega
    subst e
    have h3 : ltCps a b = false := by rcases h1.2 with q | q; · simp at q
                                      · exact q
    have h4 : ltCps b a = false := by rcases h2.2 with q | q; · simp at q
                                      · exact q
    rw [lt_tri a b h3 h4]
theorem lt_tr : ∀ a b c : List Nat, ltCps a b = true → ltCps b c = true → ltCps a c = true
  | [], [], _, h, _ => by simp [ltCps] at h
  | [], _ :: _, [], _, h => by simp [ltCps] at h
  | [], _ :: _, _ :: _, _, _ => rfl
  | _ :: _, [], _, h, _ => by simp [ltCps] at h
  | _ :: _, _ :: _, [], _, h => by simp [ltCps] at h
  | x :: a, y :: b, z :: c, h1, h2 => by
    simp only [ltCps, Bool.or_eq_true, Bool.and_eq_true, decide_eq_true_eq, beq_iff_eq] at h1 h2 ⊢
    rcases h1 with h1 | ⟨h1, h3⟩
    · rcases h2 with h2 | ⟨h2, h4⟩
      · exact .inl (by omega)
      · exact .inl (by omega)
    · rcases h2 with h2 | ⟨h2, h4⟩
      · exact .inl (by omega)
      · exact .inr ⟨h1.trans h2, lt_tr a b c h3 h4⟩
theorem leS_tot (a b : List Nat) : leS a b = true ∨ leS b a = true := by
  unfold leS
  cases h : ltCps b a with
  | false => exact .inl rfl
  | true => exact .inr (by rw [lt_asym b a h]; rfl)
theorem leS_an (a b : List Nat) (h1 : leS a b = true) (h2 : leS b a = true) : a = b := by
  unfold leS at h1 h2
  exact lt_tri a b (by simpa using h2) (by simpa using h1)
theorem leS_tr (a b c : List Nat) (h1 : leS a b = true) (h2 : leS b c = true) : leS a c = true := by
  unfold leS at *
  simp only [Bool.not_eq_true'] at *
  cases h : ltCps c a with
  | false => rfl
  | true =>
    by_cases e : ltCps a b = true
    · rw [lt_tr c a b h e] at h2
      cases h2
    · have := lt_tri a b (by simpa using e) h1
      subst this
      rw [h] at h2; cases h2
theorem rising_pw : ∀ (p : Str) (r : List Str), risingS p r = true → (p :: r).Pairwise (fun a b => leS a.cps.toList b.cps.toList = true)
  | p, [], _ => List.pairwise_singleton _ _
  | p, x :: r, h => by
    simp only [risingS, Bool.and_eq_true] at h
    have ih := rising_pw x r h.2
    rw [List.pairwise_cons]
    refine ⟨fun z hz => ?_, ih⟩
    have e : leS p.cps.toList x.cps.toList = true := h.1
    rcases List.mem_cons.mp hz with q | q
    · subst q; exact e
    · rw [List.pairwise_cons] at ih
      exact leS_tr _ _ _ e (ih.1 z q)
theorem sortedS_pw : ∀ xs : List Str, sortedS xs = true → xs.Pairwise (fun a b => leS a.cps.toList b.cps.toList = true)
  | [], _ => List.Pairwise.nil
  | p :: r, h => rising_pw p r h
theorem sortS_uniq {xs : List (List Nat)} {ys : List Str} (hp : ys.Perm (xs.map tx)) (hs : sortedS ys = true) : ys = (sortS xs).map tx := by
  have h1 : (ys.map fun z => z.cps.toList).Perm xs := by
    have := hp.map fun z : Str => z.cps.toList
    rw [List.map_map] at this
    have e : ((fun z : Str => z.cps.toList) ∘ tx) = id := funext fun s => tx_list s
    rw [e, List.map_id] at this
    exact this
  have h2 := sortedS_pw ys hs
  have h3 : (ys.map fun z => z.cps.toList).Pairwise (fun a b => leS a b = true) := List.pairwise_map.mpr h2
  have h4 : ys.map (fun z => z.cps.toList) = sortS xs := sortB_uniq leS_tot leS_tr leS_an h1 h3
  rw [← h4, List.map_map]
  have e : (tx ∘ fun z : Str => z.cps.toList) = id := funext fun z => by
    obtain ⟨c⟩ := z
    simp [tx]
  rw [e, List.map_id]
def intsOf : List D → Option (List Int)
  | [] => some []
  | .int i :: r => (intsOf r).map (i :: ·)
  | _ :: _ => none
def strsOf : List D → Option (List (List Nat))
  | [] => some []
  | .str s :: r => (strsOf r).map (s :: ·)
  | _ :: _ => none
def blsOf : List D → Option (List Bool)
  | [] => some []
  | .bl b :: r => (blsOf r).map (b :: ·)
  | _ :: _ => none
section
variable {K : PySem.W.Frag} {T : Tb} {X : Cx}
theorem ints_rp {H : Hp} : ∀ {ds : List D} {vs : List V} {ns : List Int}, RpL K H ds vs → intsOf ds = some ns → vs = ns.map V.int
  | [], vs, ns, h, e => by rw [RpL] at h; cases e; exact h
  | d :: ds, vs, ns, h, e => by
    rw [RpL] at h
    obtain ⟨v, r, rfl, h2, h3⟩ := h
    cases d <;> simp only [intsOf] at e <;> try cases e
    rename_i i
    cases hr : intsOf ds with
    | none => rw [hr] at e; cases e
    | some ms =>
      rw [hr] at e; cases e
      rw [Rp] at h2
      rw [h2, ints_rp h3 hr]; rfl
theorem strs_rp {H : Hp} : ∀ {ds : List D} {vs : List V} {ns : List (List Nat)}, RpL K H ds vs → strsOf ds = some ns → vs = (ns.map tx).map V.str
  | [], vs, ns, h, e => by rw [RpL] at h; cases e; exact h
  | d :: ds, vs, ns, h, e => by
    rw [RpL] at h
    obtain ⟨v, r, rfl, h2, h3⟩ := h
    cases d <;> simp only [strsOf] at e <;> try cases e
    rename_i i
    cases hr : strsOf ds with
    | none => rw [hr] at e; cases e
    | some ms =>
      rw [hr] at e; cases e
      rw [Rp] at h2
      rw [h2, strs_rp h3 hr]; rfl
theorem bls_rp {H : Hp} : ∀ {ds : List D} {vs : List V} {ns : List Bool}, RpL K H ds vs → blsOf ds = some ns → vs = ns.map V.bl
  | [], vs, ns, h, e => by rw [RpL] at h; cases e; exact h
  | d :: ds, vs, ns, h, e => by
    rw [RpL] at h
    obtain ⟨v, r, rfl, h2, h3⟩ := h
    cases d <;> simp only [blsOf] at e <;> try cases e
    rename_i i
    cases hr : blsOf ds with
    | none => rw [hr] at e; cases e
    | some ms =>
      rw [hr] at e; cases e
      rw [Rp] at h2
      rw [h2, bls_rp h3 hr]; rfl
theorem rpl_ints {H : Hp} : ∀ ns : List Int, RpL K H (ns.map .int) (ns.map V.int)
  | [] => RpL.nil
  | n :: ns => RpL.cons (by rw [Rp]) (rpl_ints ns)
theorem rpl_strs {H : Hp} : ∀ ns : List (List Nat), RpL K H (ns.map .str) ((ns.map tx).map V.str)
  | [] => RpL.nil
  | n :: ns => RpL.cons (by rw [Rp]) (rpl_strs ns)
/-- sorted(xs): ints, texts -/
def dSorted : List R → Option R
  | [r] => match itmD r.dat with
    | some xs => match intsOf xs with
      | some ns => if ns.length < 64 then some (.new ((sortI ns).map .int)) else none
      | none => match strsOf xs with
        | some ss => if ss.length < 64 then some (.new ((sortS ss).map .str)) else none
        | none => none
    | none => none
  | _ => none
def isLst : D → Bool
  | .lst _ => true
  | _ => false
def dSortedL : List R → Option R
  | [r] => if isLst r.dat then dSorted [r] else none
  | _ => none
def rSortedA (K : PySem.W.Frag) : List V → Hp → VK → Prop := fun vs H Q => rSorted K vs H Q ∨ rSortedS K vs H Q
theorem cr_sortedA : CallR X (.builtin "sorted") (rSortedA X.K) := fun pins s σ H xs us Q I r h => by
  rcases h with h | h
  · exact cr_sorted pins s σ H xs us Q I r h
  · exact cr_sortedS pins s σ H xs us Q I r h
theorem lst_rp {H : Hp} {d : D} {v : V} {xs : List D} (hl : isLst d = true) (h : Rp K H d v) (e : itmD d = some xs) : ∃ p vs, v = .ref p ∧ SqL K H p vs ∧ RpL K H xs vs := by
  cases d <;> simp [isLst] at hl
  simp only [itmD] at e
  cases e
  rw [Rp] at h
  exact h
theorem cd_sorted : CallD K T (rSortedA K) dSortedL := fun H0 F H vs rs c Q ok up q h k => by
  unfold dSortedL at h
  split at h
  · rename_i r
    split at h
    · rename_i hl
      obtain ⟨v, rfl, q1⟩ := rql1 q
      have z := q1.toH ok up
      simp only [dSorted] at h
      split at h
      · rename_i xs e
        obtain ⟨p, vs, rfl, h1, h2⟩ := lst_rp hl z e
        split at h
        · rename_i ns en
          split at h
          · rename_i hn
            cases h
            rw [ints_rp h2 en] at h1
            refine .inl ⟨p, ns, rfl, h1, hn, fun ns' l hp hs hl => ?_⟩
            rw [sortI_uniq hp hs]
            exact k _ F _ (Le.newH ok hl) (rr_lst ok hl (rpl_ints _))
          · cases h
        · split at h
          · rename_i ss es
            split at h
            · rename_i hn
              cases h
              rw [strs_rp h2 es] at h1
              refine .inr ⟨p, ss.map tx, rfl, h1, by simpa using hn, fun ys l hp hs hl => ?_⟩
              rw [sortS_uniq hp hs]
              exact k _ F _ (Le.newH ok hl) (rr_lst ok hl (rpl_strs _))
            · cases h
          · cases h
      · cases h
    · cases h
  · cases h
/-! sum, any, all -/
def dSum : List R → Option R
  | [r] => if isLst r.dat then (match itmD r.dat with
    | some xs => (intsOf xs).map fun ns => .val (.int ns.sum)
    | none => none) else none
  | _ => none
theorem cd_sum : CallD K T (rSum K) dSum := fun H0 F H vs rs c Q ok up q h k => by
  unfold dSum at h
  split at h
  · rename_i r
    split at h
    · rename_i hl
      obtain ⟨v, rfl, q1⟩ := rql1 q
      split at h
      · rename_i xs e
        obtain ⟨p, vs, rfl, h1, h2⟩ := lst_rp hl (q1.toH ok up) e
        cases en : intsOf xs with
        | none => rw [en] at h; cases h
        | some ns =>
          rw [en] at h; cases h
          rw [ints_rp h2 en] at h1
          exact ⟨p, ns, rfl, h1, k _ F H (Le.refl ok) (by rw [Rr, Rp])⟩
      · cases h
    · cases h
  · cases h
def dAny : List R → Option R
  | [r] => if isLst r.dat then (match itmD r.dat with
    | some xs => (blsOf xs).map fun ns => .val (.bl (ns.any id))
    | none => none) else none
  | _ => none
theorem cd_any : CallD K T (rAny K) dAny := fun H0 F H vs rs c Q ok up q h k => by
  unfold dAny at h
  split at h
  · rename_i r
    split at h
    · rename_i hl
      obtain ⟨v, rfl, q1⟩ := rql1 q
      split at h
      · rename_i xs e
        obtain ⟨p, vs, rfl, h1, h2⟩ := lst_rp hl (q1.toH ok up) e
        cases en : blsOf xs with
        | none => rw [en] at h; cases h
        | some ns =>
          rw [en] at h; cases h
          rw [bls_rp h2 en] at h1
          exact ⟨p, ns, rfl, h1, k _ F H (Le.refl ok) (by rw [Rr, Rp])⟩
      · cases h
    · cases h
  · cases h
def dAll : List R → Option R
  | [r] => if isLst r.dat then (match itmD r.dat with
    | some xs => (blsOf xs).map fun ns => .val (.bl (ns.all id))
    | none => none) else none
  | _ => none
theorem cd_all : CallD K T (rAll K) dAll := fun H0 F H vs rs c Q ok up q h k => by
  unfold dAll at h
  split at h
  · rename_i r
    split at h
    · rename_i hl
      obtain ⟨v, rfl, q1⟩ := rql1 q
      split at h
      · rename_i xs e
        obtain ⟨p, vs, rfl, h1, h2⟩ := lst_rp hl (q1.toH ok up) e
        cases en : blsOf xs with
        | none => rw [en] at h; cases h
        | some ns =>
          rw [en] at h; cases h
          rw [bls_rp h2 en] at h1
          exact ⟨p, ns, rfl, h1, k _ F H (Le.refl ok) (by rw [Rr, Rp])⟩
      · cases h
    · cases h
  · cases h
end
end Fw
namespace Fw
open PySem PySem.Spec PyProof.Rows L2
/-! ### join -/
def joinS (sep : List Nat) : List (List Nat) → List Nat
  | [] => []
  | [x] => x
  | x :: y :: r => x ++ sep ++ joinS sep (y :: r)
theorem join_tx (sep : List Nat) : ∀ ss : List (List Nat), Str.join (tx sep) (ss.map tx) = tx (joinS sep ss)
  | [] => rfl
  | [x] => rfl
  | x :: y :: r => by
    show tx x ++ tx sep ++ Str.join (tx sep) ((y :: r).map tx) = _
    rw [join_tx sep (y :: r), tx_app, tx_app]
    rfl
section
variable {X : Cx} {T : Tb} {W : WX} {K : PySem.W.Frag} {o e a b : Expr} {fo fe fa fb : Env → O R} {apos pos p p2 : Pos}
/-- a method of a text with one argument -/
def fM1 (d : List Nat → R → Option R) (fo fe : Env → O R) : Env → O R := fun es => (fo es).bind fun r => match r with
  | .val (.str z) => (fe es).bind fun b => O.of (d z b.fz)
  | _ => .no
def dJoin (sep : List Nat) (b : R) : Option R := match itmD b.dat with
  | some xs => match strsOf xs with
    | some ss => if (ss.map (·.length)).sum + ss.length * sep.length ≤ 1000000 then some (.val (.str (joinS sep ss))) else none
    | none => none
  | none => none
theorem sum_map_tx : ∀ ss : List (List Nat), ((ss.map tx).map (·.length)).sum = (ss.map (·.length)).sum
  | [] => rfl
  | s :: ss => by
    simp only [List.map_cons, List.sum_cons, tx_len]
    rw [sum_map_tx ss]
theorem m1_weak {r : V → List V → Hp → VK → Prop} {d : List Nat → R → Option R} (hd : ∀ (H0 F H : Hp) (z : List Nat) (y : V) (b c : R) (Q : VK), Ok T F H → Up K H0 H → Rq K T H0 F H y b → d z b = some c → (∀ v F' H', Le T F H F' H' → Rr K T H0 H F' H' v c → Q v H') → r (.str (tx z)) [y] H Q)
    {σ : L2.St} {H : Hp} {Q : VK} (h : tD K T W (fM1 d fo fe) σ H Q) : tM1 r (tD K T W fo) (tD K T W fe) σ H Q := by
  obtain ⟨F0, H0, F, es, st, h⟩ := h
  refine ⟨F0, H0, F, es, st, pr_seq st h fun a v F1 H1 _ st1 l1 q1 h1 => ?_⟩
  split at h1
  · rename_i z _
    have q2 : Rq K T H0 F1 H1 v (.val (.str z)) := q1
    have ev := rq_str q2
    subst ev
    refine ⟨⟨_, rfl⟩, F0, H0, F1, es, st1, pr_seq st1 h1 fun b y F2 H2 _ st2 l2 q3 h2 => ?_⟩
    cases hc : d z b.fz with
    | none => rw [hc] at h2; exact h2.elim
    | some c =>
      rw [hc] at h2
      exact hd H0 F2 H2 z y _ c Q st2.ok st2.up q3 hc h2
  · exact h1.elim
theorem de_join (ho : DE X T W o fo) (he : DE X T W e fe) (hs : starEach [e] X.env = [(false, eval e X.env)] := by rfl) (hbase : attributeBase o "join" X.env (eval o X.env) = eval o X.env := by rfl) (hline : (apos.endLine == pos.line) = true := by rfl) :
    DE X T W (.Call (.Attribute o "join" apos) [e] [] pos) (fM1 dJoin fo fe) :=
  pe_weak (pe_m1 PySem.F.slot_str_join PySem.F.type_str_join mt_join ho he hs hbase hline) fun σ H Q h => m1_weak (fun H0 F H z y b c Q ok up q hd k => by
    unfold dJoin at hd
    split at hd
    · rename_i xs e1
      split at hd
      · rename_i ss e2
        split at hd
        · rename_i hz
          cases hd
          obtain ⟨p, vs, rfl, h1, h2⟩ := itmD_ok (q.toH ok up) e1
          rw [strs_rp h2 e2] at h1
          refine ⟨tx z, p, ss.map tx, rfl, rfl, h1, ?_, ?_⟩
          · rw [sum_map_tx, List.length_map, tx_len]; omega
          · have e : Txt.join (tx z) (ss.map tx) = tx (joinS z ss) := by
              show Builtin.Str.glued (tx z) (ss.map tx) = _
              rw [StrLaws.glued_eq_join, join_tx]
            rw [e]
            exact k _ F H (Le.refl ok) (by rw [Rr, Rp])
        · cases hd
      · cases hd
    · cases hd) h
/-! ### list(range(n)) -/
def fLRg1 (fa : Env → O R) : Env → O R := fun es => (fa es).bind fun r => match r with
  | .val (.int n) => if n ≤ 90000 ∧ 0 ≤ n then .ok (.new ((List.range n.toNat).map fun i => .int (i : Nat))) else .no
  | _ => .no
theorem rgV_rp {H : Hp} {n : Int} (h : 0 ≤ n) : RpL K H ((List.range n.toNat).map fun i => D.int (i : Nat)) (rgV 0 n) := by
  unfold rgV
  rw [Int.sub_zero]
  generalize List.range n.toNat = l
  induction l with
  | nil => exact RpL.nil
  | cons a l ih => exact RpL.cons (by rw [Rp]; simp) ih
theorem de_lrg1 (hml : X.mg "list" = none) (hmr : X.mg "range" = none) (ha : DE X T W a fa) (hc : X.calm = true := by rfl) (hgl : Gl X "list" := by rfl) (hgr : Gl X "range" := by rfl) (na : starEach [a] X.env = (false, eval a X.env) :: starEach [] X.env := by rfl)
    (ne : starEach [.Call (.Name "range" p2) [a] [] apos] X.env = (false, eval (.Call (.Name "range" p2) [a] [] apos) X.env) :: starEach [] X.env := by rfl) :
    DE X T W (.Call (.Name "list" p) [.Call (.Name "range" p2) [a] [] apos] [] pos) (fLRg1 fa) :=
  pe_weak (pe_listRg hc hgl hml (prg_1 hgr hmr ha na) ne) fun σ H Q ⟨F0, H0, F, es, st, h⟩ => by
    show tD _ _ _ _ _ _ _
    refine ⟨F0, H0, F, es, st, pr_seq st h fun r v F1 H1 _ st1 l1 q1 h1 => ?_⟩
    split at h1
    · rename_i n _
      split at h1
      · rename_i hn
        refine ⟨n, rq_int (T := T) (H0 := H0) (F := F1) (H := H1) q1, ⟨by omega, by omega, by omega, by omega, by omega⟩, fun q hq => ?_⟩
        exact h1 _ F1 _ (Le.newH st1.ok hq) (rr_lst st1.ok hq (rgV_rp hn.2))
      · exact h1.elim
    · exact h1.elim
/-! ### text * n -/
def repS (s : List Nat) (n : Int) : List Nat := (List.replicate n.toNat s).flatten
def dMulA : R → R → Option R
  | .val (.str s), .val (.int n) => if s.length ≤ 1000 ∧ -1000 ≤ n ∧ n ≤ 1000 then some (.val (.str (repS s n))) else none
  | a, b => dMul a b
def rMulS : R2 := fun x y H Q => ∃ z n, x = .str z ∧ y = .int n ∧ z.length ≤ 1000 ∧ -1000 ≤ n ∧ n ≤ 1000 ∧ Q (.str ⟨((List.replicate n.toNat z.cps.toList).flatten).toArray⟩) H
theorem fold_rep (z : Array Nat) : ∀ (n : Nat) (acc : Array Nat), ((List.replicate n z).foldl (· ++ ·) acc).toList = acc.toList ++ (List.replicate n z.toList).flatten
  | 0, acc => by simp
  | n + 1, acc => by
    rw [List.replicate_succ, List.foldl_cons, fold_rep z n (acc ++ z), List.replicate_succ, List.flatten_cons]
    simp
theorem op_mulS : OpR X (binaryOp .Mult) rMulS := fun pins s σ H x y v u Q I rx ry h => by
  obtain ⟨z, n, rfl, rfl, hz, h1, h2, q⟩ := h
  obtain ⟨t, rfl⟩ := rx
  obtain ⟨w, rfl⟩ := ry
  have hle : z.length * n.toNat ≤ 1000 * 1000 := Nat.mul_le_mul hz (by omega)
  refine PySem.P.mul_str (by rw [decide_eq_false (by omega), decide_eq_false (by omega)]; rfl) (fun g1 g2 => ?_) (fun g1 g2 => ?_) ?_
  · have hn : 0 < n := by omega
    have e : ((z.length * n.toNat : Nat) : Int) = (z.length : Int) * n := by
      rw [Int.natCast_mul, Int.toNat_of_nonneg (by omega)]
    have : (z.length : Int) ≤ (2 ^ 63 - 1) / n := Int.le_ediv_of_mul_le hn (by rw [← e]; omega)
    omega
  · unfold Builtin.Str.tooLong
    have : sizeLine = 16777216 := rfl
    simp only [decide_eq_false_iff_not]
    omega
  · have go : ∀ r : Str, r = ⟨((List.replicate n.toNat z.cps.toList).flatten).toArray⟩ → EP X pins σ Q (.str r s.toks) { s with toks := s.toks + 1 } := fun r e => ⟨.str r, H, I.tok _, ⟨_, rfl⟩, by rw [e]; exact q⟩
    by_cases g1 : n < 1
    · rw [if_pos g1]
      have e : n.toNat = 0 := by omega
      exact ⟨by decide, go Str.empty (by rw [e]; rfl)⟩
    · rw [if_neg g1]
      by_cases g2 : (n == 1 || z.length == 0) = true
      · rw [if_pos g2]
        have e : (⟨((List.replicate n.toNat z.cps.toList).flatten).toArray⟩ : Str) = z := by
          rw [Bool.or_eq_true, beq_iff_eq, beq_iff_eq] at g2
          rcases g2 with g2 | g2
          · subst g2
            simp
          · have : z.cps = #[] := by
              have : z.cps.size = 0 := g2
              simpa using this
            obtain ⟨c⟩ := z
            simp only at this
            subst this
            simp
        exact ⟨.str z, H, I, ⟨t, rfl⟩, by rw [← e]; exact q⟩
      · rw [if_neg g2]
        have e : (⟨(List.replicate n.toNat z.cps).foldl (· ++ ·) #[]⟩ : Str) = ⟨((List.replicate n.toNat z.cps.toList).flatten).toArray⟩ := by
          have := fold_rep z.cps n.toNat #[]
          congr 1
          apply Array.toList_inj.mp
          rw [this]; simp
        refine ⟨?_, go _ e⟩
        show (List.foldl (· ++ ·) #[] (List.replicate n.toNat z.cps)).size ≤ sizeLine
        rw [← Array.length_toList, fold_rep]
        simp
        have h9 : z.cps.size * n.toNat ≤ 1000 * 1000 := hle
        have : sizeLine = 16777216 := rfl
        rw [Nat.mul_comm]
        omega
def rMulA : R2 := fun x y H Q => (rI CMul fun i j => .int (i * j)) x y H Q ∨ rMulS x y H Q
theorem op_mulA : OpR X (binaryOp .Mult) rMulA := OpR.or op_mul op_mulS
theorem od_mulA : OpD K T rMulA dMulA := fun H0 F H x y a b c Q ok up q1 q2 h k => by
  unfold dMulA at h
  split at h
  · rename_i s n
    split at h
    · rename_i hl
      cases h
      refine .inr ⟨tx s, n, rq_str q1, rq_int q2, by rw [tx_len]; exact hl.1, hl.2.1, hl.2.2, ?_⟩
      rw [tx_list]
      exact k _ F H (Le.refl ok) (by rw [Rr, Rp]; rfl)
    · cases h
  · exact .inl (od_mul H0 F H x y _ _ c Q ok up q1 q2 h k)
end
end Fw
namespace Fw
open PySem PySem.Spec PyProof.Rows L2
/-- a def of the module: where it stands, by which name, how it binds -/
structure Def (K : PySem.W.Frag) (mg : Str → Option Value) (x : Str) (st : Stmt) (ps : List Str) (f : Addr) (fd : FuncData) : Prop where
  fn : Fun K x x st f fd
  at_ : mg x = some (.ref f)
  bd : Binds K fd ps []
/-- .. and its code object is at c -/
structure DefC (K : PySem.W.Frag) (mg : Str → Option Value) (x : Str) (st : Stmt) (ps : List Str) (f : Addr) (fd : FuncData) (c : Addr) : Prop extends Def K mg x st ps f fd where
  ex : ∃ (oc : Value) (od : Option Addr) (kV doc pm : Value) (an : Option Addr) (ct : Value) (osl : Array (Option Value)),
    fd = PySem.W.fnOf x x (defArgs st) (defBody st) (defScope st) .none kV doc pm an (.ref c) ct ∧ K.lookup f = some ⟨oc, od, .func fd, osl⟩ ∧ PySem.W.codeIn K (.ref c) x = true
section
variable {P : Program} {w : World} {K : PySem.W.Frag} {mg : Str → Option Value} {base : Heap} {T : Tb}
theorem def_ok0 {x : Str} {st : Stmt} {f : Addr} {fd : FuncData} {N ps : List Str} {k : Nat} (F : Def K mg x st ps f fd) (S : FnScope N ps (defScope st)) (body : Env → Out)
    (h : ∀ (cdv : Value) (A : Around) (outer : List PySem.Env) (s : Shared) (H : Hp) (E : XK), Room k (A.deeper (envOfC x (defScope st) s.heap.objs.size f cdv)) → DSs (cxOf CX0 P w K mg base N x (defScope st) f cdv A outer s H E).nox T W0 (defBody st) body) :
    FnOk P w K mg base CX0 (k + 1) f fd ps (spD K T ps.length (run0 N.length body)) := fn_ok0 F.fn S body h
theorem def_ok0C {x : Str} {st : Stmt} {f c : Addr} {fd : FuncData} {N ps : List Str} {k : Nat} (F : DefC K mg x st ps f fd c) (S : FnScope N ps (defScope st)) (body : Env → Out)
    (h : ∀ (A : Around) (outer : List PySem.Env) (s : Shared) (H : Hp) (E : XK), Room k (A.deeper (envOfC x (defScope st) s.heap.objs.size f (.ref c))) → DSs (cxOf CX0 P w K mg base N x (defScope st) f (.ref c) A outer s H E).nox T W0 (defBody st) body) :
    FnOk P w K mg base CX0 (k + 1) f fd ps (spD K T ps.length (run0 N.length body)) := by
  obtain ⟨oc, od, kV, doc, pm, an, ct, osl, rfl, lk, hcd⟩ := F.ex
  refine fn_of lk hcd S (fun vs H Q E h => by obtain ⟨F, ds, hl, _⟩ := h; exact hl) fun A outer s H vs Q E hr hsp => ?_
  obtain ⟨F1, ds, hl, ok, r, q⟩ := hsp
  refine ⟨_, (h A outer s H E hr F1 H).nox, F1, _, start_ok (N := N) ok r, ?_⟩
  have q' : match runX N.length body ds with
    | .ok (.val d) => ∀ v F' H', Le T F1 H F' H' → Rr K T H H F' H' v (.val d) → Q v H'
    | .ok (.new xs) => ∀ v F' H', Le T F1 H F' H' → Rr K T H H F' H' v (.new xs) → Q v H'
    | .exc c fs => ∀ cls d F' H', Le T F1 H F' H' → XOk K F' c fs cls d → False
    | _ => False := by
    unfold run0 at q
    unfold runX
    cases hb : body (startE N.length ds) with
    | nx es => rw [hb] at q; exact q
    | rt r => cases r <;> (rw [hb] at q; exact q)
    | br es => rw [hb] at q; exact q
    | ct es => rw [hb] at q; exact q
    | no => rw [hb] at q; exact q
    | exc es c fs => rw [hb] at q; exact q.elim
  exact run_out (E := fun _ _ _ => False) (fun _ _ _ _ z => z) (fun _ => rfl) q'
end
theorem hq {k : Nat} {A : Around} (hr : Room k A) : A.units + 64 < cLine := by
  have := hr.un
  omega
theorem gen_free {env : PySem.Env} {scope : Scope} (h : (scope.names.all fun y => decide (y.2 ≠ .free)) = true) : ∀ y ∈ scope.names, y.2 = .free → ∃ c, env.cells.lookup y.1 = some c := fun y hy hf =>
  absurd hf (of_decide_eq_true (List.all_eq_true.mp h y hy))
/-! ### the end -/
/-- the table of the def at f is empty, its code object is one -/
def OwnT (K : PySem.W.Frag) (f : Addr) (h : Heap) : Prop := ∀ (c P : Addr) (o : Obj) (fd : FuncData) (e : Value) (dd : Option Addr) (vs : Array Value) (sl : Array (Option Value)), K.lookup f = some o → o.data = .func fd → fd.code = .ref c →
  K.lookup c = some ⟨e, dd, .fields vs, sl⟩ → vs[11]? = some (.ref P) → h.get? P = some { cls := .none, data := .fields #[] } ∧ PySem.W.CodeHd h c P
theorem walk_all {l : PySem.W.OpenLaw} {n k : Nat} {q : Program} {loose : List Str} {XP : (Str → Option Value) → Heap → Prop} {YP : World → Heap → Prop} {d : DefRec} {K : Params → PySem.W.Frag} {CX : World → CXT} {x : Str} (hn : l.most = some n) (hn2 : n ≤ sizeLine) (hdf : d.params.defaults = []) (hr : Room k callerA)
    (hY : ∀ (w : World) (h : Heap), YP w h → (K w.params).In h)
    (F : ∀ (w : World) (mg : Str → Option Value) (fa : Addr) (h : Heap), YP w h → (K w.params).In h → h.Ns mainGlobals mg → mg d.name = some (.ref fa) →
      (∀ (y : Str) (f : Addr), ((recsOf q).any fun e => e.name == y) = true → mg y = some (.ref f) → OwnT (K w.params) f h) → LamX.LawAtS l w (K w.params) (CX w) k n x mg fa h)
    (hCX : ∀ (w : World) (H : Hp) (s : Shared) (e : Value) (s' : Shared), CX w [] H s (fun _ _ _ => False) e s' → False) : PySem.W.WalkO q loose XP YP l.row.toRowW d [] (fun f vs => PySem.call f vs) := by
  refine Att.attach_callB hn hdf fun w s0 s1 mg mb fa o pm cd doc a vs ns G Y ho hd hcd hmg hobj hints hlen hbits hg => ?_
  have kin := hY w _ Y
  have own : ∀ (y : Str) (f : Addr), ((recsOf q).any fun e => e.name == y) = true → mg y = some (.ref f) → OwnT (K w.params) f s1.heap := fun y f hy hf c P o1 fd1 e dd vs1 sl k1 k2 k3 k4 k5 => by
    obtain ⟨dr, hm, hname⟩ := List.any_eq_true.mp hy
    have hname2 : dr.name = y := beq_iff_eq.mp hname
    obtain ⟨a', o', fd', c', P', h1, h2, h3, h4, h5, h6⟩ := G.T.tab dr hm
    rw [hname2, hf] at h1
    cases h1
    have g1 := kin _ _ k1
    rw [g1] at h2
    cases h2
    rw [k2] at h3
    cases h3
    rw [k3] at h4
    cases h4
    have hd0 := PySem.W.CodeHd.of h5 h6
    obtain ⟨⟨oc, vc, e1, _, e3, e4⟩, hP⟩ := h6
    have g2 := kin _ _ k4
    rw [g2] at e1
    cases e1
    cases e3
    rw [k5] at e4
    cases e4
    exact ⟨hP, hd0⟩
  obtain ⟨fd, cs, sp, hT, nT, C, hb, hsp, hF⟩ := F w mg fa _ Y kin G.T.g hmg own
  exact LamX.law_callTs kin G.T.g G.T.b G.T.builtins G.T.nolimit hg hT nT C G.T.bmain hobj hints (Nat.le_trans hlen hn2) hr hF hb (fun H hH hS => hsp H a ns hlen hbits hH hS) fun H e s' => hCX w H s1 e s'
/-- the law's promise, at its entry -/
theorem law_sp {K : PySem.W.Frag} {cs : List (Addr × Addr)} {g : List D → O R} {H : Hp} {a : Addr} {ns : List Int} (hg : g [.lst (ns.map .int)] = .ok (.val (.bl true))) (hT : ∀ p ∈ cs, H p.2 = some (.tbl #[])) (hS : SqL K H a (ns.map V.int)) :
    spD K (Tb.of (cs.map (·.2))) 1 g [.ref a] H (fun v _ => v = .bl true) fun _ _ _ => False := by
  refine ⟨fun _ => none, [.lst (ns.map .int)], rfl, ⟨fun a o h => (by cases h), fun P hP => ?_, fun _ _ => rfl⟩, RpL.cons ?_ RpL.nil, ?_⟩
  · obtain ⟨p, hp, rfl⟩ := List.mem_map.mp hP
    exact .inl ⟨⟨#[], hT p hp, True.intro⟩, fun _ _ h => h⟩
  · rw [Rp]; exact ⟨a, _, rfl, hS, rpl_ints ns⟩
  · rw [hg]
    intro v F' H' _ q
    rw [Rr, Rp] at q
    exact q
end Fw
namespace Fw
open PySem PySem.Spec PyProof.Rows L2
/-! ### what the program's classes are -/
/-- classes by their names; kinds of errors -/
structure Cl where
  at_ : String → Addr
  kx : Addr → D → Option Bool
  ex : Addr → Addr → Option Bool
structure ClOk (K : PySem.W.Frag) (cl : Cl) : Prop where
  kx : ∀ c d b, cl.kx c d = some b → ExcC K c ∧ match d with
    | .cls c' => PySem.W.kitOne K (.ref c) (.ref c') = some b
    | .ty n => PySem.W.kitOne K (.ref c) (.type n) = some b
    | _ => False
  ex : ∀ c c' b, cl.ex c c' = some b → PySem.W.exmOne K (.ref c) (.ref c') = some b
section
variable {X : Cx} {T : Tb} {W : WX} {e : Expr} {es : List Expr} {x : Str} {st : Stmt} {g : Env → Out}
/-- a class of the module -/
theorem de_cls {pos : Pos} {c : Addr} (h : X.mg x = some (.ref c)) (hg : Gl X x := by rfl) (hd : (x == ("__debug__" : Str)) = false := by decide) : DE X T W (.Name x pos) (fC (.cls c)) :=
  de_glob (v := .ref c) hg h rfl (fun _ => by rw [Rp]) hd
/-! ### raise -/
structure Exq (K : PySem.W.Frag) (mg : Str → Option Value) (x : Str) (c : Addr) : Prop where
  q : PySem.W.excIn K c [.type "ValueError", .type "Exception", .type "BaseException", .type "object"] "ValueError.__new__" = true
  g : mg x = some (.ref c)
  kp : PySem.W.keepIn K (.ref c) = true
  sub : PySem.W.subIn K (.ref c) (.type "BaseException") = some true
  ty : PySem.W.typeIn K (.ref c) = some (.type "type")
def gRaise (c : Addr) : Env → Out := fun es => .exc es c none
theorem ds_raise {m : Str} {j : Nat} {p p2 pos pos' : Pos} {c : Addr} (tk : Takes X W) (E : Exq X.K X.mg x c) (hc : X.calm = true := by rfl) (hg : Gl X x := by rfl) (hdb : (x == ("__debug__" : Str)) = false := by decide) :
    DS X T W (.Raise (some (.Call (.Name x p) [.Constant (.str m) j p2] [] pos)) none pos') (gRaise c) := fun F0 H0 =>
  ps_weak (ps_raise hc tk (pmk_own PySem.F.excBase_ValueError E.q E.g E.kp (raises_own E.sub E.ty) hg hdb)) fun D σ H ⟨F, es, st, q⟩ => q (.ref c) none σ F H (Sub.refl _) st ⟨rfl, rfl⟩
/-! ### a call that may raise -/
theorem de_callX {k n : Nat} {f : Addr} {fd : FuncData} {ps : List Str} {gg : List D → O R} {fr : Env → O (List R)} {pos p : Pos} (F : FnOk X.prog X.w X.K X.mg X.base (L2.CX X.prog X.w) k f fd ps (spD X.K T n gg)) (tk : Takes X W) (hr : Room k X.A) (hm : X.mg x = some (.ref f))
    (hk : PySem.W.keepIn X.K (.ref f) = true) (hb : Binds X.K fd ps []) (ha : DA X T W (e :: es) fr) (hn : ∀ es rs, fr es = .ok rs → rs.length = n) (hg : Gl X x := by rfl) (hdb : (x == ("__debug__" : Str)) = false := by decide)
    (he : starEach (e :: es) X.env = (false, eval e X.env) :: starEach es X.env := by rfl) (hpl : (backTo pos (starEach es X.env)).any (·.1) = false := by rfl) : DE X T W (.Call (.Name x p) (e :: es) [] pos) (fCall gg fr) :=
  pe_weak (pe_callS F hr hg hm hk hb (fun σ => passAt tk σ) ha hdb he hpl) fun σ H Q h => call_weak (Ec := WE W) (fun _ _ _ z => z) hn h
/-! ### try .. except C as e -/
def Out.un (i : Nat) : Out → Out
  | .nx es => .nx (es.set i .no)
  | .br es => .br (es.set i .no)
  | .ct es => .ct (es.set i .no)
  | .rt r => .rt r
  | _ => .no
def tryX (ex : Addr → Option Bool) (i : Nat) (ts : Env → Out) (e2 : Env) (c : Addr) (fs : Option (List Str × List D)) : Out := match ex c, fs with
  | some true, none => (ts (e2.set i (.val (.exn c [] [])))).un i
  | some true, some p => if p.1 = [] then .no else (ts (e2.set i (.val (.exn c p.1 p.2)))).un i
  | some false, _ => .exc e2 c fs
  | none, _ => .no
def gTry (ex : Addr → Option Bool) (i : Nat) (g ts : Env → Out) : Env → Out := fun es => match g es with
  | .exc e2 c none => match ex c with
    | some true => (ts (e2.set i (.val (.exn c [] [])))).un i
    | some false => .exc e2 c none
    | none => .no
  | .exc e2 c (some p) => match ex c with
    | some true => if p.1 = [] then .no else (ts (e2.set i (.val (.exn c p.1 p.2)))).un i
    | some false => .exc e2 c (some p)
    | none => .no
  | o => o
theorem gTry_exc {ex : Addr → Option Bool} {i : Nat} {g ts : Env → Out} {es e2 : Env} {c : Addr} {fs : Option (List Str × List D)} (h : g es = .exc e2 c fs) : gTry ex i g ts es = tryX ex i ts e2 c fs := by
  unfold gTry tryX
  rw [h]
  cases fs <;> dsimp only <;> rcases ex c with _ | (_ | _) <;> rfl
theorem wipe1 (σ : L2.St) (i : Nat) : L2.wipe σ [i] = σ.set i none := rfl
theorem wipeE1 (es : Env) (i : Nat) : wipeE es [i] = es.set i .no := rfl
theorem ds_try {n : Str} {c : Addr} {i : Nat} {body suite : List Stmt} {b₀ : Stmt} {np pos pos' : Pos} {ts : Env → Out} {ex : Addr → Option Bool} (hN : X.N.Nodup) (hi : X.N[i]? = some n) (tk : Takes X W) (hc : X.mg x = some (.ref c)) (hex : ∀ c' b, ex c' = some b → PySem.W.exmOne X.K (.ref c') (.ref c) = some b)
    (hb : ∀ (W : WX) (pn : List (Addr × Obj)) (xe : Value → Shared → Prop), Takes (X.tr pn xe) W → PassesOwn (model X.prog X.w) X.A X.env xe → DSs (X.tr pn xe) T W body g) (hsu : ∀ (a : Addr) (pn : List (Addr × Obj)), DSs (X.suite a pn) T W0 (b₀ :: suite) ts)
    (hs : X.stack = X.env :: X.outer := by rfl) (hf : X.env.frame = some X.env.locals := by rfl) (hln : X.env.kindOf n = some .local := by rfl) (hg : Gl X x := by rfl) (hd : (x == ("__debug__" : Str)) = false := by decide) :
    DS X T W (.Try body [.ExceptHandler (some (.Name x np)) (some n) (b₀ :: suite) pos'] [] [] pos) (gTry ex i g ts) := fun F0 H0 =>
  ps_weak (ps_try_asT (tb := fun W => tS X.K T W F0 H0 g) (ts := tS X.K T W0 F0 H0 ts) (Wout := W) hs hf hN hi hln ⟨hg, hd, Or.inl hc⟩ tk (fun W pn xe tk po => hb W pn xe tk po F0 H0) (fun a pn => hsu a pn F0 H0)) fun D σ H ⟨F, es, st, q⟩ => by
    refine ⟨F, es, st, ?_⟩
    cases hg : g es with
    | nx e2 => unfold gTry at q; rw [hg] at q; exact q
    | rt r => unfold gTry at q; rw [hg] at q; exact q
    | br e2 => unfold gTry at q; rw [hg] at q; exact q
    | ct e2 => unfold gTry at q; rw [hg] at q; exact q
    | no => unfold gTry at q; rw [hg] at q; exact q
    | exc e2 c' fs =>
      rw [gTry_exc hg] at q
      unfold tryX at q
      intro cls d σ' F' H' sb st' xo
      obtain ⟨rfl, xd⟩ := xo
      cases hx : ex c' with
      | none => simp only [hx] at q; exact q.elim
      | some b =>
        cases b with
        | false => exact ⟨false, hex c' _ hx, (fun z => by cases z), fun _ => by simp only [hx] at q; exact q _ _ σ' F' H' sb st' ⟨rfl, xd⟩⟩
        | true =>
        refine ⟨true, hex c' _ hx, fun _ a ha => ?_, fun z => by cases z⟩
        have un : ∀ {σ6 : L2.St} {es6 : Env} {F6 H6 : Hp}, StOk X.K T F0 H0 F6 H6 σ6 es6 → StOk X.K T F0 H0 F6 H6 (σ6.set i none) (es6.set i .no) := fun s => s.wipe [i]
        have go : ∀ (ns : List Str) (ds : List Fw.D), Rp X.K (upd F' a (ExH (.ref c') d a)) (.exn c' ns ds) (.ref a) → OutOk X.K T W F0 H0 F D ((ts (e2.set i (.val (.exn c' ns ds)))).un i) →
            tS X.K T W0 F0 H0 ts { nx := fun σ' H' => D.nx (σ'.set i none) H', rt := D.rt, bk := fun σ' H' => D.bk (σ'.set i none) H', ct := fun σ' H' => D.ct (σ'.set i none) H' } (σ'.set i (some (.ref a))) (upd H' a (ExH (.ref c') d a)) := fun ns ds rp q => by
          have st2 : StOk X.K T F0 H0 (upd F' a (ExH (.ref c') d a)) (upd H' a (ExH (.ref c') d a)) σ' e2 := st'.step (Le.new st'.ok ha)
          have st3 := StOk.slot (i := i) (v := .ref a) (r := .val (.exn c' ns ds)) st2 rp rfl
          have sub : Sub F (upd F' a (ExH (.ref c') d a)) := sb.trans (Sub.new (st'.ok.nf ha))
          refine ⟨_, _, st3, ?_⟩
          unfold Out.un at q
          cases ho : ts (e2.set i (.val (.exn c' ns ds))) with
          | nx e6 => rw [ho] at q; exact fun σ6 F6 H6 s6 t6 => q _ F6 H6 (sub.trans s6) (un t6)
          | br e6 => rw [ho] at q; exact fun σ6 F6 H6 s6 t6 => q _ F6 H6 (sub.trans s6) (un t6)
          | ct e6 => rw [ho] at q; exact fun σ6 F6 H6 s6 t6 => q _ F6 H6 (sub.trans s6) (un t6)
          | rt r => rw [ho] at q; exact q
          | exc e6 c6 f6 => rw [ho] at q; exact q.elim
          | no => rw [ho] at q; exact q.elim
        cases fs with
        | none =>
          simp only [hx] at q
          obtain rfl : d = none := xd
          exact go [] [] (by rw [Rp]; exact ⟨a, none, rfl, upd_same, Or.inl ⟨rfl, rfl⟩⟩) q
        | some p =>
          obtain ⟨ns, ds⟩ := p
          simp only [hx] at q
          split at q
          · exact q.elim
          · rename_i hne
            obtain ⟨dd, vs, rfl, hdd, hln, _, hrp⟩ := xd
            exact go ns ds (by
              rw [Rp]
              exact ⟨a, some dd, rfl, upd_same, Or.inr ⟨dd, vs, hne, rfl, Sub.new (st'.ok.nf ha) _ _ hdd, hln, hrp.mono (Sub.new (st'.ok.nf ha))⟩⟩) q
end
/-! ### isinstance with errors -/
def isX (cl : Cl) : D → D → Option Bool
  | .exn c _ _, t => cl.kx c t
  | _, _ => none
def dIsX (cl : Cl) : List R → Option R
  | [r, t] => match isX cl r.dat t.dat with
    | some k => some (.val (.bl k))
    | none => dIsi [r, t]
  | _ => none
def rIsiX (K : PySem.W.Frag) : List V → Hp → VK → Prop := fun xs H Q => rIsi K xs H Q ∨ rIsX K xs H Q
theorem call_isiX {X : Cx} : CallR X (.builtin "isinstance") (rIsiX X.K) := fun pins s σ H xs us Q I r h => by
  rcases h with h | h
  · exact call_isi pins s σ H xs us Q I r h
  · exact call_isX pins s σ H xs us Q I r h
theorem cd_isX {K : PySem.W.Frag} {T : Tb} {cl : Cl} (ok : ClOk K cl) : CallD K T (rIsiX K) (dIsX cl) := fun H0 F H vs rs c Q okH up q h k => by
  unfold dIsX at h
  split at h
  · rename_i r t
    split at h
    · rename_i b hx
      cases h
      obtain ⟨v, u, rfl, q1, q2⟩ := rql2 q
      have z := q1.toH okH up
      have z2 := q2.toH okH up
      cases hr : r.dat with
      | exn c' ns ds =>
        rw [hr] at hx z
        generalize ht : t.dat = td at hx z2
        have hx : cl.kx c' td = some b := hx
        rw [Rp] at z
        obtain ⟨a, dd, rfl, ha, hz⟩ := z
        have hn : dd = none ∨ ∃ d2 fs, dd = some d2 ∧ H d2 = some (.xd fs) := by
          rcases hz with ⟨h1, _⟩ | ⟨d2, vs, _, h1, h2, _⟩
          · exact Or.inl h1
          · exact Or.inr ⟨d2, _, h1, h2⟩
        obtain ⟨hE, hd⟩ := ok.kx c' td b hx
        cases td with
        | cls c2 =>
          rw [Rp] at z2
          exact Or.inr ⟨a, c', dd, u, .ref c2, b, rfl, ha, hn, hE, fun w hw => by rw [z2] at hw; exact hw, hd, k _ F H (Le.refl okH) (by rw [Rr, Rp])⟩
        | ty n =>
          rw [Rp] at z2
          exact Or.inr ⟨a, c', dd, u, .type n, b, rfl, ha, hn, hE, fun w hw => by rw [z2] at hw; exact hw, hd, k _ F H (Le.refl okH) (by rw [Rr, Rp])⟩
        | _ => exact hd.elim
      | _ => rw [hr] at hx; cases hx
    · exact Or.inl (cd_isi H0 F H _ _ c Q okH up q h k)
  · cases h
end Fw
namespace Fw
open PySem PySem.Spec PyProof.Rows L2
/-! ### a def that may raise -/
section
variable {P : Program} {w : World} {K : PySem.W.Frag} {mg : Str → Option Value} {base : Heap} {T : Tb}
theorem tkX {N : List Str} {qual : Str} {scope : Scope} {f : Addr} {cdv : Value} {A : Around} {outer : List PySem.Env} {s : Shared} {H : Hp} {E : XK} : Takes (cxOf (L2.CX P w) P w K mg base N qual scope f cdv A outer s H E) (fun cls d _ H => E cls d H) := takes_of rfl rfl rfl rfl
theorem fn_okX {x qual : Str} {st : Stmt} {f : Addr} {fd : FuncData} {N ps : List Str} {k : Nat} (F : Fun K x qual st f fd) (S : FnScope N ps (defScope st)) (body : Env → Out)
    (h : ∀ (cdv : Value) (A : Around) (outer : List PySem.Env) (s : Shared) (H : Hp) (E : XK), Room k (A.deeper (envOfC qual (defScope st) s.heap.objs.size f cdv)) → DSs (cxOf (L2.CX P w) P w K mg base N qual (defScope st) f cdv A outer s H E) T (fun cls d _ H => E cls d H) (defBody st) body) :
    FnOk P w K mg base (L2.CX P w) (k + 1) f fd ps (spD K T ps.length (runX N.length body)) := by
  refine F.okX S (fun vs H Q E h => by obtain ⟨F, ds, hl, _⟩ := h; exact hl) (fun cdv A outer s H vs Q E hr hsp => ?_)
  obtain ⟨F, ds, hl, ok, r, q⟩ := hsp
  exact ⟨_, h cdv A outer s H E hr F H, F, _, start_ok (N := N) ok r, run_out (E := E) (fun _ _ _ _ z => z) (fun _ => rfl) q⟩
/-- what raises nothing, as a def that may raise -/
theorem fn_ok00 {x qual : Str} {st : Stmt} {f : Addr} {fd : FuncData} {N ps : List Str} {k : Nat} (F : Fun K x qual st f fd) (S : FnScope N ps (defScope st)) (body : Env → Out)
    (h : ∀ (cdv : Value) (A : Around) (outer : List PySem.Env) (s : Shared) (H : Hp) (E : XK), Room k (A.deeper (envOfC qual (defScope st) s.heap.objs.size f cdv)) → DSs (cxOf CX0 P w K mg base N qual (defScope st) f cdv A outer s H E).nox T W0 (defBody st) body) :
    FnOk P w K mg base CX0 (k + 1) f fd ps (spD K T ps.length (run0 N.length body)) := fn_ok0 F S body h
end
/-! ### fields -/
def fldN (f : Str) : List Str → List D → Option D
  | n :: ns, d :: ds => if n = f then some d else fldN f ns ds
  | _, _ => none
theorem fldN_zip {K : PySem.W.Frag} {H : Hp} {f : Str} : ∀ {ns : List Str} {ds : List D} {vs : List V} {d : D}, RpL K H ds vs → fldN f ns ds = some d → ∃ v, (ns.zip vs).lookup f = some v ∧ Rp K H d v
  | [], ds, vs, d, h, e => by cases ds <;> cases e
  | n :: ns, [], vs, d, h, e => by cases e
  | n :: ns, d0 :: ds, vs, d, h, e => by
    rw [RpL] at h
    obtain ⟨v, r, rfl, h2, h3⟩ := h
    unfold fldN at e
    split at e
    · rename_i hn
      cases e
      subst hn
      exact ⟨v, by simp [List.zip_cons_cons], h2⟩
    · rename_i hn
      obtain ⟨v2, g1, g2⟩ := fldN_zip h3 e
      refine ⟨v2, ?_, g2⟩
      have : (f == n) = false := by simpa using fun z => hn (Eq.symm z)
      rw [List.zip_cons_cons, List.lookup_cons, this]
      exact g1
/-- e.f -/
def fldR (f : Str) (c : Addr) : R → Option R
  | .val (.ins c' ns ds) => if c' = c then (fldN f ns ds).map .val else none
  | .val (.slf _ c' ns ds) => if c' = c then (fldN f ns ds).map .val else none
  | .brw (.ins c' ns ds) => if c' = c then (fldN f ns ds).map nrm else none
  | _ => none
def fFld (f : Str) (c : Addr) (fa : Env → O R) : Env → O R := fun es => (fa es).bind fun r => O.of (fldR f c r)
section
variable {X : Cx} {T : Tb} {W : WX} {e : Expr} {es : List Expr} {x f : Str} {pos : Pos} {fa : Env → O R} {c : Addr}
theorem fldR_ok {K : PySem.W.Frag} {T : Tb} {F0 H0 F1 H1 : Hp} {σ : L2.St} {es : Env} {r r' : R} {v : V} {f : Str} {c : Addr} (st1 : StOk K T F0 H0 F1 H1 σ es) (q1 : Rq K T H0 F1 H1 v r.fz) (hf : fldR f c r = some r') :
    ∃ a dx fs v', v = .ref a ∧ H1 a = some (.ins c dx fs) ∧ fs.lookup f = some v' ∧ Rr K T H0 H1 F1 H1 v' r' := by
  cases r with
  | new xs => cases hf
  | bor xs => cases hf
  | val d =>
    cases d with
    | ins c' ns ds =>
      replace hf : (if c' = c then (fldN f ns ds).map R.val else none) = some r' := hf
      split at hf
      · rename_i hcc
        subst hcc
        cases hd : fldN f ns ds with
        | none => rw [hd] at hf; cases hf
        | some d =>
          rw [hd] at hf
          cases hf
          replace q1 : Rp K F1 (.ins c' ns ds) v := q1
          rw [Rp] at q1
          obtain ⟨a, dx, vs, rfl, g1, g2, g3⟩ := q1
          obtain ⟨v, e1, e2⟩ := fldN_zip g3 hd
          exact ⟨a, dx, _, v, rfl, st1.ok.sub _ _ g1, e1, e2⟩
      · cases hf
    | slf a c' ns ds =>
      replace hf : (if c' = c then (fldN f ns ds).map R.val else none) = some r' := hf
      split at hf
      · rename_i hcc
        subst hcc
        cases hd : fldN f ns ds with
        | none => rw [hd] at hf; cases hf
        | some d =>
          rw [hd] at hf
          cases hf
          replace q1 : Rp K F1 (.slf a c' ns ds) v := q1
          rw [Rp] at q1
          obtain ⟨rfl, dx, vs, g1, g2, g3⟩ := q1
          obtain ⟨v, e1, e2⟩ := fldN_zip g3 hd
          exact ⟨a, dx, _, v, rfl, st1.ok.sub _ _ g1, e1, e2⟩
      · cases hf
    | _ => cases hf
  | brw d =>
    cases d with
    | ins c' ns ds =>
      replace hf : (if c' = c then (fldN f ns ds).map nrm else none) = some r' := hf
      split at hf
      · rename_i hcc
        subst hcc
        cases hd : fldN f ns ds with
        | none => rw [hd] at hf; cases hf
        | some d =>
          rw [hd] at hf
          cases hf
          replace q1 : Rp K H0 (.ins c' ns ds) v := q1
          rw [Rp] at q1
          obtain ⟨a, dx, vs, rfl, g1, g2, g3⟩ := q1
          obtain ⟨v, e1, e2⟩ := fldN_zip g3 hd
          have nT : a ∉ T := fun m => by
            rcases st1.ok0.odd a m with ⟨ps, z⟩ | ⟨ps, z⟩ <;> (rw [z] at g1; cases g1)
          exact ⟨a, dx, _, v, rfl, st1.le.h a _ nT g1, e1, rr_nrm e2⟩
      · cases hf
    | _ => cases hf
theorem de_fld (ha : DE X T W e fa) (hc : Cls X.K c) (hn : NoAttr X.K c f) (hb : attributeBase e f X.env (eval e X.env) = eval e X.env := by rfl) : DE X T W (.Attribute e f pos) (fFld f c fa) :=
  pe_weak (pe_fld ha hb) fun σ H Q ⟨F0, H0, F, es, st, h⟩ => ⟨F0, H0, F, es, st, pr_seq st h fun r v F1 H1 _ st1 l1 q1 h1 => by
    cases hf : fldR f c r with
    | none => rw [hf] at h1; exact h1.elim
    | some r' =>
      rw [hf] at h1
      obtain ⟨a, dx, fs, v', rfl, g1, g2, g3⟩ := fldR_ok st1 q1 hf
      exact ⟨a, c, dx, fs, v', rfl, g1, hc, hn, g2, h1 v' F1 H1 (Le.refl st1.ok) g3⟩⟩
end
end Fw
namespace Fw
open PySem PySem.Spec PyProof.Rows L2
/-! ### methods -/
def tMethE (C : Addr) (m : Str) (sp : Sp) (E : L2.St → XK) (ta : TE) (t : TA) : TE := fun σ H Q => ta σ H fun x H1 => ∃ a dx fs, x = .ref a ∧ H1 a = some (.ins C dx fs) ∧ fs.lookup m = none ∧ t σ H1 fun vs H2 => sp (x :: vs) H2 Q (E σ)
section
variable {X : Cx} {CX : CXT} {k : Nat} {f C : Addr} {fd : FuncData} {ps : List Str} {sp : Sp} {E : L2.St → XK} {x m : Str} {p pos apos : Pos} {e o : Expr} {es : List Expr} {ta : TE} {t : TA}
theorem pe_methE {pl : Sem Bool} (he : PE X o ta) (c : Cls X.K C) (hm : Meth X.K C m f) (F : FnOk X.prog X.w X.K X.mg X.base CX k f fd ps sp) (hr : Room k X.A) (hb : Binds X.K fd ps []) (hx : ∀ σ, PassesAt CX X σ (E σ)) (ha : PA X (e :: es) t)
    (hst : starEach (e :: es) X.env = (false, eval e X.env) :: starEach es X.env := by rfl) (hpl : (backTo pos (starEach es X.env)).any (·.1) = false := by rfl)
    (ht : eval (.Call (.Attribute o m apos) (e :: es) [] pos) X.env = (do let ov ← eval o X.env; standAt apos.atName; let (f, first) ← holding [ov] (getMethod ov m pl); callWith pos f first (backTo pos (starEach (e :: es) X.env)) (backToKw pos (keywordEach [] X.env))) := by rfl) :
    PE X (.Call (.Attribute o m apos) (e :: es) [] pos) (tMethE C m sp E ta t) := by
  refine ⟨fun pins s σ H Q I h => PySem.W.methodCall_KW (pl := pl) (thn (he.run pins s σ H _ I h) fun u s1 ⟨x, H1, I1, rx, a, dx, fs, ex, ea, l, q⟩ => ?_) ht⟩
  subst ex
  obtain rfl : u = Value.ref a := rx
  exact getmeth_ok I1 ea c hm l (PySem.W.callWith_K (first := [.ref a]) (h₀ := X.base) I.ok.mod.kin hm.kp (thn (ha.run pos pins s1 σ H1 _ I1 q) fun us s2 ⟨vs, H2, I2, r, q2⟩ => ⟨I2.kIn, run_fnS (us := .ref a :: us) (vs := .ref a :: vs) F hr hb (hx σ) I2 (.cons rfl r) q2⟩) hst hpl)
theorem pe_methE0 {pl : Sem Bool} (he : PE X o ta) (c : Cls X.K C) (hm : Meth X.K C m f) (F : FnOk X.prog X.w X.K X.mg X.base CX k f fd ps sp) (hr : Room k X.A) (hb : Binds X.K fd ps []) (hx : ∀ σ, PassesAt CX X σ (E σ))
    (ht : eval (.Call (.Attribute o m apos) [] [] pos) X.env = (do let ov ← eval o X.env; standAt apos.atName; let (f, first) ← holding [ov] (getMethod ov m pl); callWith pos f first (backTo pos (starEach [] X.env)) (backToKw pos (keywordEach [] X.env))) := by rfl) :
    PE X (.Call (.Attribute o m apos) [] [] pos) (tMethE C m sp E ta tNil) := by
  refine ⟨fun pins s σ H Q I h => PySem.W.methodCall_KW (pl := pl) (thn (he.run pins s σ H _ I h) fun u s1 ⟨x, H1, I1, rx, a, dx, fs, ex, ea, l, q⟩ => ?_) ht⟩
  subst ex
  obtain rfl : u = Value.ref a := rx
  exact getmeth_ok I1 ea c hm l (PySem.W.callWith_K0 (first := [.ref a]) I1.kIn hm.kp (run_fnS (us := [.ref a]) (vs := [.ref a]) F hr hb (hx σ) I1 (.cons rfl .nil) q))
end
/-- an instance of the class c without an own m -/
def insOf (c : Addr) (m : Str) : D → Bool
  | .ins c' ns _ => decide (c' = c) && !ns.contains m
  | _ => false
theorem insOf_ok {K : PySem.W.Frag} {H : Hp} {c : Addr} {m : Str} {d : D} {v : V} (h : insOf c m d = true) (r : Rp K H d v) : ∃ a dx fs, v = .ref a ∧ H a = some (.ins c dx fs) ∧ fs.lookup m = none := by
  cases d with
  | ins c' ns ds =>
    have h : (decide (c' = c) && !ns.contains m) = true := h
    rw [Bool.and_eq_true] at h
    have e := of_decide_eq_true h.1
    subst e
    rw [Rp] at r
    obtain ⟨a, dx, vs, rfl, h2, h3, h4⟩ := r
    refine ⟨a, dx, _, rfl, h2, ?_⟩
    have hm : m ∉ ns := by simpa using h.2
    rw [List.lookup_eq_none_iff]
    intro p hp
    have := (List.of_mem_zip hp).1
    simp
    exact fun z => hm (z ▸ this)
  | _ => cases h
def fMeth (c : Addr) (m : Str) (g : List D → O R) (fo : Env → O R) (fr : Env → O (List R)) : Env → O R := fun es => (fo es).bind fun r => if insOf c m r.dat = true then (fr es).bind (fun rs => match g (r.dat :: rs.map R.dat) with
  | .ok (.val d) => .ok (.val d)
  | .ok (.new xs) => .ok (.new xs)
  | .exc c fs => .exc c fs
  | _ => .no) else .no
section
variable {X : Cx} {T : Tb} {W : WX} {m : Str} {pos apos : Pos} {e o : Expr} {es : List Expr} {fo : Env → O R} {fr : Env → O (List R)} {g : List D → O R} {c f : Addr} {fd : FuncData} {ps : List Str} {k n : Nat} {CX : CXT}
theorem meth_weak {σ : L2.St} {H : Hp} {Q : VK} (hn : ∀ es rs, fr es = .ok rs → rs.length + 1 = n) (h : tD X.K T W (fMeth c m g fo fr) σ H Q) : tMethE c m (spD X.K T n g) (WE W) (tD X.K T W fo) (tDA X.K T W fr) σ H Q := by
  obtain ⟨F0, H0, F, es, st, h⟩ := h
  refine ⟨F0, H0, F, es, st, pr_seq st h fun r v F1 H1 _ st1 l1 q1 h1 => ?_⟩
  split at h1
  · rename_i hi
    have rv : Rp X.K H1 r.dat v := by rw [← R.fz_dat]; exact q1.toH st1.ok st1.up
    obtain ⟨a, dx, fs, rfl, g1, g2⟩ := insOf_ok hi rv
    refine ⟨a, dx, fs, rfl, g1, g2, F0, H0, F1, es, st1, pa_seq st1 h1 fun rs vs F2 H2 hrs st2 l2 q2 h2 => ?_⟩
    refine ⟨F2, r.dat :: rs.map R.dat, ?_, st2.ok, RpL.cons (l2.rp st1.ok.odd _ rv) (q2.toH st2.ok st2.up), ?_⟩
    · rw [List.length_cons, ← q2.len]; exact hn es rs hrs
    · cases hg : g (r.dat :: rs.map R.dat) with
      | no => rw [hg] at h2; exact h2
      | exc c fs => rw [hg] at h2; exact fun cls d F' H' l q => h2 cls d F' H' l q
      | ok r =>
        rw [hg] at h2
        cases r with
        | val d => exact fun v F' H' l q => h2 v F' H' l q
        | new xs => exact fun v F' H' l q => h2 v F' H' l q
        | brw d => exact h2
        | bor xs => exact h2
  · exact h1.elim
theorem de_meth {pl : Sem Bool} (ho : DE X T W o fo) (hc : Cls X.K c) (hm : Meth X.K c m f) (F : FnOk X.prog X.w X.K X.mg X.base CX k f fd ps (spD X.K T n g)) (hr : Room k X.A) (hb : Binds X.K fd ps []) (hx : ∀ σ, PassesAt CX X σ (WE W σ)) (ha : DA X T W (e :: es) fr) (hn : ∀ es rs, fr es = .ok rs → rs.length + 1 = n)
    (hst : starEach (e :: es) X.env = (false, eval e X.env) :: starEach es X.env := by rfl) (hpl : (backTo pos (starEach es X.env)).any (·.1) = false := by rfl)
    (ht : eval (.Call (.Attribute o m apos) (e :: es) [] pos) X.env = (do let ov ← eval o X.env; standAt apos.atName; let (f, first) ← holding [ov] (getMethod ov m pl); callWith pos f first (backTo pos (starEach (e :: es) X.env)) (backToKw pos (keywordEach [] X.env))) := by rfl) :
    DE X T W (.Call (.Attribute o m apos) (e :: es) [] pos) (fMeth c m g fo fr) := pe_weak (pe_methE (pl := pl) ho hc hm F hr hb hx ha hst hpl ht) fun σ H Q h => meth_weak hn h
theorem de_meth0 {pl : Sem Bool} (ho : DE X T W o fo) (hc : Cls X.K c) (hm : Meth X.K c m f) (F : FnOk X.prog X.w X.K X.mg X.base CX k f fd ps (spD X.K T 1 g)) (hr : Room k X.A) (hb : Binds X.K fd ps []) (hx : ∀ σ, PassesAt CX X σ (WE W σ))
    (ht : eval (.Call (.Attribute o m apos) [] [] pos) X.env = (do let ov ← eval o X.env; standAt apos.atName; let (f, first) ← holding [ov] (getMethod ov m pl); callWith pos f first (backTo pos (starEach [] X.env)) (backToKw pos (keywordEach [] X.env))) := by rfl) :
    DE X T W (.Call (.Attribute o m apos) [] [] pos) (fMeth c m g fo fNil) := pe_weak (pe_methE0 (pl := pl) ho hc hm F hr hb hx ht) fun σ H Q h => by
  obtain ⟨F0, H0, F, es, st, h⟩ := meth_weak (fr := fNil) (n := 1) (fun es rs e => by cases e; rfl) h
  refine ⟨F0, H0, F, es, st, ?_⟩
  cases ho : fo es with
  | no => rw [ho] at h; exact h
  | exc c fs => rw [ho] at h; exact h
  | ok r =>
    rw [ho] at h
    intro v F' H' l q
    obtain ⟨a, dx, fs, e1, e2, e3, F1, H1, F2, es1, st1, h2⟩ := h v F' H' l q
    exact ⟨a, dx, fs, e1, e2, e3, h2 [] F2 H' (Le.refl st1.ok) rfl⟩
/-- nothing raised -/
theorem pas0 {E : L2.St → XK} (σ : L2.St) : PassesAt CX0 X σ (E σ) := fun _ _ _ _ _ _ h => h.elim
end
end Fw
namespace Fw
open PySem PySem.Spec PyProof.Rows L2
/-! ### an object in the making -/
mutual
def noIns : D → Bool
  | .lst xs => noInsL xs
  | .tup xs => noInsL xs
  | .ins _ _ _ => false
  | .slf _ _ _ _ => false
  | .exn _ ns _ => ns.isEmpty
  | .dct _ _ => false
  | _ => true
def noInsL : List D → Bool
  | [] => true
  | d :: ds => noIns d && noInsL ds
end
def noInsS : Sl → Bool
  | .val d => noIns d
  | .own xs => noInsL xs
  | .own2 xss => xss.all noInsL
  | .odc _ _ => false
  | _ => true
section
variable {K : PySem.W.Frag}
theorem Rd.swap {F F' : Hp} {x a : Addr} {o u : HO} (hx : F x = some o) (he : ∀ b, b ≠ x → F' b = F b) (n1 : o ≠ u) (n2 : ∀ ob, o ≠ .frz ob u) (h : Rd F a u) : Rd F' a u := by
  rcases h with h | ⟨ob, h⟩
  · have : a ≠ x := fun z => by rw [z, hx] at h; exact n1 (Option.some.inj h)
    exact .inl (by rw [he a this]; exact h)
  · have : a ≠ x := fun z => by rw [z, hx] at h; exact n2 ob (Option.some.inj h)
    exact .inr ⟨ob, by rw [he a this]; exact h⟩
mutual
theorem Rp.swap {F F' : Hp} {x c dx : Addr} {fs : List (Str × V)} (hx : F x = some (.ins c dx fs)) (he : ∀ b, b ≠ x → F' b = F b) : ∀ (d : D) {v : V}, noIns d = true → Rp K F d v → Rp K F' d v
  | .non, v, _, h => by simpa [Rp] using h
  | .bl b, v, _, h => by simpa [Rp] using h
  | .int i, v, _, h => by simpa [Rp] using h
  | .str s, v, _, h => by simpa [Rp] using h
  | .ty n, v, _, h => by simpa [Rp] using h
  | .cls c, v, _, h => by simpa [Rp] using h
  | .lst xs, v, n, h => by
    rw [Rp] at h ⊢
    obtain ⟨a, vs, h1, h2, h3⟩ := h
    simp only [noIns] at n
    refine ⟨a, vs, h1, ?_, RpL.swap hx he xs n h3⟩
    rcases h2 with h2 | h2
    · exact .inl (Rd.swap hx he (fun z => by cases z) (fun _ z => by cases z) h2)
    · exact .inr h2
  | .tup xs, v, n, h => by
    rw [Rp] at h ⊢
    obtain ⟨a, vs, h1, h2, h3⟩ := h
    simp only [noIns] at n
    refine ⟨a, vs, h1, ?_, RpL.swap hx he xs n h3⟩
    rcases h2 with h2 | h2
    · exact .inl (Rd.swap hx he (fun z => by cases z) (fun _ z => by cases z) h2)
    · exact .inr h2
  | .exn c ns ds, v, n, h => by
    rw [Rp] at h ⊢
    obtain ⟨a, d, h1, h2, h3⟩ := h
    have ne : a ≠ x := fun z => by rw [z, hx] at h2; cases h2
    refine ⟨a, d, h1, by rw [he a ne]; exact h2, ?_⟩
    rcases h3 with h3 | ⟨dd, vs, h0, _⟩
    · exact .inl h3
    · simp only [noIns, List.isEmpty_iff] at n
      exact absurd n h0
  | .emp, v, _, h => by
    rw [Rp] at h ⊢
    obtain ⟨a, h1, h2⟩ := h
    have ne : a ≠ x := fun z => by rw [z, hx] at h2; cases h2
    exact ⟨a, h1, by rw [he a ne]; exact h2⟩
  | .ins _ _ _, v, n, _ => by simp [noIns] at n
  | .dct _ _, v, n, _ => by simp [noIns] at n
  | .slf _ _ _ _, v, n, _ => by simp [noIns] at n
theorem RpL.swap {F F' : Hp} {x c dx : Addr} {fs : List (Str × V)} (hx : F x = some (.ins c dx fs)) (he : ∀ b, b ≠ x → F' b = F b) : ∀ (ds : List D) {vs : List V}, noInsL ds = true → RpL K F ds vs → RpL K F' ds vs
  | [], vs, _, h => by simpa [RpL] using h
  | d :: ds, vs, n, h => by
    rw [RpL] at h ⊢
    rw [noInsL, Bool.and_eq_true] at n
    obtain ⟨v, r, h1, h2, h3⟩ := h
    exact ⟨v, r, h1, Rp.swap hx he d n.1 h2, RpL.swap hx he ds n.2 h3⟩
end
theorem putF_end (f : Str) (y : V) : ∀ (ns : List Str) (vs : List V), ns.length = vs.length → f ∉ ns → putF f y (ns.zip vs) = (ns ++ [f]).zip (vs ++ [y])
  | [], [], _, _ => rfl
  | n :: ns, v :: vs, h, hn => by
    have hne : n ≠ f := fun z => hn (by simp [z])
    have ih := putF_end f y ns vs (by simpa using h) (fun z => hn (by simp [z]))
    simp only [List.zip_cons_cons, List.cons_append, putF, if_neg hne, ih]
end
/-! statements of an __init__: the object at x grows -/
section
variable (K : PySem.W.Frag) (T : Tb) (W : WX) (F0 H0 : Hp)
def OutB (D : Ends) : Out → Prop
  | .nx es => ∀ σ F H, StOk K T F0 H0 F H σ es → D.nx σ H
  | .exc es c fs => ∀ cls d σ F H, StOk K T F0 H0 F H σ es → XOk K F c fs cls d → W cls d σ H
  | _ => False
def tB (x : Addr) (g : Env → Out) : TS := fun D σ H => H0 x = none ∧ x ∉ T ∧ ∃ F es, StOk K T F0 H0 F H σ es ∧ OutB K T W F0 H0 D (g es)
end
def DB (X : Cx) (T : Tb) (W : WX) (x : Addr) (st : Stmt) (g : Env → Out) : Prop := ∀ F0 H0, PS X st (tB X.K T W F0 H0 x g)
def DBs (X : Cx) (T : Tb) (W : WX) (x : Addr) (st : List Stmt) (g : Env → Out) : Prop := ∀ F0 H0, PSs X st (tB X.K T W F0 H0 x g)
def gFld (x c : Addr) (f : Str) (fv : Env → O R) : Env → Out := fun es => (fv es).out es fun r => match (es[0]? : Option Sl), r.fz.sto with
  | some (Sl.val (D.slf a c' ns ds)), some d => if a = x ∧ c' = c ∧ f ∉ ns ∧ ns.length < 900 ∧ noIns d = true ∧ noInsL ds = true ∧ es.tail.all noInsS = true then .nx (es.set 0 (.val (.slf a c' (ns ++ [f]) (ds ++ [d])))) else .no
  | _, _ => .no
section
variable {X : Cx} {T : Tb} {W : WX} {x : Addr} {st : Stmt} {rest : List Stmt} {g h : Env → Out}
theorem db_of (hd : DS X T W st g) (hg : ∀ es r, g es ≠ .rt r) : DB X T W x st g := fun F0 H0 => ps_weak (hd F0 H0) fun D σ H ⟨_, _, F, es, st, q⟩ => by
  refine ⟨F, es, st, ?_⟩
  cases ho : g es with
  | nx e2 => rw [ho] at q; exact fun σ F H _ s => q σ F H s
  | exc e2 c fs => rw [ho] at q; exact fun cls d σ F H _ s => q cls d σ F H s
  | rt r => exact absurd ho (hg es r)
  | br e2 => rw [ho] at q; exact q.elim
  | ct e2 => rw [ho] at q; exact q.elim
  | no => rw [ho] at q; exact q.elim
theorem dbs_nil : DBs X T W x [] gNext := fun F0 H0 => pss_weak pss_nil fun D σ H ⟨_, _, F, es, st, q⟩ => q σ F H st
theorem dbs_cons (h1 : DB X T W x st g) (h2 : DBs X T W x rest h) : DBs X T W x (st :: rest) (gSeq g h) := fun F0 H0 => pss_weak (pss_cons (h1 F0 H0) (h2 F0 H0)) fun D σ H ⟨a, b, F, es, st, q⟩ => by
  refine ⟨a, b, F, es, st, ?_⟩
  unfold gSeq at q
  cases ho : g es with
  | nx e2 => rw [ho] at q; exact fun σ F H s => ⟨a, b, F, e2, s, q⟩
  | exc e2 c fs => rw [ho] at q; exact q
  | rt r => rw [ho] at q; exact q.elim
  | br e2 => rw [ho] at q; exact q.elim
  | ct e2 => rw [ho] at q; exact q.elim
  | no => rw [ho] at q; exact q.elim
theorem dbs_one (h1 : DB X T W x st g) : DBs X T W x [st] g := fun F0 H0 => pss_one (h1 F0 H0)
/-- the object grows -/
theorem StOk.fld {K : PySem.W.Frag} {F0 H0 F H : Hp} {σ : L2.St} {es : Env} {c dx : Addr} {ns : List Str} {ds : List D} {vs : List V} {d : D} {y : V} {f : Str} (st : StOk K T F0 H0 F H σ es) (h0 : H0 x = none) (hT : x ∉ T) (hPl : T.plain) (he : es[0]? = some (.val (.slf x c ns ds)))
    (hx : F x = some (.ins c dx (ns.zip vs))) (hl : ns.length = ds.length) (r : RpL K F ds vs) (rd : Rp K F d y) (hf : f ∉ ns) (n1 : noIns d = true) (n2 : noInsL ds = true) (n3 : es.tail.all noInsS = true) :
    StOk K T F0 H0 (upd F x (.ins c dx (putF f y (ns.zip vs)))) (upd H x (.ins c dx (putF f y (ns.zip vs)))) σ (es.set 0 (.val (.slf x c (ns ++ [f]) (ds ++ [d])))) := by
  have f0 : F0 x = none := st.ok0.nf h0
  have at_ : ∀ b, b ≠ x → upd F x (.ins c dx (putF f y (ns.zip vs))) b = F b := fun b hb => upd_ne hb
  have pz : putF f y (ns.zip vs) = (ns ++ [f]).zip (vs ++ [y]) := putF_end f y ns vs (hl.trans r.len) hf
  have hlen : σ.length = es.length := st.env.len
  have low : ∀ j s, es[j + 1]? = some s → noInsS s = true := fun j s hs => by
    refine List.all_eq_true.mp n3 s (List.mem_iff_getElem?.mpr ⟨j, ?_⟩)
    rw [List.getElem?_tail]; exact hs
  have nod : ∀ {j : Nat} {ks : List DK} {fs : List D}, (es.set 0 (.val (.slf x c (ns ++ [f]) (ds ++ [d]))))[j]? = some (.odc ks fs) → False := fun {j ks fs} h => by
    rcases get_set h with ⟨e, e2⟩ | ⟨e, e2⟩
    · cases e2
    · cases j with
      | zero => exact e rfl
      | succ j =>
        have := low j _ e2
        cases this
  refine ⟨st.ok0, ⟨fun b o e => ?_, fun b o hb e => ?_, fun b e n => ?_, ⟨fun b o e => ?_, fun P hP => ?_, fun P hP => ?_⟩⟩, ⟨by simp [hlen], fun j e hj => ?_, fun j e hj => ?_, fun j xs hj => ?_, fun i j xs ys p h1 h2 h3 h4 => ?_, fun j xss hj => ?_, ⟨fun j ks es' hj => (nod hj).elim, fun i j ks es' ls fs p h1 h2 h3 h4 => (nod h1).elim⟩⟩⟩
  · rw [at_ b (fun z => by rw [z, f0] at e; cases e)]; exact st.le.f b o e
  · rw [upd_ne (fun z => by rw [z, h0] at e; cases e)]; exact st.le.h b o hb e
  · rw [at_ b (fun z => n (by rw [z]; exact h0))]; exact st.le.n b e n
  · by_cases hb : b = x
    · subst hb
      rw [upd_same] at e ⊢
      exact e
    · rw [upd_ne hb] at e ⊢
      exact st.ok.sub b o e
  · have ne : P ≠ x := fun z => hT (z ▸ hP)
    obtain ⟨ps, q1, q2⟩ := (st.ok.tab P hP).tab hPl
    exact .inl ⟨⟨ps, by rw [upd_ne ne]; exact q1, q2⟩, hPl P⟩
  · have ne : P ≠ x := fun z => hT (z ▸ hP)
    rw [at_ P ne]; exact st.ok.ntab P hP
  · cases j with
    | zero =>
      have hlt : 0 < es.length := (List.getElem?_eq_some_iff.mp he).1
      have ej : e = .slf x c (ns ++ [f]) (ds ++ [d]) := by
        rw [List.getElem?_set_self hlt] at hj
        cases hj; rfl
      subst ej
      obtain ⟨v, s1, s2⟩ := st.env.val 0 _ he
      rw [Rp] at s2
      refine ⟨v, s1, ?_⟩
      rw [Rp]
      exact ⟨s2.1, dx, vs ++ [y], by rw [upd_same, pz], by simp [hl], (r.swap hx at_ ds n2).app (RpL.cons (Rp.swap hx at_ d n1 rd) RpL.nil)⟩
    | succ j =>
      rw [List.getElem?_set_ne (by omega)] at hj
      obtain ⟨v, s1, s2⟩ := st.env.val (j + 1) e hj
      exact ⟨v, s1, Rp.swap hx at_ e (low j _ hj) s2⟩
  · cases j with
    | zero =>
      have hlt : 0 < es.length := (List.getElem?_eq_some_iff.mp he).1
      rw [List.getElem?_set_self hlt] at hj
      cases hj
    | succ j =>
      rw [List.getElem?_set_ne (by omega)] at hj
      exact st.env.brw (j + 1) e hj
  · cases j with
    | zero =>
      have hlt : 0 < es.length := (List.getElem?_eq_some_iff.mp he).1
      rw [List.getElem?_set_self hlt] at hj
      cases hj
    | succ j =>
      rw [List.getElem?_set_ne (by omega)] at hj
      obtain ⟨p, vs', q1, q2, q3, q4, q5, q6⟩ := st.env.own (j + 1) xs hj
      have ne : p ≠ x := fun z => by rw [z, hx] at q3; cases q3
      exact ⟨p, vs', q1, q2, by rw [at_ p ne]; exact q3, q4, by rw [upd_ne ne]; exact q5, RpL.swap hx at_ xs (low j _ hj) q6⟩
  · have z : ∀ {i : Nat} {xs : List D}, (es.set 0 (.val (.slf x c (ns ++ [f]) (ds ++ [d]))))[i]? = some (.own xs) → es[i]? = some (.own xs) := fun {i xs} h => by
      rcases get_set h with ⟨e, e2⟩ | ⟨e, e2⟩
      · cases e2
      · exact e2
    exact st.env.uni i j xs ys p (z h1) (z h2) h3 h4
  · rcases get_set hj with ⟨e, e2⟩ | ⟨e, e2⟩
    · cases e2
    · obtain ⟨p, ps, g1, ⟨k1, k2, k3, k4, k5, k6, k7, k8⟩, g3, g4⟩ := st.env.two j xss e2
      have ne : ∀ {q : Addr}, F q = none → q ≠ x := fun {q} h z => by rw [z, hx] at h; cases h
      have lo : xss.all noInsL = true := by
        cases j with
        | zero => exact absurd rfl e
        | succ j => exact low j _ e2
      refine ⟨p, ps, g1, ⟨k1, by rw [at_ p (ne k2)]; exact k2, k3, by rw [upd_ne (ne k2)]; exact k4, k5, k6, k7, fun m q hm => ?_⟩, fun m zs q hm hq => ?_, fun m zss hm => ?_⟩
      · obtain ⟨f1, f2, f3, us, zs, f4, f5, f6⟩ := k8 m q hm
        exact ⟨f1, by rw [at_ q (ne f2)]; exact f2, f3, us, zs, f4, by rw [upd_ne (ne f2)]; exact f5, RpL.swap hx at_ zs (List.all_eq_true.mp lo zs (List.mem_iff_getElem?.mpr ⟨m, f4⟩)) f6⟩
      · rcases get_set hm with ⟨f, f2⟩ | ⟨_, f2⟩
        · cases f2
        · exact g3 m zs q f2 hq
      · rcases get_set hm with ⟨f, f2⟩ | ⟨_, f2⟩
        · cases f2
        · exact g4 m zss f2
end
end Fw
namespace Fw
open PySem PySem.Spec PyProof.Rows L2
section
variable {X : Cx} {T : Tb} {W : WX} {x c : Addr} {st : Stmt} {rest : List Stmt} {g h : Env → Out} {f n0 : Str} {value : Expr} {fv : Env → O R} {pos pos' p : Pos}
theorem db_fld (hPl : T.plain) (hv : DE X T W value fv) (hc : Cls X.K c) (hn : NoAttr X.K c f) (h0 : DE X T W (.Name n0 p) (fVar 0)) (hs : swapsWith value (some (.Attribute (.Name n0 p) f pos')) pos.line X.env = pure false := by rfl) :
    DB X T W x (.Assign [.Attribute (.Name n0 p) f pos'] value pos) (gFld x c f fv) := fun F0 H0 => ps_weak (ps_fld h0 hv hs) fun D σ H ⟨z0, zT, F, es, st, q⟩ => by
  refine ⟨F0, H0, F, es, st, ?_⟩
  unfold gFld at q
  cases ho : fv es with
  | no => rw [ho] at q; exact q.elim
  | exc c' fs => rw [ho] at q; exact fun cls d F1 H1 l xo => q cls d σ F1 H1 (st.step l) xo
  | ok r =>
    rw [ho] at q
    intro v F1 H1 l q1
    obtain ⟨F2, l2, s12, q2⟩ := q1.fz l
    have st2 := st.step l2
    simp only [O.out_ok] at q
    split at q
    · rename_i a c' ns ds d he hd
      split at q
      · rename_i hh
        obtain ⟨rfl, rfl, hf, hlen, n1, n2, n3⟩ := hh
        have rd : Rp X.K F2 d v := q2.sto hd
        have hvar : fVar 0 es = .ok (.val (.slf a c' ns ds)) := by unfold fVar; rw [he]
        refine ⟨F0, H0, F2, es, st2, ?_⟩
        rw [hvar]
        intro v3 F3 H3 l3 q3
        rw [Rr, Rp] at q3
        obtain ⟨rfl, dx, vs, g1, g2, g3⟩ := q3
        have st3 := st2.step l3
        have rd3 : Rp X.K F3 d v := rd.mono l3.f
        refine ⟨a, c', dx, _, rfl, st3.ok.sub _ _ g1, hc, hn, ?_, ?_⟩
        · have : (ns.zip vs).length ≤ ns.length := by rw [List.length_zip]; exact Nat.min_le_left _ _
          omega
        · exact q σ _ _ (StOk.fld st3 z0 zT hPl he g1 g2 g3 rd3 hf n1 n2 n3)
      · exact q.elim
    · exact q.elim
/-! ### the maker -/
def startI (x c : Addr) (n : Nat) (ds : List D) : Env := (startE n (.cls x :: ds)).set 0 (.val (.slf x c [] []))
def endI (x : Addr) (es : Env) : O R := match (es[0]? : Option Sl) with
  | some (Sl.val (D.slf a c' ns ds')) => if a = x then .ok (.val (.ins c' ns ds')) else .no
  | _ => .no
theorem endI_ok {es : Env} {r : R} (h : endI x es = .ok r) : ∃ c' ns ds', es[0]? = some (.val (.slf x c' ns ds')) ∧ r = .val (.ins c' ns ds') := by
  unfold endI at h
  split at h
  · rename_i a c' ns ds' he
    split at h
    · rename_i ha
      subst ha
      cases h
      exact ⟨c', ns, ds', he, rfl⟩
    · cases h
  · cases h
theorem endI_exc {es : Env} {c : Addr} {fs : Option (List Str × List D)} (h : endI x es = .exc c fs) : False := by
  unfold endI at h
  split at h
  · split at h <;> cases h
  · cases h
def runI (c : Addr) (n : Nat) (body : Addr → Env → Out) (x : Addr) (ds : List D) : O R := match body x (startI x c n ds) with
  | .nx es => endI x es
  | .exc _ c' fs => .exc c' fs
  | _ => .no
end
def spI (K : PySem.W.Frag) (T : Tb) (n : Nat) (c : Addr) (g : Addr → List D → O R) : Sp := fun vs H Q E => ∃ F ds H1 dx x args, vs = .ref x :: args ∧ vs.length = n ∧ H = upd (upd H1 dx (.own x)) x (.ins c dx []) ∧ H1 x = none ∧ H1 dx = none ∧ dx ≠ x ∧ Ok T F H1 ∧ RpL K H1 ds args ∧ match g x ds with
  | .ok (.val d) => ∀ F' H', Le T F H1 F' H' → Rp K F' d (.ref x) → Q .non H'
  | .exc c fs => ∀ cls d F' H', Le T F H1 F' H' → XOk K F' c fs cls d → E cls d H'
  | _ => False
section
variable {P : Program} {w : World} {K : PySem.W.Frag} {mg : Str → Option Value} {base : Heap} {T : Tb}
theorem fn_okI {x qual : Str} {st : Stmt} {f c : Addr} {fd : FuncData} {N ps : List Str} {k : Nat} {dvs : List V} (F : FunD K x qual (defArgs st) (defBody st) (defScope st) dvs [] f fd) (S : FnScope N ps (defScope st)) (body : Addr → Env → Out) (hps : 0 < ps.length)
    (h : ∀ (y : Addr) (cdv : Value) (A : Around) (outer : List PySem.Env) (s : Shared) (H : Hp) (E : XK), Room k (A.deeper (envOfC qual (defScope st) s.heap.objs.size f cdv)) → DBs (cxOf (L2.CX P w) P w K mg base N qual (defScope st) f cdv A outer s H E) T (fun cls d _ H => E cls d H) y (defBody st) (body y)) :
    FnOk P w K mg base (L2.CX P w) (k + 1) f fd ps (spI K T ps.length c (runI c N.length body)) := by
  refine F.ok (CX := L2.CX P w) S (fun vs H Q E h => by obtain ⟨_, _, _, _, _, _, _, hl, _⟩ := h; exact hl) (fun cdv A outer s H vs Q E hr hsp => ?_)
  obtain ⟨F, ds, H1, dx, x, args, rfl, hl, rfl, hx, hdx, hne, ok, r, q⟩ := hsp
  have st0 : StOk K T F H1 F H1 (L2.start N (.ref x :: args)) (startE N.length (.cls x :: ds)) := start_ok (N := N) ok (RpL.cons (by rw [Rp]) r)
  have l1 : Le T F H1 F (upd H1 dx (.own x)) := Le.newH ok hdx
  have hx1 : (upd H1 dx (.own x)) x = none := by rw [upd_ne (Ne.symm hne)]; exact hx
  have l2 := Le.new l1.ok (o := .ins c dx []) hx1
  have st1 := st0.step (l1.trans l2)
  have rp : Rp K (upd F x (.ins c dx [])) (.slf x c [] []) (.ref x) := by
    rw [Rp]; exact ⟨rfl, dx, [], upd_same, rfl, RpL.nil⟩
  have st2 := StOk.set (i := 0) (v := .ref x) (s := .val (.slf x c [] [])) st1 rp
  have e0 : (L2.start N (.ref x :: args)).set 0 (some (.ref x)) = L2.start N (.ref x :: args) := rfl
  rw [e0] at st2
  refine ⟨_, h x cdv A outer s _ E hr F H1, hx, ok.nt hx, _, _, st2, ?_⟩
  unfold runI at q
  cases hb : body x (startI x c N.length ds) with
  | no => rw [hb] at q; exact q.elim
  | rt r => rw [hb] at q; exact q.elim
  | br es => rw [hb] at q; exact q.elim
  | ct es => rw [hb] at q; exact q.elim
  | exc es c' fs =>
    rw [hb] at q
    have hb' : body x ((startE N.length (.cls x :: ds)).set 0 (.val (.slf x c [] []))) = .exc es c' fs := hb
    rw [hb']
    exact fun cls d σ F' H' s xo => q cls d F' H' s.le xo
  | nx es =>
    rw [hb] at q
    have hb' : body x ((startE N.length (.cls x :: ds)).set 0 (.val (.slf x c [] []))) = .nx es := hb
    rw [hb']
    intro σ F' H' s
    simp only at q
    cases hE : endI x es with
    | no => rw [hE] at q; exact q.elim
    | exc c fs => exact (endI_exc hE).elim
    | ok r =>
      rw [hE] at q
      obtain ⟨c', ns, ds', he, rfl⟩ := endI_ok hE
      obtain ⟨v, s1, s2⟩ := s.env.val 0 _ he
      rw [Rp] at s2
      obtain ⟨rfl, dx', vs, g1, g2, g3⟩ := s2
      exact q F' H' s.le (by rw [Rp]; exact ⟨x, dx', vs, rfl, g1, g2, g3⟩)
end
/-! a call of the class -/
def fMake (mk : List D → O R) (dv : List D) (fr : Env → O (List R)) : Env → O R := fun es => (fr es).bind fun rs => match mk (rs.map R.dat ++ dv) with
  | .ok (.val d) => .ok (.val d)
  | .exc c fs => .exc c fs
  | _ => .no
def tMakeE (C : Addr) (sp : Sp) (dvs : List V) (E : L2.St → XK) (t : TA) : TE := fun σ H Q => t σ H fun vs H1 => ∀ x dx, H1 x = none → H1 dx = none → dx ≠ x → sp (.ref x :: (vs ++ dvs)) (upd (upd H1 dx (.own x)) x (.ins C dx [])) (fun v H2 => v = .non ∧ Q (.ref x) H2) (E σ)
section
variable {X : Cx} {CX : CXT} {k : Nat} {f C : Addr} {fd : FuncData} {ps : List Str} {sp : Sp} {E : L2.St → XK} {x : Str} {p pos : Pos} {e : Expr} {es : List Expr} {t : TA} {dvs : List V} {ds : List Value}
theorem pe_makeE (M : Mk X.K C f) (F : FnOk X.prog X.w X.K X.mg X.base CX k f fd ps sp) (hr : Room (k + 1) X.A) (hm : X.mg x = some (.ref C)) (hb : Binds X.K fd ps ds) (hd : Vals dvs ds) (hx : ∀ σ, PassesAt CX X σ (E σ)) (ha : PA X (e :: es) t) (hg : Gl X x := by rfl)
    (hdb : (x == ("__debug__" : Str)) = false := by decide) (he : starEach (e :: es) X.env = (false, eval e X.env) :: starEach es X.env := by rfl) (hpl : (backTo pos (starEach es X.env)).any (·.1) = false := by rfl) : PE X (.Call (.Name x p) (e :: es) [] pos) (tMakeE C sp dvs E t) := by
  refine ⟨fun pins s σ H Q I h => wpAny_Call_Name_kw (ld_glob I hg hm (PySem.W.callWith_K (h₀ := X.base) I.ok.mod.kin M.kp (thn (ha.run pos pins s σ H _ I h) fun us s1 ⟨vs, H1, I1, r, q⟩ => ⟨I1.kIn, ?_⟩) he hpl) hdb)⟩
  have q0 := q (s1.heap.objs.size + 1) s1.heap.objs.size (I1.hok.fresh (Nat.le_succ _)) (I1.hok.fresh (Nat.le_refl _)) (Nat.ne_of_lt (Nat.lt_succ_self _))
  have I2 := Inv.made (C := C) I1
  have r2 : Vals (V.ref (s1.heap.objs.size + 1) :: (vs ++ dvs)) (Value.ref (s1.heap.objs.size + 1) :: (us ++ ds)) := .cons rfl (r.append hd)
  have hl : (Value.ref (s1.heap.objs.size + 1) :: us ++ ds).length = ps.length := by
    have z := r2.length
    rw [F.len _ _ _ _ q0] at z
    exact z.symm
  refine wpAny_call (make_map (f := f) I1.kIn M.makes M.init (beq_iff_eq.mp M.fn) (codeAny_mono (F.run _ X.stack _ _ ⟨Value.ref (s1.heap.objs.size + 1) :: us, []⟩ (Value.ref (s1.heap.objs.size + 1) :: (us ++ ds)) _ _ (E σ) (hr.make C us [])
    (I2.env0.make C us []) (hb _ (Value.ref (s1.heap.objs.size + 1) :: us) I2.kIn hl) r2 q0) fun r s' h2 => ?_))
  cases r with
  | error er => exact hx σ pins _ _ er s' I2 h2
  | ok fl =>
    cases fl with
    | ret u =>
      obtain ⟨v, H', I3, rv, ev, q3⟩ := I2.after h2
      subst ev
      exact ⟨rv, ⟨V.ref (s1.heap.objs.size + 1), H', I3, rfl, q3⟩⟩
    | next => exact False.elim h2
    | brk => exact False.elim h2
    | cont => exact False.elim h2
end
section
variable {X : Cx} {T : Tb} {W : WX} {k n : Nat} {f C : Addr} {fd : FuncData} {ps : List Str} {x : Str} {p pos : Pos} {e : Expr} {es : List Expr} {fr : Env → O (List R)} {dv : List D} {dvs : List V} {vds : List Value} {g : Addr → List D → O R} {mk : List D → O R}
theorem de_make (M : Mk X.K C f) (F : FnOk X.prog X.w X.K X.mg X.base (L2.CX X.prog X.w) k f fd ps (spI X.K T n C g)) (hmk : ∀ ds, mk ds ≠ .no → ∀ y, g y ds = mk ds) (tk : Takes X W) (hr : Room (k + 1) X.A) (hm : X.mg x = some (.ref C)) (hb : Binds X.K fd ps vds) (hd : Vals dvs vds) (hdv : ∀ H, RpL X.K H dv dvs)
    (ha : DA X T W (e :: es) fr) (hn : ∀ es rs, fr es = .ok rs → rs.length + dv.length + 1 = n) (hg : Gl X x := by rfl)
    (hdb : (x == ("__debug__" : Str)) = false := by decide) (he : starEach (e :: es) X.env = (false, eval e X.env) :: starEach es X.env := by rfl) (hpl : (backTo pos (starEach es X.env)).any (·.1) = false := by rfl) : DE X T W (.Call (.Name x p) (e :: es) [] pos) (fMake mk dv fr) :=
  pe_weak (pe_makeE M F hr hm hb hd (E := WE W) (fun σ => passAt tk σ) ha hg hdb he hpl) fun σ H Q ⟨F0, H0, F, es, st, h⟩ => by
    refine ⟨F0, H0, F, es, st, pa_seq st h fun rs vs F1 H1 hrs st1 l1 q1 h1 => fun y dy hy hdy hne => ?_⟩
    have ra := (q1.toH st1.ok st1.up).app (hdv H1)
    have len : vs.length = rs.length := q1.len.symm
    have nn : mk (rs.map R.dat ++ dv) ≠ .no := fun z => by rw [z] at h1; exact h1.elim
    have lv : dvs.length = dv.length := (hdv H1).len.symm
    refine ⟨F1, rs.map R.dat ++ dv, H1, dy, y, vs ++ dvs, rfl, ?_, rfl, hy, hdy, hne, st1.ok, ra, ?_⟩
    · rw [List.length_cons, List.length_append, len, lv]
      exact hn es rs hrs
    · rw [hmk _ nn y]
      cases hg : mk (rs.map R.dat ++ dv) with
      | no => exact absurd hg nn
      | exc c fs => rw [hg] at h1; exact fun cls d F' H' l xo => h1 cls d F' H' l xo
      | ok r =>
        rw [hg] at h1
        cases r with
        | val d => exact fun F' H' l rp => ⟨rfl, h1 (.ref y) F' H' l rp⟩
        | _ => exact h1.elim
end
end Fw
namespace Fw
open PySem PySem.Spec PyProof.Rows L2
section
variable {X : Cx} {T : Tb} {W : WX} {a b c e : Expr} {es : List Expr} {fa fb fc : Env → O R} {pos p p2 q : Pos}
/-! ### a < b < c -/
def fChain (d1 d2 : R → R → Option R) (fa fb fc : Env → O R) : Env → O R := fun es => (fa es).bind fun x => (fb es).bind fun y => match d1 x.fz y.fz with
  | some (.val (.bl true)) => (fc es).bind fun z => O.of (d2 y.fz z.fz)
  | some (.val (.bl false)) => .ok (.val (.bl false))
  | _ => .no
theorem chain_weak {K : PySem.W.Frag} {r1 r2 : R2} {d1 d2 : R → R → Option R} (h1 : OpD K T r1 d1) (h2 : OpD K T r2 d2) {σ : L2.St} {H : Hp} {Q : VK} (h : tD K T W (fChain d1 d2 fa fb fc) σ H Q) : tChain r1 r2 (tD K T W fa) (tD K T W fb) (tD K T W fc) σ H Q := by
  obtain ⟨F0, H0, F, es, st, h⟩ := h
  refine ⟨F0, H0, F, es, st, pr_seq st h fun x vx F1 H1 _ st1 l1 q1 g1 => ?_⟩
  refine ⟨F0, H0, F1, es, st1, pr_seq st1 g1 fun y vy F2 H2 _ st2 l2 q2 g2 => ?_⟩
  cases hd : d1 x.fz y.fz with
  | none => rw [hd] at g2; exact g2.elim
  | some r =>
    rw [hd] at g2
    refine h1 H0 F2 H2 vx vy _ _ r _ st2.ok st2.up (q1.step l2) q2 hd fun v F3 H3 l3 q3 => ?_
    split at g2
    · rename_i e1
      cases e1
      rw [Rr, Rp] at q3
      refine ⟨true, q3, ?_⟩
      rw [if_pos rfl]
      have st3 := st2.step l3
      refine ⟨F0, H0, F3, es, st3, pr_seq st3 (PO.step g2 l3 fun _ _ _ _ => Rr.back l3) fun z vz F4 H4 _ st4 l4 q4 g4 => ?_⟩
      cases hd2 : d2 y.fz z.fz with
      | none => rw [hd2] at g4; exact g4.elim
      | some r' =>
        rw [hd2] at g4
        exact h2 H0 F4 H4 vy vz _ _ r' Q st4.ok st4.up ((q2.step l3).step l4) q4 hd2 g4
    · rename_i e1
      cases e1
      rw [Rr, Rp] at q3
      refine ⟨false, q3, ?_⟩
      rw [if_neg Bool.false_ne_true]
      exact g2 (.bl false) F3 H3 l3 (by rw [Rr, Rp])
    · exact g2.elim
theorem de_chain {op op' : CmpOp} {r r' : R2} {d1 d2 : R → R → Option R} (ho : OpR X (compareOp op) r) (h1 : OpD X.K T r d1) (ho' : OpR X (compareOp op') r') (h2 : OpD X.K T r' d2) (ha : DE X T W a fa) (hb : DE X T W b fb) (hc : DE X T W c fc)
    (hm : lastMarks [op, op'] [b, c] = false := by with_unfolding_all rfl) : DE X T W (.Compare a [op, op'] [b, c] pos) (fChain d1 d2 fa fb fc) := pe_weak (pe_chain ho ho' ha hb hc hm) fun σ H Q h => chain_weak h1 h2 h
/-! ### len(set(..)) of numbers -/
def difN (ns : List Int) : Nat := (PyProof.Rows.firstMet (fun i => ns.getD i 0) ns.length).length
theorem pe_lenSetG {ta : TE} (hg : Gl X "len") (hm : X.mg "len" = none) (hg2 : Gl X "set") (hm2 : X.mg "set" = none) (ha : PE X a ta) (hc : X.calm = true) (na : starEach [a] X.env = (false, eval a X.env) :: starEach [] X.env) :
    PE X (.Call (.Name "len" p) [.Call (.Name "set" p2) [a] [] q] [] pos) (fun σ H Q => ta σ H fun x H1 => ∃ (l : Addr) (ns : List Int), x = .ref l ∧ SqL X.K H1 l (ns.map V.int) ∧ ns.length ≤ 4000 ∧ Q (.int (difN ns : Nat)) H1) := by
  refine ⟨fun pins s σ H Q I h => ?_⟩
  refine Call_ (ld_blt I hg hm boot_len (PyProof.Rows.callWith_builtin1 (PyProof.Rows.args_cons ?_ rfl) rfl rfl))
  refine Call_ (ld_blt I hg2 hm2 boot_set (PyProof.Rows.callWith_type1 (PyProof.Rows.args_cons (thn (ha.run pins s σ H _ I h) fun v s1 ⟨x, H1, I1, r1, q1⟩ => PyProof.Rows.args_nil ?_) na) na rfl))
  obtain ⟨l, ns, rfl, hq, hl, q1⟩ := q1
  cases r1
  obtain ⟨its, r, pl, hz⟩ := I1.list hq
  have zl : its.toArray.size = ns.length := by rw [List.size_toArray, ← r.length, List.length_map]
  refine call_set_list (I1.ok.hd hc) pl.isList (by simpa using RZ.intsAre_vals r) (by rw [zl]; unfold scanBound; omega) fun h' tk hS hk => PyProof.Rows.args_nil ?_
  rw [zl] at hS
  obtain ⟨o, es, ep, t, ho, hex, hd, _, _, _, hf, hn⟩ := hS
  have le := PyProof.Rows.firstMet_length_le (fun i => ns.getD i 0) ns.length
  have I2 : Inv X pins σ H1 { s1 with heap := h', toks := tk } := I1.kept fun b o e => hk b o (Heap.lt_size e) e
  exact call_len_set ho hex hd hf (by rw [hn] <;> omega) ⟨.int (difN ns : Nat), H1, I2.tok _, ⟨_, by rw [hn] <;> rfl⟩, q1⟩
def lenSetR (r : R) : Option R := match r.itmL with
  | some xs => match intsOf xs with
    | some ns => if ns.length ≤ 4000 then some (.val (.int (difN ns : Nat))) else none
    | none => none
  | none => none
def fLenSet (fa : Env → O R) : Env → O R := fun es => (fa es).bind fun r => O.of (lenSetR r.fz)
theorem de_lenSet (hm : X.mg "len" = none) (hm2 : X.mg "set" = none) (ha : DE X T W a fa) (hg : Gl X "len" := by rfl) (hg2 : Gl X "set" := by rfl) (hc : X.calm = true := by rfl) (na : starEach [a] X.env = (false, eval a X.env) :: starEach [] X.env := by rfl) :
    DE X T W (.Call (.Name "len" p) [.Call (.Name "set" p2) [a] [] q] [] pos) (fLenSet fa) := pe_weak (pe_lenSetG hg hm hg2 hm2 ha hc na) fun σ H Q ⟨F0, H0, F, es, st, h⟩ => by
  refine ⟨F0, H0, F, es, st, pr_seq st h fun r v F1 H1 _ st1 l1 q1 h1 => ?_⟩
  unfold lenSetR at h1
  cases hi : r.fz.itmL with
  | none => rw [hi] at h1; exact h1.elim
  | some xs =>
    rw [hi] at h1
    simp only at h1
    cases hn : intsOf xs with
    | none => rw [hn] at h1; exact h1.elim
    | some ns =>
      rw [hn] at h1
      simp only at h1
      split at h1
      · rename_i hl
        obtain ⟨l, vs, rfl, s1, r1⟩ := q1.itmL st1.ok st1.up hi
        have ev := ints_rp r1 hn
        subst ev
        exact ⟨l, ns, rfl, s1, hl, h1 _ F1 H1 (Le.refl st1.ok) (by rw [Rr, Rp])⟩
      · exact h1.elim
/-! ### tuple(..), {}, ** -/
def dTupOf : List R → Option R
  | [r] => r.itmL.map fun xs => .val (.tup xs)
  | _ => none
theorem cd_tupOf {K : PySem.W.Frag} : CallD K T (fun xs H Q => ∃ p ys, xs = [.ref p] ∧ ((SqL K H p ys ∧ ∀ l, H l = none → Q (.ref l) (upd H l (.tup ys))) ∨ (SqT K H p ys ∧ Q (.ref p) H))) dTupOf := fun H0 F H vs rs c Q ok up q h k => by
  unfold dTupOf at h
  split at h
  · rename_i r
    cases hi : r.itmL with
    | none => rw [hi] at h; cases h
    | some xs =>
      rw [hi] at h
      cases h
      obtain ⟨v, rfl, q1⟩ := rql1 q
      obtain ⟨p, us, rfl, s1, r1⟩ := q1.itmL ok up hi
      exact ⟨p, us, rfl, Or.inl ⟨s1, fun l hl => k _ _ _ (Le.new ok hl) (rp_tup (ok.nf hl) r1)⟩⟩
  · cases h
theorem de_dict0 : DE X T W (.Dict [] [] pos) (fC .emp) := pe_weak pe_dnewK fun σ H Q ⟨F0, H0, F, es, st, q⟩ => fun p hp => q (.ref p) _ _ (Le.new st.ok hp) (by
  rw [Rr, Rp]; exact ⟨p, rfl, upd_same⟩)
def dPow := i2 shlC fun i j => .int (i ^ j.toNat)
theorem od_pow {K : PySem.W.Frag} : OpD K T (rI CPow fun i j => .int (i ^ j.toNat)) dPow := opd_I (fun i j h => by first | exact of_decide_eq_true h | (simpa [shlC, CPow] using h)) fun _ _ _ => by rw [Rp]
end
end Fw
namespace Fw
open PySem PySem.Spec PyProof.Rows L2
/-- nothing is handed back -/
def NoRt (g : Env → Out) : Prop := ∀ es r, g es ≠ .rt r
section
variable {g h : Env → Out} {c : Env → O Bool} {f : Env → O R} {i : Nat} {fz : Bool} {t : Tg}
theorem nrt_next : NoRt gNext := fun _ _ z => by cases z
theorem nrt_raise {a : Addr} : NoRt (gRaise a) := fun _ _ z => by cases z
theorem nrt_seq (h1 : NoRt g) (h2 : NoRt h) : NoRt (gSeq g h) := fun es r z => by
  unfold gSeq at z
  cases hg : g es with
  | nx e2 => rw [hg] at z; exact h2 e2 r z
  | rt r => exact h1 es r hg
  | _ => rw [hg] at z; cases z
theorem nrt_if (h1 : NoRt g) (h2 : NoRt h) : NoRt (gIf c g h) := fun es r z => by
  unfold gIf at z
  cases hc : c es with
  | ok b =>
    rw [hc] at z
    cases b with
    | true => exact h1 es r z
    | false => exact h2 es r z
  | exc a fs => rw [hc] at z; cases z
  | no => rw [hc] at z; cases z
theorem nrt_set : NoRt (gSet i fz f) := fun es r z => by
  unfold gSet at z
  cases hc : f es with
  | ok b =>
    rw [hc] at z
    simp only [O.out_ok] at z
    split at z <;> cases z
  | exc a fs => rw [hc] at z; cases z
  | no => rw [hc] at z; cases z
theorem nrt_expr : NoRt (gExpr f) := fun es r z => by
  unfold gExpr at z
  cases hc : f es with
  | ok b => rw [hc] at z; cases z
  | exc a fs => rw [hc] at z; cases z
  | no => rw [hc] at z; cases z
end
def clsB : Stmt → List Stmt
  | .ClassDef (body := b) .. => b
  | _ => []
end Fw
namespace Fw
open PySem PySem.Spec PyProof.Rows L2
/-! ### a new list of new lists -/
def Rel2 (K : PySem.W.Frag) (T : Tb) (H F' H' : Hp) (vs : List V) (xss : List (List D)) : Prop := ∃ ps : List Addr, vs = ps.map V.ref ∧ ps.Nodup ∧ ps.length = xss.length ∧ ∀ (k : Nat) (q : Addr), ps[k]? = some q → H q = none ∧ F' q = none ∧ q ∉ T ∧ ∃ (us : List V) (xs : List D), xss[k]? = some xs ∧ H' q = some (.lst us) ∧ RpL K F' xs us
def tDA2 (K : PySem.W.Frag) (T : Tb) (W : WX) (f : Env → O (List (List D))) : TA := fun σ H Q => ∃ F0 H0 F es, StOk K T F0 H0 F H σ es ∧ PO K T W F H σ (Rel2 K T H) Q (f es)
def DA2 (X : Cx) (T : Tb) (W : WX) (es : List Expr) (f : Env → O (List (List D))) : Prop := PA X es (tDA2 X.K T W f)
def fNil2 : Env → O (List (List D)) := fun _ => .ok []
def fCons2 (fa : Env → O R) (fr : Env → O (List (List D))) : Env → O (List (List D)) := fun es => (fa es).bind fun r => match r with
  | .new xs => (fr es).bind fun xss => .ok (xs :: xss)
  | _ => .no
def has2 (es : Env) : Bool := es.any fun s => match s with
  | .own2 _ => true
  | _ => false
theorem has2_no {es : Env} (h : has2 es = false) {j : Nat} {xss : List (List D)} (e : es[j]? = some (.own2 xss)) : False := by
  have : has2 es = true := List.any_eq_true.mpr ⟨_, List.mem_iff_getElem?.mpr ⟨j, e⟩, rfl⟩
  rw [h] at this; cases this
section
variable {X : Cx} {T : Tb} {W : WX} {e b : Expr} {es : List Expr} {fa fb : Env → O R} {fr : Env → O (List (List D))} {x : Str} {p1 p2 p3 pos : Pos}
theorem da2_nil : DA2 X T W [] fNil2 := pa_weak pa_nil fun σ H Q ⟨F0, H0, F, es, st, h⟩ => h [] F H (Le.refl st.ok) ⟨[], rfl, List.nodup_nil, rfl, fun k q z => by cases z⟩
theorem da2_cons (ha : DE X T W e fa) (hr : DA2 X T W es fr) (hst : starEach (e :: es) X.env = (false, eval e X.env) :: starEach es X.env := by rfl) : DA2 X T W (e :: es) (fCons2 fa fr) :=
  pa_weak (pa_cons ha hr hst) fun σ H Q ⟨F0, H0, F, es, st, h⟩ => by
    refine ⟨F0, H0, F, es, st, ?_⟩
    unfold fCons2 at h
    cases ho : fa es with
    | no => rw [ho] at h; exact h
    | exc c fs => rw [ho] at h; exact h
    | ok r =>
      rw [ho] at h
      cases r with
      | new xs =>
        intro v F1 H1 l q
        obtain ⟨p, vs, rfl, g1, g2, g3, g4, g5⟩ := q
        have st1 := st.step l
        refine ⟨F0, H0, F1, es, st1, ?_⟩
        simp only [O.bind_ok] at h
        cases hf : fr es with
        | no => rw [hf] at h; exact h
        | exc c fs => rw [hf] at h; exact fun cls d F' H' l' xo => h cls d F' H' (l.trans l') xo
        | ok xss =>
          rw [hf] at h
          intro vs2 F2 H2 l2 ⟨ps, k1, k2, k3, k4⟩
          subst k1
          refine h _ F2 H2 (l.trans l2) ⟨p :: ps, rfl, ?_, by simp [k3], fun k q hk => ?_⟩
          · refine List.nodup_cons.mpr ⟨fun hm => ?_, k2⟩
            obtain ⟨k, hk⟩ := List.mem_iff_getElem?.mp hm
            rw [(k4 k p hk).1] at g4
            cases g4
          · cases k with
            | zero =>
              cases hk
              exact ⟨g1, l2.n p g2 (by rw [g4]; simp), g3, vs, xs, rfl, l2.h p _ g3 g4, g5.mono l2.f⟩
            | succ k =>
              obtain ⟨f1, f2, f3, us, zs, f4, f5, f6⟩ := k4 k q hk
              refine ⟨?_, f2, f3, us, zs, f4, f5, f6⟩
              cases hq : H q with
              | none => rfl
              | some o => rw [l.h q o f3 hq] at f1; cases f1
      | val d => exact h.elim
      | brw d => exact h.elim
      | bor d => exact h.elim
def gOwn2 (i : Nat) (f : Env → O (List (List D))) : Env → Out := fun es => (f es).out es fun xss => if has2 (es.set i .no) = true ∨ 1000 < xss.length then .no else .nx (es.set i (.own2 xss))
theorem StOk.set2 {K : PySem.W.Frag} {F0 H0 F H : Hp} {σ : L2.St} {es : Env} {i : Nat} {p : Addr} {ps : List Addr} {xss : List (List D)} (st : StOk K T F0 H0 F H σ es) (h2 : has2 (es.set i .no) = false) (o : Own2 K T H0 F H p ps xss)
    (dj : ∀ (j : Nat) xs q, j ≠ i → es[j]? = some (.own xs) → σ[j]? = some (some (V.ref q)) → q ≠ p ∧ q ∉ ps) : StOk K T F0 H0 F H (σ.set i (some (.ref p))) (es.set i (.own2 xss)) where
  ok0 := st.ok0
  le := st.le
  env := by
    have ln := st.env.len
    have no : ∀ {j : Nat} {zss : List (List D)}, j ≠ i → es[j]? = some (.own2 zss) → False := fun {j zss} hj e => has2_no h2 (j := j) (xss := zss) (by rw [List.getElem?_set_ne (Ne.symm hj)]; exact e)
    refine ⟨by simp [ln], fun j d h => ?_, fun j d h => ?_, fun j xs h => ?_, fun j k xs ys q h1 h2 h3 h4 => ?_, fun j yss h => ?_, st.env.dic.of (fun j ks ds h => ?_) (Sub.refl _) (fun _ _ _ f _ => f) (fun _ _ e _ _ => e)⟩
    · rcases get_set h with ⟨e, e2⟩ | ⟨e, e2⟩
      · cases e2
      · rw [List.getElem?_set_ne e]; exact st.env.val j d e2
    · rcases get_set h with ⟨e, e2⟩ | ⟨e, e2⟩
      · cases e2
      · rw [List.getElem?_set_ne e]; exact st.env.brw j d e2
    · rcases get_set h with ⟨e, e2⟩ | ⟨e, e2⟩
      · cases e2
      · rw [List.getElem?_set_ne e]; exact st.env.own j xs e2
    · rcases get_set h1 with ⟨e, e2⟩ | ⟨e, e2⟩
      · cases e2
      · rcases get_set h2 with ⟨f, f2⟩ | ⟨f, f2⟩
        · cases f2
        · rw [List.getElem?_set_ne e] at h3
          rw [List.getElem?_set_ne f] at h4
          exact st.env.uni j k xs ys q e2 f2 h3 h4
    · rcases get_set h with ⟨e, e2⟩ | ⟨e, e2⟩
      · subst e
        cases e2
        have hi : i < σ.length := by
          rw [ln]
          have := (List.getElem?_eq_some_iff.mp h).1
          simpa using this
        refine ⟨p, ps, by simp [hi], o, fun k xs q hk hq => ?_, fun k zss hk => ?_⟩
        · rcases get_set hk with ⟨f, f2⟩ | ⟨f, f2⟩
          · cases f2
          · rw [List.getElem?_set_ne f] at hq
            exact dj k xs q (Ne.symm f) f2 hq
        · rcases get_set hk with ⟨f, f2⟩ | ⟨f, f2⟩
          · exact f.symm
          · exact (no (Ne.symm f) f2).elim
      · exact (no (Ne.symm e) e2).elim
    · rcases get_set h with ⟨e, e2⟩ | ⟨e, e2⟩
      · cases e2
      · exact ⟨e2, List.getElem?_set_ne e⟩
theorem ds_own2 {i : Nat} {pos' lp : Pos} {kk : Nat} (hN : X.N.Nodup) (he : DA2 X T W es fr) (hi : X.N[i]? = some x := by rfl) (hx : Loc X.env.scope x := by first | exact Or.inl rfl | exact Or.inr rfl) (hs : swapsWith (.List es lp) (some (.Name x pos')) pos.line X.env = pure false := by rfl)
    (hf : X.fn x = true ∨ X.env.scope.names.lookup x = some .local := by first | exact .inl rfl | exact .inr rfl) : DS X T W (.Assign [.Name x pos'] (.List es lp) pos) (gOwn2 i fr) := fun F0 H0 => ps_weak (ps_set hN hi hx (pe_lst he) hs hf) fun D σ H ⟨F, es, st, q⟩ => by
  refine ⟨F0, H0, F, es, st, out_seq st q fun xss vs F1 H1 _ st1 l1 ⟨ps, k1, k2, k3, k4⟩ h1 => ?_⟩
  subst k1
  split at h1
  · exact h1.elim
  · rename_i hh
    have hb : has2 (es.set i .no) = false := by
      cases z : has2 (es.set i .no) with
      | false => rfl
      | true => exact absurd (Or.inl z) hh
    have hl : xss.length ≤ 1000 := by
      by_cases z : 1000 < xss.length
      · exact absurd (Or.inr z) hh
      · omega
    refine ⟨by rw [List.length_map, k3]; exact sz (by omega), fun p hp => ?_⟩
    have l2 := Le.newH st1.ok (o := .lst (ps.map V.ref)) hp
    have st2 := st1.step l2
    have np : ∀ {q : Addr} {k : Nat}, ps[k]? = some q → q ≠ p := fun {q k} hk z => by
      obtain ⟨_, _, _, us, xs, _, f5, _⟩ := k4 k q hk
      rw [z, hp] at f5; cases f5
    refine h1 _ _ _ (Sub.refl _) (StOk.set2 st2 hb ⟨st1.h0 (st1.ok.nt hp) hp, st1.ok.nf hp, st1.ok.nt hp, upd_same, fun hm => ?_, k2, k3, fun k q hk => ?_⟩ fun j xs q hj hy hq => ?_)
    · obtain ⟨k, hk⟩ := List.mem_iff_getElem?.mp hm
      exact np hk rfl
    · obtain ⟨f1, f2, f3, us, xs, f4, f5, f6⟩ := k4 k q hk
      exact ⟨st.h0 f3 f1, f2, f3, us, xs, f4, by rw [upd_ne (np hk)]; exact f5, f6⟩
    · obtain ⟨a, us, g1, g2, g3, g4, g5, g6⟩ := st.env.own j xs hy
      rw [g1] at hq
      cases hq
      refine ⟨fun z => ?_, fun hm => ?_⟩
      · have := l1.h q _ g4 g5
        rw [z, hp] at this; cases this
      · obtain ⟨k, hk⟩ := List.mem_iff_getElem?.mp hm
        rw [(k4 k q hk).1] at g5; cases g5
/-- the whole, as it stands -/
theorem own2_rp {K : PySem.W.Frag} {F0 H0 F H : Hp} {σ : L2.St} {es : Env} {p : Addr} {ps : List Addr} {xss : List (List D)} (st : StOk K T F0 H0 F H σ es) (o : Own2 K T H0 F H p ps xss) : Rp K H (.lst (xss.map .lst)) (.ref p) := by
  obtain ⟨k1, k2, k3, k4, k5, k6, k7, k8⟩ := o
  rw [Rp]
  refine ⟨p, ps.map V.ref, rfl, SqL.of k4, ?_⟩
  clear k4 k5 k6
  induction ps generalizing xss with
  | nil =>
    cases xss with
    | nil => exact RpL.nil
    | cons a b => cases k7
  | cons q ps ih =>
    cases xss with
    | nil => cases k7
    | cons xs xss =>
      obtain ⟨f1, f2, f3, us, zs, f4, f5, f6⟩ := k8 0 q rfl
      cases f4
      refine RpL.cons ?_ (ih (by simpa using k7) fun k r hk => ?_)
      · rw [Rp]; exact ⟨q, us, rfl, SqL.of f5, f6.mono st.ok.sub⟩
      · exact k8 (k + 1) r hk
/-! x[j] -/
def fIx2 (i j : Nat) : Env → O R := fun es => match es[i]? with
  | some (.own2 xss) => match xss[j]? with
    | some xs => .ok (.bor xs)
    | none => .no
  | _ => .no
theorem de_ix2 (i j : Nat) {z : Int} {k : Nat} (hz : z = (j : Nat) := by rfl) (hN : X.N[i]? = some x := by rfl) (hv : Vis X.env.scope x := by first | exact Or.inl rfl | exact Or.inr (Or.inl rfl) | exact Or.inr (Or.inr rfl)) (hd : (x == ("__debug__" : Str)) = false := by decide)
    (hcd : (x == ("__classdict__" : Str)) = false := by decide) : DE X T W (.Subscript (.Name x p1) (.Constant (.int z) k p2) pos) (fIx2 i j) :=
  pe_weak (pe_ix ix_list (pv i hN hv hd hcd) pe_int (fun _ _ => rfl)) fun σ H Q ⟨F0, H0, F, es, st, h⟩ => by
    unfold fIx2 at h
    split at h
    · rename_i xss e1
      cases hx : xss[j]? with
      | none => rw [hx] at h; exact h.elim
      | some xs =>
        rw [hx] at h
        obtain ⟨p, ps, g1, g2, _, _⟩ := st.env.two i xss e1
        obtain ⟨k1, k2, k3, k4, k5, k6, k7, k8⟩ := g2
        have hj : j < ps.length := by rw [k7]; exact (List.getElem?_eq_some_iff.mp hx).1
        obtain ⟨f1, f2, f3, us, zs, f4, f5, f6⟩ := k8 j ps[j] (List.getElem?_eq_getElem hj)
        rw [hx] at f4
        cases f4
        refine ⟨.ref p, g1, p, ps.map V.ref, z, .ref ps[j], rfl, rfl, SqL.of k4, ?_, h (.ref ps[j]) F H (Le.refl st.ok) ⟨ps[j], us, rfl, f2, f3, f5, f6⟩⟩
        subst hz
        unfold atI ixN
        simp [hj]
    · exact h.elim
/-! x != b -/
def fNe2 (i : Nat) (fb : Env → O R) : Env → O R := fun es => match es[i]? with
  | some (.own2 xss) => (fb es).bind fun r => O.of (dNe (.val (.lst (xss.map .lst))) r.fz)
  | _ => .no
theorem ne2_weak {i : Nat} {σ : L2.St} {H : Hp} {Q : VK} (h : tD X.K T W (fNe2 i fb) σ H Q) : tOp (rNeD X.K) (tVar i) (tD X.K T W fb) σ H Q := by
  obtain ⟨F0, H0, F, es, st, h⟩ := h
  unfold fNe2 at h
  split at h
  · rename_i xss e1
    obtain ⟨p, ps, g1, g2, _, _⟩ := st.env.two i xss e1
    refine ⟨.ref p, g1, F0, H0, F, es, st, pr_seq st h fun r v F1 H1 _ st1 l1 q1 h1 => ?_⟩
    have rp := own2_rp st1 (g2.step l1)
    unfold dNe at h1
    split at h1
    · rename_i e
      rw [Bool.and_eq_true] at e
      refine ⟨py (.lst (xss.map .lst)), py r.fz.dat, rp_dp 60 _ e.1 rp, rp_dp 60 _ e.2 (q1.toH st1.ok st1.up), shp_shaped e.1, shp_shaped e.2, ?_⟩
      have ee : PyData.eqv (py (.lst (xss.map .lst))) (py r.fz.dat) = deq (.lst (xss.map .lst)) r.fz.dat := eqv_deq 60 60 _ _ e.1 e.2
      rw [ee]
      exact h1 _ F1 H1 (Le.refl st1.ok) (by rw [Rr, Rp]; rfl)
    · exact h1.elim
  · exact h.elim
theorem de_ne2 (i : Nat) (hu : X.A.units + 64 < cLine) (hb : DE X T W b fb) (hN : X.N[i]? = some x := by rfl) (hv : Vis X.env.scope x := by first | exact Or.inl rfl | exact Or.inr (Or.inl rfl) | exact Or.inr (Or.inr rfl)) (hd : (x == ("__debug__" : Str)) = false := by decide)
    (hcd : (x == ("__classdict__" : Str)) = false := by decide) (hm : behindInMarks .NotEq b = false := by first | exact nomark _ | rfl | with_unfolding_all rfl) : DE X T W (.Compare (.Name x p1) [.NotEq] [b] pos) (fNe2 i fb) :=
  pe_weak (pe_cmpR (op_neD hu) (pv i hN hv hd hcd) hb hm) fun σ H Q h => ne2_weak h
theorem dt_ne2 (i : Nat) (hu : X.A.units + 64 < cLine) (hb : DE X T W b fb) (hN : X.N[i]? = some x := by rfl) (hv : Vis X.env.scope x := by first | exact Or.inl rfl | exact Or.inr (Or.inl rfl) | exact Or.inr (Or.inr rfl)) (hd : (x == ("__debug__" : Str)) = false := by decide)
    (hcd : (x == ("__classdict__" : Str)) = false := by decide) (hm : behindInMarks .NotEq b = false := by first | exact nomark _ | rfl | with_unfolding_all rfl) : DT X T W (.Compare (.Name x p1) [.NotEq] [b] pos) (fTest (fNe2 i fb)) :=
  pt_weak (pt_cmpR (op_neD hu) (pv i hN hv hd hcd) hb hm) fun σ H Q h => ne2_weak (test_weak h)
/-! an inner list changes -/
theorem StOk.mut2 {K : PySem.W.Frag} {F0 H0 F H : Hp} {σ : L2.St} {es : Env} {i j : Nat} {p q : Addr} {ps : List Addr} {xss : List (List D)} {us' : List V} {xs' : List D} (st : StOk K T F0 H0 F H σ es) (he : es[i]? = some (.own2 xss)) (hp : σ[i]? = some (some (.ref p))) (o : Own2 K T H0 F H p ps xss)
    (hj : ps[j]? = some q) (r : RpL K F xs' us') : StOk K T F0 H0 F (upd H q (.lst us')) σ (es.set i (.own2 (xss.set j xs'))) := by
  obtain ⟨p', ps', g1, g2, g3, g4⟩ := st.env.two i xss he
  have ep : p' = p := by rw [hp] at g1; cases g1; rfl
  subst ep
  have eps : ps' = ps := refs_inj (HO.lst.inj (Option.some.inj (g2.2.2.2.1.symm.trans o.2.2.2.1)))
  subst eps
  obtain ⟨k1, k2, k3, k4, k5, k6, k7, k8⟩ := g2
  obtain ⟨f1, f2, f3, us, zs, f4, f5, f6⟩ := k8 j q hj
  have hi : i < es.length := (List.getElem?_eq_some_iff.mp he).1
  have qp : q ≠ p' := fun z => k5 (z ▸ List.mem_iff_getElem?.mpr ⟨j, hj⟩)
  refine ⟨st.ok0, st.le.mut f1 f2 f3, ⟨by simpa using st.env.len, fun m d h => ?_, fun m d h => ?_, fun m ys h => ?_, fun m k xs ys a h1 h2 h3 h4 => ?_, fun m yss h => ?_, st.env.dic.of (fun m ks ds h => ?_) (Sub.refl _) (fun _ _ _ f _ => f) (fun a us e _ _ => by
    rw [upd_ne (fun z => by subst z; rw [f5] at e; cases e)]; exact e)⟩⟩
  · rcases get_set h with ⟨e, e2⟩ | ⟨e, e2⟩
    · cases e2
    · exact st.env.val m d e2
  · rcases get_set h with ⟨e, e2⟩ | ⟨e, e2⟩
    · cases e2
    · exact st.env.brw m d e2
  · rcases get_set h with ⟨e, e2⟩ | ⟨e, e2⟩
    · cases e2
    · obtain ⟨a, vs, h1, h2, h3, h4, h5, h6⟩ := st.env.own m ys e2
      have : a ≠ q := fun z => (g3 m ys a e2 h1).2 (z ▸ List.mem_iff_getElem?.mpr ⟨j, hj⟩)
      exact ⟨a, vs, h1, h2, h3, h4, by rw [upd_ne this]; exact h5, h6⟩
  · have w : ∀ {m : Nat} {ys : List D}, (es.set i (.own2 (xss.set j xs')))[m]? = some (.own ys) → es[m]? = some (.own ys) := fun {m ys} h => by
      rcases get_set h with ⟨e, e2⟩ | ⟨_, e2⟩
      · cases e2
      · exact e2
    exact st.env.uni m k xs ys a (w h1) (w h2) h3 h4
  · rcases get_set h with ⟨e, e2⟩ | ⟨e, e2⟩
    · subst e
      cases e2
      refine ⟨p', ps', hp, ⟨k1, k2, k3, by rw [upd_ne (Ne.symm qp)]; exact k4, k5, k6, by simp [k7], fun k a hk => ?_⟩, fun k xs a hk ha => ?_, fun k zss hk => ?_⟩
      · by_cases hkj : k = j
        · subst hkj
          rw [hj] at hk
          cases hk
          have hlt : k < xss.length := by rw [← k7]; exact (List.getElem?_eq_some_iff.mp hj).1
          exact ⟨f1, f2, f3, us', xs', by simp [hlt], upd_same, r⟩
        · obtain ⟨h1, h2, h3, vs, ys, h4, h5, h6⟩ := k8 k a hk
          have ne : a ≠ q := fun z => by
            subst z
            obtain ⟨a1, b1⟩ := List.getElem?_eq_some_iff.mp hk
            obtain ⟨a2, b2⟩ := List.getElem?_eq_some_iff.mp hj
            rcases Nat.lt_or_gt_of_ne hkj with z | z
            · exact List.pairwise_iff_getElem.mp k6 k j a1 a2 z (b1.trans b2.symm)
            · exact List.pairwise_iff_getElem.mp k6 j k a2 a1 z (b2.trans b1.symm)
          exact ⟨h1, h2, h3, vs, ys, by rw [List.getElem?_set_ne (fun z => hkj z.symm)]; exact h4, by rw [upd_ne ne]; exact h5, h6⟩
      · rcases get_set hk with ⟨f, f2⟩ | ⟨_, f2⟩
        · cases f2
        · exact g3 k xs a f2 ha
      · rcases get_set hk with ⟨f, _⟩ | ⟨_, f2⟩
        · exact f.symm
        · exact g4 k zss f2
    · exact absurd (g4 m yss e2) (Ne.symm e)
  · rcases get_set h with ⟨e, e2⟩ | ⟨e, e2⟩
    · cases e2
    · exact ⟨e2, rfl⟩
def gApp2 (i j : Nat) (f : Env → O R) : Env → Out := fun es => match es[i]? with
  | some (.own2 xss) => match xss[j]? with
    | some xs => (f es).out es fun r => match r.fz.sto with
      | some d => if xs.length < 90000 then .nx (es.set i (.own2 (xss.set j (xs ++ [d])))) else .no
      | none => .no
    | none => .no
  | _ => .no
def gClr2 (i j : Nat) : Env → Out := fun es => match es[i]? with
  | some (.own2 xss) => if j < xss.length then .nx (es.set i (.own2 (xss.set j []))) else .no
  | _ => .no
theorem ix2_run {K : PySem.W.Frag} {F0 H0 F H : Hp} {σ : L2.St} {es : Env} {i j : Nat} {xss : List (List D)} {xs : List D} (st : StOk K T F0 H0 F H σ es) (he : es[i]? = some (.own2 xss)) (hx : xss[j]? = some xs) :
    ∃ p ps q us, σ[i]? = some (some (.ref p)) ∧ Own2 K T H0 F H p ps xss ∧ ps[j]? = some q ∧ H q = some (.lst us) ∧ RpL K F xs us ∧ q ∉ T ∧ ∀ Q : VK, Q (.ref q) H → tOp (rIxL K) (tVar i) (tC (.int (j : Nat))) σ H Q := by
  obtain ⟨p, ps, g1, g2, _, _⟩ := st.env.two i xss he
  have g2' := g2
  obtain ⟨k1, k2, k3, k4, k5, k6, k7, k8⟩ := g2
  have hj : j < ps.length := by rw [k7]; exact (List.getElem?_eq_some_iff.mp hx).1
  obtain ⟨f1, f2, f3, us, zs, f4, f5, f6⟩ := k8 j ps[j] (List.getElem?_eq_getElem hj)
  rw [hx] at f4
  cases f4
  refine ⟨p, ps, ps[j], us, g1, g2', List.getElem?_eq_getElem hj, f5, f6, f3, fun Q hQ => ⟨.ref p, g1, p, ps.map V.ref, (j : Nat), .ref ps[j], rfl, rfl, SqL.of k4, ?_, hQ⟩⟩
  unfold atI ixN
  simp [hj]
theorem ds_app2 {fa : Env → O R} {k : Nat} (i j : Nat) (he : DE X T W e fa) (hN : X.N[i]? = some x := by rfl) (hv : Vis X.env.scope x := by first | exact Or.inl rfl | exact Or.inr (Or.inl rfl) | exact Or.inr (Or.inr rfl)) (hd : (x == ("__debug__" : Str)) = false := by decide)
    (hcd : (x == ("__classdict__" : Str)) = false := by decide) {sp p4 : Pos}
    (hst : starEach [e] X.env = (false, eval e X.env) :: starEach [] X.env := by rfl)
    (hbase : attributeBase (.Subscript (.Name x p1) (.Constant (.int (j : Nat)) k p4) sp) "append" X.env (eval (.Subscript (.Name x p1) (.Constant (.int (j : Nat)) k p4) sp) X.env) = eval (.Subscript (.Name x p1) (.Constant (.int (j : Nat)) k p4) sp) X.env := by rfl)
    (hfew : ((backTo p3 (starEach [e] X.env)).all (fun x => !x.1) && (backToKw p3 (keywordEach [] X.env)).all (fun x => x.1.isSome) && decide ([e].length + ([] : List Keyword).length + (if ([] : List Keyword).isEmpty then 0 else 1) < 30)) = true := by rfl)
    (hline : (p2.endLine == p3.line) = true := by rfl)
    (hs : swapsWith (.Call (.Attribute (.Subscript (.Name x p1) (.Constant (.int (j : Nat)) k p4) sp) "append" p2) [e] [] p3) none pos.line X.env = pure false := by rfl) :
    DS X T W (.Expr (.Call (.Attribute (.Subscript (.Name x p1) (.Constant (.int (j : Nat)) k p4) sp) "append" p2) [e] [] p3) pos) (gApp2 i j fa) := fun F0 H0 =>
  ps_weak (ps_expr (pe_bm PySem.F.plainAttrs_list PySem.F.slot_list_append PySem.F.type_list_append mt_append (pe_ix ix_list (pv i hN hv hd hcd) pe_int (fun _ _ => rfl)) (pa_cons he pa_nil hst) hbase hfew hline hst rfl) hs) fun D σ H ⟨F, es, st, q⟩ => by
    unfold gApp2 at q
    split at q
    · rename_i xss e1
      cases hx : xss[j]? with
      | none => rw [hx] at q; exact q.elim
      | some xs =>
        rw [hx] at q
        obtain ⟨p, ps, a, us, g1, g2, g3, g4, g5, g6, g7⟩ := ix2_run st e1 hx
        refine g7 _ ⟨own_ty g4, F0, H0, F, es, st, out_seq st q fun r v F1 H1 _ _ l1 q1 q => ?_⟩
        split at q
        · rename_i d e2
          split at q
          · rename_i hl
            obtain ⟨F2, l2, s2, q2⟩ := q1.fz l1
            have st2 := st.step l2
            have rr : RpL X.K F2 (xs ++ [d]) (us ++ [v]) := (g5.mono l2.f).app (RpL.cons (q2.sto e2) RpL.nil)
            exact ⟨a, us, v, rfl, rfl, l2.h a _ g6 g4, by rw [← g5.len]; exact szl (by omega), q _ F2 _ s2 (st2.mut2 e1 g1 (g2.step l2) g3 rr)⟩
          · exact q.elim
        · exact q.elim
    · exact q.elim
theorem ds_clr2 {k : Nat} (i j : Nat) (hN : X.N[i]? = some x := by rfl) (hv : Vis X.env.scope x := by first | exact Or.inl rfl | exact Or.inr (Or.inl rfl) | exact Or.inr (Or.inr rfl)) (hd : (x == ("__debug__" : Str)) = false := by decide)
    (hcd : (x == ("__classdict__" : Str)) = false := by decide) {sp p4 : Pos}
    (hbase : attributeBase (.Subscript (.Name x p1) (.Constant (.int (j : Nat)) k p4) sp) "clear" X.env (eval (.Subscript (.Name x p1) (.Constant (.int (j : Nat)) k p4) sp) X.env) = eval (.Subscript (.Name x p1) (.Constant (.int (j : Nat)) k p4) sp) X.env := by rfl)
    (hline : (p2.endLine == p3.line) = true := by rfl)
    (hs : swapsWith (.Call (.Attribute (.Subscript (.Name x p1) (.Constant (.int (j : Nat)) k p4) sp) "clear" p2) [] [] p3) none pos.line X.env = pure false := by rfl) :
    DS X T W (.Expr (.Call (.Attribute (.Subscript (.Name x p1) (.Constant (.int (j : Nat)) k p4) sp) "clear" p2) [] [] p3) pos) (gClr2 i j) := fun F0 H0 =>
  ps_weak (ps_expr (pe_bm0 PySem.F.plainAttrs_list PySem.F.slot_list_clear PySem.F.type_list_clear mt_clear (pe_ix ix_list (pv i hN hv hd hcd) pe_int (fun _ _ => rfl)) hbase hline) hs) fun D σ H ⟨F, es, st, q⟩ => by
    unfold gClr2 at q
    split at q
    · rename_i xss e1
      split at q
      · rename_i hj
        obtain ⟨p, ps, a, us, g1, g2, g3, g4, g5, g6, g7⟩ := ix2_run (xs := xss[j]) st e1 (List.getElem?_eq_getElem hj)
        exact g7 _ ⟨own_ty g4, a, us, rfl, rfl, g4, q σ F _ (Sub.refl _) (st.mut2 e1 g1 g2 g3 RpL.nil)⟩
      · exact q.elim
    · exact q.elim
end
end Fw
namespace Fw
open PySem PySem.Spec PyProof.Rows L2
section
variable {K : PySem.W.Frag} {T : Tb} {F0 H0 F H : Hp} {σ : L2.St} {es : Env}
/-- a new object that no slot tells of changes -/
theorem StOk.mutFree {q : Addr} {o : HO} (st : StOk K T F0 H0 F H σ es) (f1 : H0 q = none) (f2 : F q = none) (f3 : q ∉ T) (no2 : has2 es = false) (dj : ∀ (j : Nat) xs a, es[j]? = some (.own xs) → σ[j]? = some (some (V.ref a)) → a ≠ q) (nd : ∀ us, H q ≠ some (.dK us)) : StOk K T F0 H0 F (upd H q o) σ es :=
  ⟨st.ok0, st.le.mut f1 f2 f3, ⟨st.env.len, st.env.val, st.env.brw, fun m ys h => by
    obtain ⟨a, vs, h1, h2, h3, h4, h5, h6⟩ := st.env.own m ys h
    exact ⟨a, vs, h1, h2, h3, h4, by rw [upd_ne (dj m ys a h h1)]; exact h5, h6⟩, st.env.uni, fun m yss h => (has2_no no2 h).elim, st.env.dic.of (fun _ _ _ e => ⟨e, rfl⟩) (Sub.refl _) (fun _ _ _ f _ => f) (fun a us e _ _ => by
    rw [upd_ne (fun z => by subst z; exact nd _ e)]; exact e)⟩⟩
end
def gForApp2 (i r : Nat) : Env → Out := fun es => match es[i]? with
  | some (.own2 xss) => if r < es.length ∧ has2 ((es.set i .no).set r .no) = false ∧ (xss.all fun xs => decide (xs.length ≤ 90000)) = true then .nx ((es.set i .no).set r .no) else .no
  | _ => .no
section
variable {X : Cx} {T : Tb} {W : WX} {x y : Str} {p1 p2 p3 p4 p5 p6 pos : Pos}
theorem ds_forApp2 {k : Nat} (i r : Nat) (hne : i ≠ r) (hN : X.N.Nodup) (hp : PassesOwn (model X.prog X.w) X.A X.env X.xe) (hi : X.N[i]? = some x := by rfl) (hr : X.N[r]? = some y := by rfl) (hv : Vis X.env.scope x := by first | exact Or.inl rfl | exact Or.inr (Or.inl rfl) | exact Or.inr (Or.inr rfl)) (hd : (x == ("__debug__" : Str)) = false := by decide)
    (hcd : (x == ("__classdict__" : Str)) = false := by decide) (hv2 : Vis X.env.scope y := by first | exact Or.inl rfl | exact Or.inr (Or.inl rfl) | exact Or.inr (Or.inr rfl)) (hd2 : (y == ("__debug__" : Str)) = false := by decide)
    (hcd2 : (y == ("__classdict__" : Str)) = false := by decide) (hx : Loc X.env.scope y := by first | exact Or.inl rfl | exact Or.inr rfl) (hf : X.fn y = true ∨ X.env.scope.names.lookup y = some .local := by first | exact .inl rfl | exact .inr rfl) (hc : X.calm = true := by rfl)
    (hst : starEach [.Constant .none k p6] X.env = (false, eval (.Constant .none k p6) X.env) :: starEach [] X.env := by rfl)
    (hbase : attributeBase (.Name y p3) "append" X.env (eval (.Name y p3) X.env) = eval (.Name y p3) X.env := by rfl)
    (hfew : ((backTo p5 (starEach [.Constant .none k p6] X.env)).all (fun x => !x.1) && (backToKw p5 (keywordEach [] X.env)).all (fun x => x.1.isSome) && decide ([Expr.Constant .none k p6].length + ([] : List Keyword).length + (if ([] : List Keyword).isEmpty then 0 else 1) < 30)) = true := by rfl)
    (hline : (p4.endLine == p5.line) = true := by rfl) {ep : Pos}
    (hs : swapsWith (.Call (.Attribute (.Name y p3) "append" p4) [.Constant .none k p6] [] p5) none ep.line X.env = pure false := by rfl) (hfs : ∀ z, foldedSetIterable (.Name x p2) X.env z = pure z := by intro _; rfl) :
    DS X T W (.For (.Name y p1) (.Name x p2) [.Expr (.Call (.Attribute (.Name y p3) "append" p4) [.Constant .none k p6] [] p5) ep] [] pos) (gForApp2 i r) := fun F0 H0 =>
  ps_weak (ps_for hp hc (pi_list (pv i hi hv hd hcd)) (pg_name (i := r) hN hr hx hf) (pss_one (ps_expr (pe_bm PySem.F.plainAttrs_list PySem.F.slot_list_append PySem.F.type_list_append mt_append (pv r hr hv2 hd2 hcd2) (pa_cons pe_non pa_nil hst) hbase hfew hline hst rfl) hs)) hfs) fun D σ H ⟨F, es, st, q⟩ => by
    unfold gForApp2 at q
    split at q
    · rename_i xss e1
      split at q
      · rename_i hh
        obtain ⟨hlt, h2, hall⟩ := hh
        obtain ⟨p, ps, g1, g2, g3, g4⟩ := st.env.two i xss e1
        obtain ⟨k1, k2, k3, k4, k5, k6, k7, k8⟩ := g2
        have e0 : ((es.set i .no).set r .no)[r]? = some .no := by
          rw [List.getElem?_set_self (by simpa using hlt)]
        have stw : StOk X.K T F0 H0 F H (L2.wipe σ [r, i]) ((es.set i .no).set r .no) := st.wipe [r, i]
        have hkeep : ∀ {j : Nat} {xs : List Fw.D}, ((es.set i .no).set r .no)[j]? = some (.own xs) → j ≠ r ∧ es[j]? = some (.own xs) := fun {j xs} h => by
          rcases get_set h with ⟨_, e2⟩ | ⟨e, e2⟩
          · cases e2
          · rcases get_set e2 with ⟨_, e3⟩ | ⟨_, e3⟩
            · cases e3
            · exact ⟨Ne.symm e, e3⟩
        have st0 : StOk X.K T F0 H0 F H σ ((es.set i .no).set r .no) := by
          refine ⟨st.ok0, st.le, ⟨by simpa using st.env.len, fun j d h => ?_, fun j d h => ?_, fun j xs h => ?_, fun j m xs ys a h1 h2 h3 h4 => ?_, fun j yss h => (has2_no h2 h).elim, st.env.dic.of (fun j ks ds h => ?_) (Sub.refl _) (fun _ _ _ f _ => f) (fun _ _ e _ _ => e)⟩⟩
          · rcases get_set h with ⟨_, e2⟩ | ⟨_, e2⟩
            · cases e2
            · rcases get_set e2 with ⟨_, e3⟩ | ⟨_, e3⟩
              · cases e3
              · exact st.env.val j d e3
          · rcases get_set h with ⟨_, e2⟩ | ⟨_, e2⟩
            · cases e2
            · rcases get_set e2 with ⟨_, e3⟩ | ⟨_, e3⟩
              · cases e3
              · exact st.env.brw j d e3
          · exact st.env.own j xs (hkeep h).2
          · exact st.env.uni j m xs ys a (hkeep h1).2 (hkeep h2).2 h3 h4
          · rcases get_set h with ⟨_, e2⟩ | ⟨_, e2⟩
            · cases e2
            · rcases get_set e2 with ⟨_, e3⟩ | ⟨_, e3⟩
              · cases e3
              · exact ⟨e3, rfl⟩
        refine ⟨.ref p, g1, p, rfl, ⟨_, SqL.of k4⟩, ?_⟩
        refine for_it (walk_list (xs := ps.map V.ref)) (fun n σ2 H2 => StOk X.K T F0 H0 F H2 σ2 ((es.set i .no).set r .no) ∧ H2 p = some (.lst (ps.map V.ref)) ∧ (∀ (j : Nat) xs a, ((es.set i .no).set r .no)[j]? = some (.own xs) → σ2[j]? = some (some (V.ref a)) → a ≠ p ∧ a ∉ ps) ∧
          ∀ (m : Nat) (a : Addr), n ≤ m → ps[m]? = some a → ∃ us : List V, H2 a = some (.lst us) ∧ us.length ≤ 90000) ⟨st0, k4, fun j xs a h1 h2 => g3 j xs a (hkeep h1).2 h2, fun m a _ hm => ?_⟩ ?_ ?_ ?_
        · obtain ⟨f1, f2, f3, us, zs, f4, f5, f6⟩ := k8 m a hm
          refine ⟨us, f5, ?_⟩
          rw [← f6.len]
          exact of_decide_eq_true (List.all_eq_true.mp hall zs (List.mem_iff_getElem?.mpr ⟨m, f4⟩))
        · intro n σ2 H2 _ hP
          exact SqL.of hP.2.1
        · intro n v σ2 H2 H3 hn hP hY
          obtain ⟨s2, a2, d2, l2⟩ := hP
          obtain ⟨rfl, hx2⟩ := hY
          have hn' : n < ps.length := by simpa using hn
          have ev : v = .ref ps[n] := by
            have z : (ps.map V.ref)[n]? = some v := hx2
            rw [List.getElem?_map, List.getElem?_eq_getElem hn'] at z
            exact (Option.some.inj z).symm
          subst ev
          obtain ⟨us, b1, b2⟩ := l2 n ps[n] (Nat.le_refl _) (List.getElem?_eq_getElem hn')
          obtain ⟨f1, f2, f3, _⟩ := k8 n ps[n] (List.getElem?_eq_getElem hn')
          have hrl : r < σ2.length := by rw [s2.env.len]; simpa using hlt
          have s3 := StOk.set (i := r) (v := .ref ps[n]) (s := .no) s2 True.intro
          rw [List.set_set] at s3
          have d3 : ∀ (j : Nat) xs a, ((es.set i .no).set r .no)[j]? = some (.own xs) → (σ2.set r (some (.ref ps[n])))[j]? = some (some (V.ref a)) → a ≠ p ∧ a ∉ ps := fun j xs a h1 h2 => by
            rw [List.getElem?_set_ne (Ne.symm (hkeep h1).1)] at h2
            exact d2 j xs a h1 h2
          have mem : ps[n] ∈ ps := List.getElem_mem hn'
          have np : ps[n] ≠ p := fun z => k5 (z ▸ mem)
          refine ⟨.ref ps[n], by simp [hrl], own_ty b1, ps[n], us, .non, rfl, rfl, b1, szl (by omega), ?_⟩
          refine ⟨s3.mutFree f1 f2 f3 h2 (fun j xs a h1 h2 z => (d3 j xs a h1 h2).2 (z ▸ mem)) (fun us' z => by rw [b1] at z; cases z), by rw [upd_ne (Ne.symm np)]; exact a2, d3, fun m a hm ha => ?_⟩
          obtain ⟨vs, c1, c2⟩ := l2 m a (by omega) ha
          have ne : a ≠ ps[n] := fun z => by
            obtain ⟨a1, b1'⟩ := List.getElem?_eq_some_iff.mp ha
            exact List.pairwise_iff_getElem.mp k6 n m hn' a1 (by omega) (by rw [b1', z])
          exact ⟨vs, by rw [upd_ne ne]; exact c1, c2⟩
        · intro σ2 H2 hP
          exact q σ2 F H2 (Sub.refl _) hP.1
      · exact q.elim
    · exact q.elim
end
end Fw
namespace Fw
open PySem PySem.Spec PyProof.Rows L2
/-! ### defs whose arguments are kept: what is handed in is frozen -/
def startF (n : Nat) (ds : List D) : Env := ds.map .val ++ List.replicate (n - ds.length) .no
def run0F (n : Nat) (body : Env → Out) (ds : List D) : O R := match body (startF n ds) with
  | .nx _ => .ok (.val .non)
  | .rt r => .ok r
  | _ => .no
def spDF (K : PySem.W.Frag) (T : Tb) (n : Nat) (g : List D → O R) : Sp := fun vs H Q E => ∃ F ds, vs.length = n ∧ Ok T F H ∧ RpL K F ds vs ∧ match g ds with
  | .ok (.val d) => ∀ v F' H', Le T F H F' H' → Rr K T H H F' H' v (.val d) → Q v H'
  | .ok (.new xs) => ∀ v F' H', Le T F H F' H' → Rr K T H H F' H' v (.new xs) → Q v H'
  | _ => False
section
variable {K : PySem.W.Frag} {T : Tb} {F H : Hp}
theorem startF_ok {N : List Str} {ds : List D} {vs : List V} (ok : Ok T F H) (r : RpL K F ds vs) : StOk K T F H F H (L2.start N vs) (startF N.length ds) where
  ok0 := ok
  le := Le.refl ok
  env := by
    have ln := r.len
    have at_ : ∀ {i : Nat} {s : Sl}, (startF N.length ds)[i]? = some s → s ≠ .no → ∃ d v, s = .val d ∧ (L2.start N vs)[i]? = some (some v) ∧ Rp K F d v := fun {i s} h hn => by
      unfold startF at h
      by_cases hi : i < ds.length
      · rw [List.getElem?_append_left (by simpa using hi), List.getElem?_map] at h
        cases hd : ds[i]? with
        | none => rw [hd] at h; cases h
        | some d =>
          rw [hd] at h
          cases h
          obtain ⟨v, h1, h2⟩ := r.get hd
          refine ⟨d, v, rfl, ?_, h2⟩
          unfold L2.start
          rw [List.getElem?_append_left (by simp; omega), List.getElem?_map, h1]; rfl
      · rw [List.getElem?_append_right (by simp; omega), List.getElem?_replicate] at h
        split at h
        · cases h; exact absurd rfl hn
        · cases h
    refine ⟨by simp [L2.start, startF, ln], fun i d h => ?_, fun i d h => ?_, fun i xs h => ?_, fun i j xs ys p h1 h2 h3 h4 => ?_, fun i xss h => ?_, ⟨fun i ks es h => ?_, fun i j ks es ls fs p h1 h2 h3 h4 => ?_⟩⟩
    · obtain ⟨d', v, h1, h2, h3⟩ := at_ h (by simp)
      cases h1
      exact ⟨v, h2, h3⟩
    · obtain ⟨d', v, h1, _⟩ := at_ h (by simp)
      cases h1
    · obtain ⟨d', v, h1, _⟩ := at_ h (by simp)
      cases h1
    · obtain ⟨d', v, g1, _⟩ := at_ h1 (by simp)
      cases g1
    · obtain ⟨d', v, g1, _⟩ := at_ h (by simp)
      cases g1
    · obtain ⟨d', v, g1, _⟩ := at_ h (by simp)
      cases g1
    · obtain ⟨d', v, g1, _⟩ := at_ h1 (by simp)
      cases g1
end
section
variable {P : Program} {w : World} {K : PySem.W.Frag} {mg : Str → Option Value} {base : Heap} {T : Tb}
theorem fn_okF {x qual : Str} {st : Stmt} {f : Addr} {fd : FuncData} {N ps : List Str} {k : Nat} (F : Fun K x qual st f fd) (S : FnScope N ps (defScope st)) (body : Env → Out)
    (h : ∀ (cdv : Value) (A : Around) (outer : List PySem.Env) (s : Shared) (H : Hp) (E : XK), Room k (A.deeper (envOfC qual (defScope st) s.heap.objs.size f cdv)) → DSs (cxOf CX0 P w K mg base N qual (defScope st) f cdv A outer s H E).nox T W0 (defBody st) body) :
    FnOk P w K mg base CX0 (k + 1) f fd ps (spDF K T ps.length (run0F N.length body)) := by
  refine F.ok S (fun vs H Q E h => by obtain ⟨F, ds, hl, _⟩ := h; exact hl) (fun cdv A outer s H vs Q E hr hsp => ?_)
  obtain ⟨F, ds, hl, ok, r, q⟩ := hsp
  refine ⟨_, h cdv A outer s H E hr F H, F, _, startF_ok (N := N) ok r, ?_⟩
  unfold run0F at q
  cases hb : body (startF N.length ds) with
  | nx es => rw [hb] at q; exact fun σ F' H' z s => q .non F' H' s.le (by rw [Rr, Rp])
  | br es => rw [hb] at q; exact q.elim
  | ct es => rw [hb] at q; exact q.elim
  | no => rw [hb] at q; exact q.elim
  | exc es c fs => rw [hb] at q; exact q.elim
  | rt r =>
    rw [hb] at q
    cases r with
    | val d => exact fun v F' H' l p => q v F' H' l p
    | new xs => exact fun v F' H' l p => q v F' H' l p
    | brw d => exact q.elim
    | bor xs => exact q.elim
end
def isVal : R → Bool
  | .val _ => true
  | _ => false
theorem rqlAll {K : PySem.W.Frag} {T : Tb} {H0 F H : Hp} : ∀ {rs : List R} {vs : List V}, rs.all isVal = true → RqL K T H0 F H rs vs → RpL K F (rs.map R.dat) vs
  | [], vs, _, h => by cases h; exact RpL.nil
  | r :: rs, vs, a, h => by
    obtain ⟨v, t, h1, h2, h3⟩ := h
    subst h1
    rw [List.all_cons, Bool.and_eq_true] at a
    cases r with
    | val d => exact RpL.cons h2 (rqlAll a.2 h3)
    | brw d => exact absurd a.1 (by simp [isVal])
    | new d => exact absurd a.1 (by simp [isVal])
    | bor d => exact absurd a.1 (by simp [isVal])
def fCallF (g : List D → O R) (fr : Env → O (List R)) : Env → O R := fun es => (fr es).bind fun rs => if rs.all isVal = true then (match g (rs.map R.dat) with
  | .ok (.val d) => .ok (.val d)
  | .ok (.new xs) => .ok (.new xs)
  | _ => .no) else .no
section
variable {X : Cx} {T : Tb} {W : WX} {e : Expr} {es : List Expr} {x : Str}
theorem de_callF {CX : CXT} {Ec : XK} {k n : Nat} {f : Addr} {fd : FuncData} {ps : List Str} {g : List D → O R} {fr : Env → O (List R)} {pos p : Pos} (F : FnOk X.prog X.w X.K X.mg X.base CX k f fd ps (spDF X.K T n g)) (hx : Passes CX X Ec) (hr : Room k X.A) (hm : X.mg x = some (.ref f))
    (hk : PySem.W.keepIn X.K (.ref f) = true) (hb : Binds X.K fd ps []) (ha : DA X T W (e :: es) fr) (hn : ∀ es rs, fr es = .ok rs → rs.length = n) (hg : Gl X x := by rfl) (hdb : (x == ("__debug__" : Str)) = false := by decide)
    (he : starEach (e :: es) X.env = (false, eval e X.env) :: starEach es X.env := by rfl) (hpl : (backTo pos (starEach es X.env)).any (·.1) = false := by rfl) : DE X T W (.Call (.Name x p) (e :: es) [] pos) (fCallF g fr) :=
  pe_weak (pe_call F hr hg hm hk hb .nil hx ha hdb he hpl) fun σ H Q ⟨F0, H0, F, es, st, h⟩ => by
    refine ⟨F0, H0, F, es, st, pa_seq st h fun rs vs F1 H1 hrs st1 l1 q1 h1 => ?_⟩
    rw [List.append_nil]
    split at h1
    · rename_i hv
      refine ⟨F1, rs.map R.dat, by rw [← q1.len]; exact hn es rs hrs, st1.ok, rqlAll hv q1, ?_⟩
      cases hg : g (rs.map R.dat) with
      | no => rw [hg] at h1; exact h1
      | exc c fs => rw [hg] at h1; exact h1.elim
      | ok r =>
        rw [hg] at h1
        cases r with
        | val d => exact fun v F' H' l q => h1 v F' H' l q
        | new xs => exact fun v F' H' l q => h1 v F' H' l q
        | brw d => exact h1
        | bor xs => exact h1
    · exact h1.elim
end
end Fw
namespace Fw
open PySem PySem.Spec PyProof.Rows L2
/-- a sign of a text -/
def inT (cs : List Nat) (c : Nat) : Bool := decide (c ∈ cs)
section
variable {X : Cx}
/-- x in A, A a text of the module -/
theorem elt_inT {scope : Scope} {x a : Str} {cs : List Nat} {p1 p2 p6 : Pos} (md : X.base.Ns mainGlobals X.mg) (hA : ∃ t, X.mg a = some (.str (tx cs) t)) (hk : scope.kind = .function := by rfl) (hl : scope.names.lookup x = some .local := by rfl)
    (ga : scope.names.lookup a = some .globalImplicit := by rfl) (hd : (x == ("__debug__" : Str)) = false := by decide) (da : (a == ("__debug__" : Str)) = false := by decide) :
    EltG X scope x (.Compare (.Name x p1) [.In] [.Name a p2] p6) (inT cs) := by
  intro ce B E' c t s2 m hB0 hs hg hb hn hm
  obtain ⟨ta, hA⟩ := hA
  have kd : ce.scope.kind = .function := by rw [hs]; exact hk
  refine wpAny_Compare1 ?_
  refine wpAny_Name (wpAny_loadName_local kd (show ce.scope.names.lookup x = some .local by rw [hs]; exact hl) hn hm ?_) hd
  refine ld_mod md kd (show ce.scope.names.lookup a = some .globalImplicit by rw [hs]; exact ga) hg hb hA ?_ da
  refine PyProof.Rows.in_str ?_
  rw [PySem.StrLaws.found_one, tx_list]
  exact ⟨rfl, s2.heap, s2.toks, rfl, fun _ _ h => h⟩
end
end Fw
namespace Fw
open PySem PySem.Spec PyProof.Rows L2
open Classical in
/-- the classes by their places -/
noncomputable def clOf (K : PySem.W.Frag) (a : String → Addr) : Cl where
  at_ := a
  kx := fun c d => if L2.ExcC K c then (match d with
    | .cls c' => PySem.W.kitOne K (.ref c) (.ref c')
    | .ty n => PySem.W.kitOne K (.ref c) (.type n)
    | _ => none) else none
  ex := fun c c' => PySem.W.exmOne K (.ref c) (.ref c')
theorem cl_mk (K : PySem.W.Frag) (a : String → Addr) : ∃ cl : Cl, (∀ s, cl.at_ s = a s) ∧ ClOk K cl ∧ (∀ c c' b, L2.ExcC K c → PySem.W.kitOne K (.ref c) (.ref c') = some b → cl.kx c (.cls c') = some b) ∧
    (∀ c n b, L2.ExcC K c → PySem.W.kitOne K (.ref c) (.type n) = some b → cl.kx c (.ty n) = some b) ∧ ∀ c c' b, PySem.W.exmOne K (.ref c) (.ref c') = some b → cl.ex c c' = some b := by
  refine ⟨clOf K a, fun _ => rfl, ⟨fun c d b h => ?_, fun c c' b h => h⟩, fun c c' b hE h => ?_, fun c n b hE h => ?_, fun c c' b h => h⟩
  · unfold clOf at h
    simp only at h
    split at h
    · rename_i hE
      refine ⟨hE, ?_⟩
      cases d with
      | cls c' => exact h
      | ty n => exact h
      | _ => cases h
    · cases h
  · unfold clOf
    simp only
    rw [if_pos hE]; exact h
  · unfold clOf
    simp only
    rw [if_pos hE]; exact h
theorem kit_t {K : PySem.W.Frag} {c d : Addr} (h1 : PySem.W.isClsIn K d = true) (h2 : PySem.W.typeIn K (.ref d) = some (.type "type")) (h3 : PySem.W.subIn K (.ref c) (.ref d) = some true) : PySem.W.kitOne K (.ref c) (.ref d) = some true := by
  unfold PySem.W.kitOne
  split
  · rfl
  · have h1' : (PySem.W.clsIn K d).isSome = true := h1
    show (if ((PySem.W.clsIn K d).isSome && PySem.W.typeIn K (.ref d) == some (.type "type")) = true then _ else none) = _
    rw [if_pos (by rw [h1', h2]; rfl), h3]
theorem kit_f {K : PySem.W.Frag} {c d : Addr} (h1 : PySem.W.isClsIn K d = true) (h2 : PySem.W.typeIn K (.ref d) = some (.type "type")) (h3 : PySem.W.subIn K (.ref c) (.ref d) = some false) (h4 : PySem.W.subIn K (.ref d) (.ref d) = some true) : PySem.W.kitOne K (.ref c) (.ref d) = some false := by
  unfold PySem.W.kitOne
  split
  · rename_i h
    have e : c = d := by simpa using h
    rw [e, h4] at h3
    cases h3
  · have h1' : (PySem.W.clsIn K d).isSome = true := h1
    show (if ((PySem.W.clsIn K d).isSome && PySem.W.typeIn K (.ref d) == some (.type "type")) = true then _ else none) = _
    rw [if_pos (by rw [h1', h2]; rfl), h3]
theorem kit_v {K : PySem.W.Frag} {c : Addr} (h3 : PySem.W.subIn K (.ref c) (.type "ValueError") = some true) : PySem.W.kitOne K (.ref c) (.type "ValueError") = some true := by
  unfold PySem.W.kitOne
  rw [if_neg (by simp)]
  show (if PySem.W.kitMeta "ValueError" = true then _ else none) = _
  rw [h3]
  exact if_pos (by decide +kernel)
theorem exm_t {K : PySem.W.Frag} {c d : Addr} (h0 : PySem.W.subIn K (.ref d) (.type "BaseException") = some true) (h1 : PySem.W.isClsIn K d = true) (h2 : PySem.W.typeIn K (.ref d) = some (.type "type")) (h3 : PySem.W.subIn K (.ref c) (.ref d) = some true) : PySem.W.exmOne K (.ref c) (.ref d) = some true := by
  unfold PySem.W.exmOne
  rw [h0, if_pos (by rfl)]
  have h1' : (PySem.W.clsIn K d).isSome = true := h1
  show (if ((PySem.W.clsIn K d).isSome && PySem.W.typeIn K (.ref d) == some (.type "type")) = true then _ else none) = _
  rw [if_pos (by rw [h1', h2]; rfl), h3]
end Fw
namespace Fw
open PySem PySem.Spec PyProof.Rows L2
/-! ### a list of one's own that is kept as it is from here on -/
section
variable {K : PySem.W.Frag} {T : Tb} {F0 H0 F H : Hp} {σ : L2.St} {es : Env}
theorem StOk.frzOwn {i : Nat} {xs : List D} (st : StOk K T F0 H0 F H σ es) (he : es[i]? = some (.own xs)) : ∃ F', Sub F F' ∧ StOk K T F0 H0 F' H σ (es.set i (.val (.lst xs))) := by
  obtain ⟨p, vs, h1, h2, h3, h4, h5, h6⟩ := st.env.own i xs he
  have sb : Sub F (upd F p (.lst vs)) := Sub.new h3
  refine ⟨upd F p (.lst vs), sb, st.ok0, st.le.frz h2 h5 h3 h4, ⟨by simpa using st.env.len, fun j d h => ?_, fun j d h => ?_, fun j ys h => ?_, fun j k xs ys q g1 g2 g3 g4 => ?_, fun j yss h => ?_, st.env.dic.of (fun j ks ds h => ?_) sb (fun q us e f _ => by
    rw [upd_ne (fun z => by subst z; rw [h5] at e; cases e)]; exact f) (fun _ _ e _ _ => e)⟩⟩
  · rcases get_set h with ⟨e, e2⟩ | ⟨e, e2⟩
    · cases e2
      subst e
      exact ⟨.ref p, h1, rp_lst h3 h6⟩
    · obtain ⟨v, g1, g2⟩ := st.env.val j d e2
      exact ⟨v, g1, g2.mono sb⟩
  · rcases get_set h with ⟨e, e2⟩ | ⟨e, e2⟩
    · cases e2
    · exact st.env.brw j d e2
  · rcases get_set h with ⟨e, e2⟩ | ⟨e, e2⟩
    · cases e2
    · obtain ⟨q, us, g1, g2, g3, g4, g5, g6⟩ := st.env.own j ys e2
      have : q ≠ p := fun z => by
        subst z
        exact e (st.env.uni i j xs ys q he e2 h1 g1)
      exact ⟨q, us, g1, g2, by rw [upd_ne this]; exact g3, g4, g5, g6.mono sb⟩
  · rcases get_set g1 with ⟨e, e2⟩ | ⟨e, e2⟩
    · cases e2
    · rcases get_set g2 with ⟨f, f2⟩ | ⟨f, f2⟩
      · cases f2
      · exact st.env.uni j k _ _ q e2 f2 g3 g4
  · rcases get_set h with ⟨e, e2⟩ | ⟨e, e2⟩
    · cases e2
    · obtain ⟨p2, ps, g1, g2, g3, g4⟩ := st.env.two j yss e2
      obtain ⟨n1, n2⟩ := g3 i xs p he h1
      obtain ⟨k1, k2, k3, k4, k5, k6, k7, k8⟩ := g2
      refine ⟨p2, ps, g1, ⟨k1, by rw [upd_ne (Ne.symm n1)]; exact k2, k3, k4, k5, k6, k7, fun m q hm => ?_⟩, fun m zs q hm hq => ?_, fun m zss hm => ?_⟩
      · obtain ⟨f1, f2, f3, us, zs, f4, f5, f6⟩ := k8 m q hm
        have : q ≠ p := fun z => n2 (z ▸ List.mem_iff_getElem?.mpr ⟨m, hm⟩)
        exact ⟨f1, by rw [upd_ne this]; exact f2, f3, us, zs, f4, f5, f6.mono sb⟩
      · rcases get_set hm with ⟨f, f2⟩ | ⟨_, f2⟩
        · cases f2
        · exact g3 m zs q f2 hq
      · rcases get_set hm with ⟨f, f2⟩ | ⟨_, f2⟩
        · cases f2
        · exact g4 m zss f2
  · rcases get_set h with ⟨e, e2⟩ | ⟨e, e2⟩
    · cases e2
    · exact ⟨e2, rfl⟩
end
def gFrz (i : Nat) (g : Env → Out) : Env → Out := fun es => match es[i]? with
  | some (.own xs) => g (es.set i (.val (.lst xs)))
  | _ => g es
section
variable {X : Cx} {T : Tb} {W : WX} {st : Stmt} {g : Env → Out}
theorem ds_frz (i : Nat) (h : DS X T W st g) : DS X T W st (gFrz i g) := fun F0 H0 => ps_weak (h F0 H0) fun D σ H ⟨F, es, s, q⟩ => by
  unfold gFrz at q
  split at q
  · rename_i xs he
    obtain ⟨F', sb, s'⟩ := s.frzOwn he
    exact ⟨F', _, s', q.sub sb⟩
  · exact ⟨F, es, s, q⟩
end
/-! ### tuple * int -/
theorem tuple_mul1 (l : Addr) (items : Array Value) (n : Nat) (dd : Option Addr) (sl : Array (Option Value)) (u : Tok) :
    Meets (Builtin.«tuple.__mul__» ⟨[.ref l, .int 1 u], []⟩) (fun _ R s => s.heap.get? l = some { cls := .type "tuple", dict := dd, data := .seq items n, slots := sl } ∧ R (.ok (.ret (Value.ref l))) s) :=
  .of_wp fun prog w A R s h => by
    obtain ⟨hp, g, d, tk, os⟩ := s
    obtain ⟨hl, h⟩ := h
    have f1 := AutoSeq1.idx_int
    wp_walk using wpAny_loadPart' hl
    repeat (first
      | (refine wpAny_ite_false (by decide) ?_; wp_walk using wpAny_loadPart' hl)
      | (refine wpAny_ite_true (by simp) ?_; wp_walk using wpAny_loadPart' hl))
    exact ⟨_, rfl, h⟩
def rRepT1 (K : PySem.W.Frag) : R2 := fun x y H Q => ∃ l xs, x = .ref l ∧ y = .int 1 ∧ SqT K H l xs ∧ Q (.ref l) H
section
variable {X : Cx}
theorem op_repT1 : OpR X (binaryOp .Mult) (rRepT1 X.K) := by
  intro pins s σ H x y v u Q I rx ry h
  obtain ⟨l, xs, rfl, rfl, hT, q⟩ := h
  cases rx
  obtain ⟨t, rfl⟩ := ry
  obtain ⟨its, r, ⟨⟨cls, dd, data, sl⟩, ho, hc, n, hd⟩, hs⟩ := I.tuple hT
  simp only at hc hd
  subst hc hd
  refine wpAny_binaryOp_repeat_ref (T := "tuple") (U := "int") (by decide) ⟨_, ho, rfl⟩ (fun s' => typeIs_int s' 1 t) noFill_tuple_mul F.fills_int_mul F.slot_int_rmul repeat_tuple F.slot_int_index.lookup
    (call_meets F.slot_int_rmul (typeIs_int s 1 t) F.entry_int_rmul (F.args_int_rmul_2 _ _) (int_rmul_tuple 1 t l its.toArray n dd sl)
      ⟨ho, rfl, ⟨_, ho, rfl⟩, call_meets F.slot_tuple_mul ⟨_, ho, rfl⟩ F.entry_tuple_mul (F.args_tuple_mul_2 _ _) (tuple_mul1 l its.toArray n dd sl t) ⟨ho, ?_⟩⟩)
  exact ⟨.ref l, H, I, rfl, q⟩
end
def dMulT : R → R → Option R
  | .val (.tup xs), .val (.int n) => if n = 1 then some (.val (.tup xs)) else if xs ≠ [] ∧ 2 ≤ n ∧ n ≤ 1000 ∧ xs.length ≤ 1000 then some (.val (.tup (List.replicate n.toNat xs).flatten)) else none
  | _, _ => none
def rMulT (K : PySem.W.Frag) : R2 := fun x y H Q => rRepT K x y H Q ∨ rRepT1 K x y H Q
theorem op_mulT {X : Cx} : OpR X (binaryOp .Mult) (rMulT X.K) := OpR.or op_repT op_repT1
theorem RpL.rep {K : PySem.W.Frag} {H : Hp} {ds : List D} {vs : List V} (h : RpL K H ds vs) : ∀ n : Nat, RpL K H (List.replicate n ds).flatten (List.replicate n vs).flatten
  | 0 => RpL.nil
  | n + 1 => by rw [List.replicate_succ, List.replicate_succ, List.flatten_cons, List.flatten_cons]; exact h.app (h.rep n)
theorem od_mulT {K : PySem.W.Frag} {T : Tb} : OpD K T (rMulT K) dMulT := fun H0 F H x y a b c Q ok up q1 q2 h k => by
  unfold dMulT at h
  split at h
  · rename_i xs n
    have e2 := rq_int q2
    subst e2
    rw [Rq, Rp] at q1
    obtain ⟨l, vs, rfl, h1, h2⟩ := q1
    split at h
    · rename_i hn
      cases h
      subst hn
      exact .inr ⟨l, vs, rfl, rfl, ok.sub.t h1, k _ F H (Le.refl ok) (by rw [Rr, Rp]; exact ⟨l, vs, rfl, h1, h2⟩)⟩
    · split at h
      · rename_i hn
        cases h
        refine .inl ⟨l, n, vs, rfl, rfl, ok.sub.t h1, ?_, hn.2.1, hn.2.2.1, by rw [← h2.len]; exact hn.2.2.2, fun p hp => ?_⟩
        · intro z
          subst z
          have := h2.len
          exact hn.1 (List.eq_nil_of_length_eq_zero this)
        · exact k _ _ _ (Le.new ok hp) (rp_tup (ok.nf hp) (h2.rep n.toNat))
      · cases h
  · cases h
/-! ### comprehensions of two clauses -/
theorem walk_gen {J : It} {n : Nat} {G : Hp → Prop} {Y : Nat → Hp → V → Hp → Prop} (w : Walk J n G Y) {B : (Hp → Prop) → V → Hp → Hp → Prop} {Hs : Hp} {Qd : Hp → Prop} (Pv : Nat → Hp → Prop) (h0 : Pv 0 Hs) (hG : ∀ i H, i ≤ n → Pv i H → G H)
    (hs : ∀ i x H H', i < n → Pv i H → Y i H x H' → B (Pv (i + 1)) x H H') (hd : ∀ H, Pv n H → Qd H) :
    ∃ W : Nat → Nat → Hp → Prop, (∃ m, W 0 m Hs) ∧ ∀ i m H, W i m H →
      (J.stop i H ∧ Qd H) ∨ (J.go i H ∧ ∃ Nx : Hp → Prop, (∀ H', Nx H' → ∃ m', m' < m ∧ W (i + 1) m' H') ∧ ∀ x H', J.yld i H x H' → B Nx x H H') := by
  refine ⟨fun i m H => m = n - i ∧ i ≤ n ∧ Pv i H, ⟨n, by simp, Nat.zero_le _, h0⟩, ?_⟩
  rintro i m H ⟨rfl, hi, p⟩
  have q := hG i H hi p
  by_cases hlt : i < n
  · exact .inr ⟨w.goes i H hlt q, Pv (i + 1), fun H' p' => ⟨n - (i + 1), by omega, rfl, hlt, p'⟩, fun x H' y => hs i x H H' hlt p (w.yields i H x H' hlt q y)⟩
  · have e : i = n := by omega
    subst e
    exact .inl ⟨w.stops H q, hd H p⟩
def noOwnS : Sl → Bool
  | .own _ => false
  | .own2 _ => false
  | _ => true
theorem noOwn_at {es : Env} (h : es.all noOwnS = true) {j : Nat} {s : Sl} (e : es[j]? = some s) : noOwnS s = true := List.all_eq_true.mp h s (List.mem_iff_getElem?.mpr ⟨j, e⟩)
theorem noOwn_has2 {es : Env} (h : es.all noOwnS = true) : has2 es = false := by
  cases e : has2 es with
  | false => rfl
  | true =>
    obtain ⟨s, hs, h2⟩ := List.any_eq_true.mp e
    have := List.all_eq_true.mp h s hs
    cases s <;> simp_all [noOwnS]
def lcL2 (tg : Tg) (src1 : Env → O (List R)) (vs1 : List Nat) (tg1 : Tg) (elt : Env → O R) (es : Env) : List R → O (List D)
  | [] => .ok []
  | x :: xs => match stTg tg x es with
    | none => .no
    | some e1 => if e1.all noOwnS = true then (noX (src1 e1)).bind fun ys => (noX (lcL tg1 fYes elt (wipeE e1 vs1) ys)).bind fun ds => (lcL2 tg src1 vs1 tg1 elt es xs).bind fun r => .ok (ds ++ r) else .no
def fLc2 (src : Env → O (List R)) (vs : List Nat) (tg : Tg) (src1 : Env → O (List R)) (vs1 : List Nat) (tg1 : Tg) (elt : Env → O R) : Env → O R := fun es => (src es).bind fun xs => (noX (lcL2 tg src1 vs1 tg1 elt (wipeE es vs) xs)).bind fun ds => if ds.length ≤ 90000 then .ok (.new ds) else .no
section
variable {X : Cx} {T : Tb} {W : WX}
theorem lc2_weak {K : PySem.W.Frag} {src src1 : Env → O (List R)} {vs vs1 : List Nat} {tg tg1 : Tg} {elt : Env → O R} {σ : L2.St} {H : Hp} {Q : VK} (hvs : ∀ i ∈ tg.at, i ∈ vs) (hvs1 : ∀ i ∈ tg1.at, i ∈ vs1) (h : tD K T W (fLc2 src vs tg src1 vs1 tg1 elt) σ H Q) :
    tLc2 (tI false K T W src) (tgOf K tg) (tT K T W0 fYes) (tI true K T W0 src1) (tgOf K tg1) (tT K T W0 fYes) (tD K T W0 elt) vs vs1 σ H Q := by
  obtain ⟨F0, H0, F, es, st, h⟩ := h
  unfold fLc2 at h
  refine ⟨F0, H0, F, es, st, ?_⟩
  cases hs : src es with
  | no => rw [hs] at h; exact h
  | exc c fs => rw [hs] at h; exact h
  | ok xs =>
    rw [hs] at h
    intro J F1 H1 l1 ⟨G, Y, w, hG, hY⟩ Dl hD
    rw [O.bind_ok] at h
    cases hds : lcL2 tg src1 vs1 tg1 elt (wipeE es vs) xs with
    | no => rw [hds] at h; exact h.elim
    | exc c fs => rw [hds] at h; exact h.elim
    | ok ds =>
      rw [hds] at h
      simp only [noX, O.bind_ok] at h
      split at h
      · rename_i hlen
        have st1 := st.step l1
        have nT : Dl ∉ T := st1.ok.nt hD
        have h0D : H0 Dl = none := st1.h0 nT hD
        refine walk_gen w (fun i H2 => ∃ F2 ds1 ds2 vs2, Le T F1 H1 F2 H2 ∧ F2 Dl = none ∧ H2 Dl = some (.lst vs2) ∧ RpL K F2 ds1 vs2 ∧ lcL2 tg src1 vs1 tg1 elt (wipeE es vs) (xs.drop i) = .ok ds2 ∧ ds = ds1 ++ ds2)
          ⟨F1, [], ds, [], Le.newH st1.ok hD, st1.ok.nf hD, upd_same, RpL.nil, hds, rfl⟩ ?_ ?_ ?_
        · intro i H2 hi ⟨F2, ds1, ds2, vs2, l2, _⟩
          exact hG F2 H2 ⟨l2, st1.le.trans l2⟩
        · intro i x H2 H3 hi ⟨F2, ds1, ds2, vs2, l2, hF, hH, hr, hl, he⟩ hy
          obtain ⟨F3, r, hx, l3, q3⟩ := hY i H2 x H3 F2 hi ⟨l2, st1.le.trans l2⟩ hy
          have hdr : xs.drop i = r :: xs.drop (i + 1) := by
            have : i < xs.length := hi
            rw [List.drop_eq_getElem_cons this]
            rw [List.getElem?_eq_getElem this] at hx
            rw [Option.some.inj hx]
          rw [hdr] at hl
          simp only [lcL2] at hl
          have st3 : StOk K T F0 H0 F3 H3 (L2.wipe σ vs) (wipeE es vs) := ((st1.step l2).step l3).wipe vs
          cases h1 : stTg tg r (wipeE es vs) with
          | none => rw [h1] at hl; cases hl
          | some e1 =>
            rw [h1] at hl
            simp only at hl
            split at hl
            · rename_i hno
              refine tg_ok st3 q3 h1 fun σ' st' hw => ⟨?_, ?_⟩
              · rw [hw vs hvs]
                apply List.ext_getElem?
                intro j
                rw [wipe_get, wipe_get, wipe_length]
                split <;> rfl
              · refine ⟨F0, H0, F3, e1, st', ?_⟩
                intro b' F4 H4 l4 eb
                subst eb
                rw [if_pos rfl]
                have st4 := st'.step l4
                refine ⟨F0, H0, F4, e1, st4, ?_⟩
                cases hs1 : src1 e1 with
                | no => rw [hs1] at hl; cases hl
                | exc c fs => rw [hs1] at hl; cases hl
                | ok ys =>
                  rw [hs1] at hl
                  simp only [noX, O.bind_ok] at hl
                  cases hdi : lcL tg1 fYes elt (wipeE e1 vs1) ys with
                  | no => rw [hdi] at hl; cases hl
                  | exc c fs => rw [hdi] at hl; cases hl
                  | ok dsi =>
                    rw [hdi] at hl
                    simp only [noX, O.bind_ok] at hl
                    cases hrest : lcL2 tg src1 vs1 tg1 elt (wipeE es vs) (xs.drop (i + 1)) with
                    | no => rw [hrest] at hl; cases hl
                    | exc c fs => rw [hrest] at hl; cases hl
                    | ok dsr =>
                      rw [hrest] at hl
                      cases hl
                      intro J1 F5 H5 l5 ⟨G1, Y1, w1, hG1, hY1⟩
                      have hF3 : F3 Dl = none := l3.n Dl hF (by rw [hH]; simp)
                      have hH3 : H3 Dl = some (.lst vs2) := l3.h Dl _ nT hH
                      have hF4 : F4 Dl = none := l4.n Dl hF3 (by rw [hH3]; simp)
                      have hH4 : H4 Dl = some (.lst vs2) := l4.h Dl _ nT hH3
                      have hF5 : F5 Dl = none := l5.n Dl hF4 (by rw [hH4]; simp)
                      have hH5 : H5 Dl = some (.lst vs2) := l5.h Dl _ nT hH4
                      refine walk_gen w1 (fun j H6 => ∃ F6 e1s e2s vs3, StOk K T F0 H0 F6 H6 σ' e1 ∧ Le T F1 H1 F6 H6 ∧ Sub F5 F6 ∧ F6 Dl = none ∧ H6 Dl = some (.lst vs3) ∧ RpL K F6 (ds1 ++ e1s) vs3 ∧ lcL tg1 fYes elt (wipeE e1 vs1) (ys.drop j) = .ok e2s ∧ dsi = e1s ++ e2s)
                        ⟨F5, [], dsi, vs2, st4.step l5, ((l2.trans l3).trans l4).trans l5, Sub.refl _, hF5, hH5, by rw [List.append_nil]; exact hr.mono ((l3.f.trans l4.f).trans l5.f), hdi, rfl⟩ ?_ ?_ ?_
                      · intro j H6 hj ⟨F6, e1s, e2s, vs3, st6, l6, lf, _⟩
                        exact hG1 F6 H6 ⟨lf, st6.le⟩
                      · intro j y H6 H7 hj ⟨F6, e1s, e2s, vs3, st6, l6, lf, hF6, hH6, hr6, hl6, he6⟩ hy1
                        obtain ⟨F7, r1, hx1, l7, q7⟩ := hY1 j H6 y H7 F6 hj ⟨lf, st6.le⟩ hy1
                        have hdr1 : ys.drop j = r1 :: ys.drop (j + 1) := by
                          have : j < ys.length := hj
                          rw [List.drop_eq_getElem_cons this]
                          rw [List.getElem?_eq_getElem this] at hx1
                          rw [Option.some.inj hx1]
                        rw [hdr1] at hl6
                        simp only [lcL] at hl6
                        have st7 : StOk K T F0 H0 F7 H7 (L2.wipe σ' vs1) (wipeE e1 vs1) := (st6.step l7).wipe vs1
                        cases h7 : stTg tg1 r1 (wipeE e1 vs1) with
                        | none => rw [h7] at hl6; cases hl6
                        | some e7 =>
                          rw [h7] at hl6
                          simp only at hl6
                          refine tg_ok st7 q7 h7 fun σ7 st7' hw7 => ⟨?_, ?_⟩
                          · rw [hw7 vs1 hvs1]
                            apply List.ext_getElem?
                            intro j
                            rw [wipe_get, wipe_get, wipe_length]
                            split <;> rfl
                          · refine ⟨F0, H0, F7, e7, st7', ?_⟩
                            intro b8 F8 H8 l8 eb8
                            subst eb8
                            rw [if_pos rfl]
                            refine ⟨F0, H0, F8, e7, st7'.step l8, ?_⟩
                            simp only [fYes, noX, O.bind_ok, if_true] at hl6
                            cases hel : elt e7 with
                            | no => rw [hel] at hl6; cases hl6
                            | exc c fs => rw [hel] at hl6; cases hl6
                            | ok r2 =>
                              rw [hel] at hl6
                              simp only [noX, O.bind_ok] at hl6
                              intro u F9 H9 l9 q9
                              obtain ⟨F10, l10, _, q10⟩ := q9.fz l9
                              split at hl6
                              · cases hl6
                              · rename_i d hd
                                cases hrest1 : lcL tg1 fYes elt (wipeE e1 vs1) (ys.drop (j + 1)) with
                                | no => rw [hrest1] at hl6; cases hl6
                                | exc c fs => rw [hrest1] at hl6; cases hl6
                                | ok ds3 =>
                                  rw [hrest1] at hl6
                                  cases hl6
                                  have hF7 : F7 Dl = none := l7.n Dl hF6 (by rw [hH6]; simp)
                                  have hH7 : H7 Dl = some (.lst vs3) := l7.h Dl _ nT hH6
                                  have hF8 : F8 Dl = none := l8.n Dl hF7 (by rw [hH7]; simp)
                                  have hH8 : H8 Dl = some (.lst vs3) := l8.h Dl _ nT hH7
                                  have hF9 : F10 Dl = none := l10.n Dl hF8 (by rw [hH8]; simp)
                                  have hH9 : H9 Dl = some (.lst vs3) := l10.h Dl _ nT hH8
                                  have hsub : Sub F6 F10 := (l7.f.trans l8.f).trans l10.f
                                  have st9 : StOk K T F0 H0 F10 H9 σ' e1 := ((st6.step l7).step l8).step l10
                                  have ll : vs3.length = ds1.length + e1s.length := by rw [← hr6.len, List.length_append]
                                  refine ⟨vs3, hH9, szl ?_, F10, e1s ++ [d], ds3, vs3 ++ [u], st9.mutFree h0D hF9 nT (noOwn_has2 hno) (fun j xs a hj _ => by have := noOwn_at hno hj; cases this) (fun us z => by rw [hH9] at z; cases z), (((l6.trans l7).trans l8).trans l10).mut hD hF9 nT, lf.trans hsub, hF9, upd_same, ?_, rfl, by rw [he6]; simp⟩
                                  · rw [he, he6] at hlen
                                    simp only [List.length_append, List.length_cons] at hlen
                                    omega
                                  · rw [← List.append_assoc]
                                    exact (hr6.mono hsub).app (RpL.cons (q10.sto hd) RpL.nil)
                      · intro H6 ⟨F6, e1s, e2s, vs3, st6, l6, lf, hF6, hH6, hr6, hl6, he6⟩
                        have e0 : ys.drop ys.length = [] := List.drop_length
                        rw [e0] at hl6
                        cases hl6
                        have e1 : dsi = e1s := by rw [he6]; simp
                        subst e1
                        exact ⟨F6, ds1 ++ dsi, dsr, vs3, l6, hF6, hH6, hr6, rfl, by rw [he, List.append_assoc]⟩
            · cases hl
        · intro H2 ⟨F2, ds1, ds2, vs2, l2, hF, hH, hr, hl, he⟩
          have e0 : xs.drop xs.length = [] := List.drop_length
          rw [e0] at hl
          cases hl
          have e1 : ds = ds1 := by rw [he]; simp
          subst e1
          exact h (.ref Dl) F2 H2 (l1.trans l2) (Rr.back l1 ⟨Dl, vs2, rfl, hD, hF, nT, hH, hr⟩)
      · exact h.elim
theorem dts_yes : DTs X T [] fYes := dts_nil
theorem de_lc2 {elt tg iter tg1 iter1 : Expr} {scope : Scope} {own : List (Str × Nat)} {vs1 : List Nat} {pos : Pos} {src src1 : Env → O (List R)} {t t1 : Tg} {fe : Env → O R} (hN : X.N.Nodup) (hi : DI false X T W tg iter src) (ok : BlkOk X.N X.env.scope scope own)
    (hg : ∀ (s : Shared) (H : Hp) (C : Addr) (cl : List (Str × Addr)) (fp : List Addr), PG (X.blk s H scope (compEnvC scope cl C X.env) fp) tg (tgOf X.K t))
    (hi1 : ∀ (s : Shared) (H : Hp) (C : Addr) (cl : List (Str × Addr)) (fp : List Addr), DI true (X.blk s H scope (compEnvC scope cl C X.env) fp) T W0 tg1 iter1 src1)
    (hg1 : ∀ (s : Shared) (H : Hp) (C : Addr) (cl : List (Str × Addr)) (fp : List Addr), PG (X.blk s H scope (compEnvC scope cl C X.env) fp) tg1 (tgOf X.K t1))
    (he : ∀ (s : Shared) (H : Hp) (C : Addr) (cl : List (Str × Addr)) (fp : List Addr), DE (X.blk s H scope (compEnvC scope cl C X.env) fp) T W0 elt fe) (hc : X.calm = true := by rfl) (hs : ∀ x, foldedSetIterable iter X.env x = pure x := by intro _; rfl) (hs1 : ∀ env x, foldedSetIterable iter1 env x = pure x := by intro _ _; rfl)
    (hvs : ∀ i ∈ t.at, i ∈ own.map (·.2) := by decide) (hvs1 : ∀ i ∈ t1.at, i ∈ vs1 := by decide) (hv : ∀ i ∈ vs1, i ∈ own.map (·.2) := by decide) :
    DE X T W (.ListComp elt [⟨tg, iter, [], 0⟩, ⟨tg1, iter1, [], 0⟩] scope pos) (fLc2 src (own.map (·.2)) t src1 vs1 t1 fe) :=
  pe_weak (pe_lc2 (wi1 := tI true X.K T W0 src1) (tt := tT X.K T W0 fYes) (tt1 := tT X.K T W0 fYes) (te := tD X.K T W0 fe) hc hN hi ok hv hg (fun s H C cl fp => dts_yes) (fun s H C cl fp => hi1 s H C cl fp) hg1 (fun s H C cl fp => dts_yes) (fun s H C cl fp => he s H C cl fp) hs hs1) fun σ H Q h => lc2_weak hvs hvs1 h
theorem ds_setLc2 {i : Nat} {fz : Bool} {y : Str} {py : Pos} {elt tg iter tg1 iter1 : Expr} {scope : Scope} {own : List (Str × Nat)} {vs1 : List Nat} {pos spos : Pos} {src src1 : Env → O (List R)} {t t1 : Tg} {fe : Env → O R} (hN : X.N.Nodup) (hi : DI false X T W tg iter src) (ok : BlkOk X.N X.env.scope scope own)
    (hg : ∀ (s : Shared) (H : Hp) (C : Addr) (cl : List (Str × Addr)) (fp : List Addr), PG (X.blk s H scope (compEnvC scope cl C X.env) fp) tg (tgOf X.K t))
    (hi1 : ∀ (s : Shared) (H : Hp) (C : Addr) (cl : List (Str × Addr)) (fp : List Addr), DI true (X.blk s H scope (compEnvC scope cl C X.env) fp) T W0 tg1 iter1 src1)
    (hg1 : ∀ (s : Shared) (H : Hp) (C : Addr) (cl : List (Str × Addr)) (fp : List Addr), PG (X.blk s H scope (compEnvC scope cl C X.env) fp) tg1 (tgOf X.K t1))
    (he : ∀ (s : Shared) (H : Hp) (C : Addr) (cl : List (Str × Addr)) (fp : List Addr), DE (X.blk s H scope (compEnvC scope cl C X.env) fp) T W0 elt fe)
    (hy : X.N[i]? = some y := by rfl) (hyl : X.env.scope.names.lookup y = some .local := by rfl) (hsw : swapsWith (.ListComp elt [⟨tg, iter, [], 0⟩, ⟨tg1, iter1, [], 0⟩] scope pos) (some (.Name y py)) spos.line X.env = pure true := by exact sw_true rfl rfl rfl (by decide +kernel))
    (hc : X.calm = true := by rfl) (hs : ∀ x, foldedSetIterable iter X.env x = pure x := by intro _; rfl) (hs1 : ∀ env x, foldedSetIterable iter1 env x = pure x := by intro _ _; rfl)
    (hvs : ∀ i ∈ t.at, i ∈ own.map (·.2) := by decide) (hvs1 : ∀ i ∈ t1.at, i ∈ vs1 := by decide) (hv : ∀ i ∈ vs1, i ∈ own.map (·.2) := by decide) :
    DS X T W (.Assign [.Name y py] (.ListComp elt [⟨tg, iter, [], 0⟩, ⟨tg1, iter1, [], 0⟩] scope pos) spos) (gSet i fz (fLc2 src (own.map (·.2)) t src1 vs1 t1 fe)) := fun F0 H0 =>
  ps_weak (ps_setLc2 (wi1 := tI true X.K T W0 src1) (tt := tT X.K T W0 fYes) (tt1 := tT X.K T W0 fYes) (te := tD X.K T W0 fe) hc hN hy hyl hsw hi ok hv hg (fun s H C cl fp => dts_yes) (fun s H C cl fp => hi1 s H C cl fp) hg1 (fun s H C cl fp => dts_yes) (fun s H C cl fp => he s H C cl fp) hs hs1) fun D σ H q => by
    have z := set_weak q
    show tLc2 _ _ _ _ _ _ _ _ _ _ _ _
    exact lc2_weak hvs hvs1 z
end
end Fw
namespace Fw
open PySem PySem.Spec PyProof.Rows L2
/-! ### sorted(xs), texts, any number of them -/
def rSortedSA (K : PySem.W.Frag) : List V → Hp → VK → Prop := fun vs H Q => ∃ (a : Addr) (xs : List Str), vs = [V.ref a] ∧ SqL K H a (xs.map V.str) ∧ xs.length ≤ 100000 ∧
  ∀ (ys : List Str) (p : Addr), ys.Perm xs → sortedS ys = true → H p = none → Q (.ref p) (upd H p (.lst (ys.map V.str)))
section
variable {X : Cx} {K : PySem.W.Frag} {T : Tb}
theorem cr_sortedSA : CallR X (.builtin "sorted") (rSortedSA X.K) := by
  intro pins s σ H vs us Q I r h
  obtain ⟨a, xs, rfl, hs, hn, q⟩ := h
  obtain ⟨its, rv, hl, hz⟩ := I.list hs
  rw [Vals.ref1 r]
  refine PyProof.Rows.sorted_strsAny hl.isList rv.strs (by rw [← rv.length]; exact hz) fun out ys h1 h2 h3 => ?_
  obtain ⟨ep, he'⟩ := PyProof.Rows.sortedAll_at s.heap its out
  have hlen : (ys.map V.str).length ≤ sizeLine := by rw [List.length_map, h2.length_eq]; exact sz hn
  exact ⟨.ref _, upd H (s.heap.objs.size + 1) (.lst (ys.map V.str)), I.laid (t' := s.toks) (fun _ _ => PyProof.Rows.sortedAll_old) (Nat.le_succ _) ⟨hlen, out.toList, ep, vals_of_strs h1, he'⟩, rfl, q ys _ h2 h3 (I.hok.fresh (Nat.le_succ _))⟩
def dSortedN : List R → Option R
  | [r] => if isLst r.dat then (match itmD r.dat with
    | some xs => match strsOf xs with
      | some ss => if ss.length ≤ 90000 then some (.new ((sortS ss).map .str)) else none
      | none => none
    | none => none) else none
  | _ => none
theorem cd_sortedN : CallD K T (rSortedSA K) dSortedN := fun H0 F H vs rs c Q ok up q h k => by
  unfold dSortedN at h
  split at h
  · rename_i r
    split at h
    · rename_i hl
      obtain ⟨v, rfl, q1⟩ := rql1 q
      have z := q1.toH ok up
      split at h
      · rename_i xs e
        obtain ⟨p, vs, rfl, h1, h2⟩ := lst_rp hl z e
        split at h
        · rename_i ss es
          split at h
          · rename_i hn
            cases h
            rw [strs_rp h2 es] at h1
            refine ⟨p, ss.map tx, rfl, h1, by simp; omega, fun ys l hp hs hl => ?_⟩
            rw [sortS_uniq hp hs]
            exact k _ F _ (Le.newH ok hl) (rr_lst ok hl (rpl_strs _))
          · cases h
        · cases h
      · cases h
    · cases h
  · cases h
end
end Fw
namespace Fw
open PySem PySem.Spec PyProof.Rows L2
/-! ### dicts by keys and values -/
instance decDK : DecidableEq DK := fun a b => match a, b with
  | .inl i, .inl j => if h : i = j then isTrue (by rw [h]) else isFalse fun z => h (Sum.inl.inj z)
  | .inr s, .inr t => if h : s = t then isTrue (by rw [h]) else isFalse fun z => h (Sum.inr.inj z)
  | .inl _, .inr _ => isFalse fun z => by cases z
  | .inr _, .inl _ => isFalse fun z => by cases z
theorem kyOf_inj {a b : DK} (h : kyOf a = kyOf b) : a = b := by
  cases a <;> cases b <;> simp [kyOf] at h
  · rw [h]
  · rw [tx_inj h]
def kGet : List DK → List D → DK → Option D
  | k' :: ks, d :: ds, k => if k' = k then some d else kGet ks ds k
  | _, _, _ => none
def kHas : List DK → DK → Bool
  | [], _ => false
  | k' :: ks, k => decide (k' = k) || kHas ks k
/-- the values with that of k changed -/
def kRep : List DK → List D → DK → D → List D
  | k' :: ks, d :: ds, k, x => (if k' = k then x else d) :: kRep ks ds k x
  | _, ds, _, _ => ds
def kPutK (ks : List DK) (k : DK) : List DK := if kHas ks k = true then ks else ks ++ [k]
def kPutD (ks : List DK) (ds : List D) (k : DK) (x : D) : List D := if kHas ks k = true then kRep ks ds k x else ds ++ [x]
def keyD : D → Option DK
  | .int i => some (.inl i)
  | .str s => some (.inr s)
  | _ => none
def dOfK : DK → D
  | .inl i => .int i
  | .inr s => .str s
theorem kRep_len : ∀ (ks : List DK) (ds : List D) (k : DK) (x : D), (kRep ks ds k x).length = ds.length
  | [], ds, k, x => by cases ds <;> rfl
  | _ :: _, [], k, x => rfl
  | k' :: ks, d :: ds, k, x => by simp [kRep, kRep_len ks ds k x]
section
variable {K : PySem.W.Frag} {T : Tb} {F0 H0 F H F' H' : Hp} {σ : L2.St} {es : Env}
theorem key_rp {d : D} {k : DK} {v : V} (e : keyD d = some k) (h : Rp K H d v) : v = kV (kyOf k) := by
  cases d <;> simp only [keyD] at e <;> cases e <;> (rw [Rp] at h; subst h; rfl)
theorem key_dat {r : R} {k : DK} (e : keyD r.dat = some k) : ∃ d, r = .val d ∨ r = .brw d := by
  cases r <;> simp_all [R.dat, keyD]
theorem dOfK_rp (k : DK) : Rp K H (dOfK k) (kV (kyOf k)) := by
  cases k <;> (simp only [dOfK]; rw [Rp]; rfl)
theorem kGet_zip : ∀ {ks : List DK} {ds : List D} {vs : List V} {k : DK}, RpL K H ds vs → ks.length = ds.length →
    (∀ d, kGet ks ds k = some d → ∃ v, valV ((ks.map kyOf).zip vs) (kyOf k) = some v ∧ Rp K H d v) ∧ (kGet ks ds k = none → valV ((ks.map kyOf).zip vs) (kyOf k) = none)
  | [], ds, vs, k, h, hl => ⟨fun d e => by (cases ds with | nil => cases e | cons a b => cases e), fun _ => by simp [valV]⟩
  | k' :: ks, [], vs, k, h, hl => by simp at hl
  | k' :: ks, d' :: ds, vs, k, h, hl => by
    rw [RpL] at h
    obtain ⟨v, r, rfl, h2, h3⟩ := h
    obtain ⟨i1, i2⟩ := kGet_zip (k := k) h3 (by simpa using hl)
    by_cases e : k' = k
    · subst e
      refine ⟨fun d z => ?_, fun z => ?_⟩
      · rw [kGet, if_pos rfl] at z
        cases z
        exact ⟨v, valV_pos (p := (kyOf k', v)) rfl, h2⟩
      · rw [kGet, if_pos rfl] at z; cases z
    · have ne : ¬ kyOf k' = kyOf k := fun z => e (kyOf_inj z)
      refine ⟨fun d z => ?_, fun z => ?_⟩
      · rw [kGet, if_neg e] at z
        obtain ⟨u, g1, g2⟩ := i1 d z
        exact ⟨u, by rw [List.map_cons, List.zip_cons_cons, valV_neg (p := (kyOf k', v)) ne]; exact g1, g2⟩
      · rw [kGet, if_neg e] at z
        rw [List.map_cons, List.zip_cons_cons, valV_neg (p := (kyOf k', v)) ne]; exact i2 z
theorem kAny_zip : ∀ {ks : List DK} {vs : List V} {k : DK}, ks.length = vs.length → ((((ks.map kyOf).zip vs).any fun kv => decide (kv.1 = kyOf k)) = kHas ks k)
  | [], vs, k, _ => by simp [kHas]
  | k' :: ks, [], k, h => by simp at h
  | k' :: ks, v :: vs, k, h => by
    rw [List.map_cons, List.zip_cons_cons, List.any_cons, kAny_zip (by simpa using h), kHas]
    by_cases e : k' = k
    · subst e; simp
    · have ne : ¬ kyOf k' = kyOf k := fun z => e (kyOf_inj z)
      simp [ne, e]
theorem kRep_zip : ∀ {ks : List DK} {ds : List D} {vs : List V} {k : DK} {x : D} {u : V}, RpL K H ds vs → ks.length = ds.length → Rp K H x u →
    ∃ vs', (((ks.map kyOf).zip vs).map fun kv => if kv.1 = kyOf k then (kv.1, u) else kv) = (ks.map kyOf).zip vs' ∧ RpL K H (kRep ks ds k x) vs'
  | [], ds, vs, k, x, u, h, hl, hx => ⟨vs, by simp, by cases ds <;> exact h⟩
  | k' :: ks, [], vs, k, x, u, h, hl, hx => by simp at hl
  | k' :: ks, d :: ds, vs, k, x, u, h, hl, hx => by
    rw [RpL] at h
    obtain ⟨v, r, rfl, h2, h3⟩ := h
    obtain ⟨vs', e1, e2⟩ := kRep_zip (k := k) h3 (by simpa using hl) hx
    by_cases e : k' = k
    · subst e
      refine ⟨u :: vs', ?_, ?_⟩
      · rw [List.map_cons, List.zip_cons_cons, List.map_cons, e1]; simp
      · rw [kRep, if_pos rfl]; exact RpL.cons hx e2
    · have ne : ¬ kyOf k' = kyOf k := fun z => e (kyOf_inj z)
      refine ⟨v :: vs', ?_, ?_⟩
      · rw [List.map_cons, List.zip_cons_cons, List.map_cons, e1]; simp [ne]
      · rw [kRep, if_neg e]; exact RpL.cons h2 e2
theorem kPut_zip {ks : List DK} {ds : List D} {vs : List V} {k : DK} {x : D} {u : V} (h : RpL K H ds vs) (hl : ks.length = ds.length) (hx : Rp K H x u) :
    ∃ vs', putK ((ks.map kyOf).zip vs) (kyOf k) u = ((kPutK ks k).map kyOf).zip vs' ∧ RpL K H (kPutD ks ds k x) vs' ∧ (kPutK ks k).length = (kPutD ks ds k x).length := by
  have lv : ks.length = vs.length := by rw [hl, h.len]
  unfold putK kPutK kPutD
  rw [kAny_zip lv]
  by_cases e : kHas ks k = true
  · obtain ⟨vs', e1, e2⟩ := kRep_zip (k := k) h hl hx
    rw [if_pos e, if_pos e, if_pos e]
    exact ⟨vs', e1, e2, by rw [kRep_len]; exact hl⟩
  · rw [if_neg e, if_neg e, if_neg e]
    refine ⟨vs ++ [u], ?_, h.app (RpL.cons hx RpL.nil), by simp [hl]⟩
    rw [List.map_append, List.zip_append (by simpa using lv)]; rfl
/-! ### slots that hold a dict of one's own -/
/-- the free slot i holds a new dict -/
theorem StOk.toD {i : Nat} {p : Addr} {vs : List V} {ks : List DK} {ds : List D} (st : StOk K T F0 H0 F H σ es) (he : es[i]? = some .no) (hp : σ[i]? = some (some (.ref p))) (h0 : H0 p = none) (hf : F p = none) (ht : p ∉ T) (hH : H p = some (.dK ((ks.map kyOf).zip vs))) (hl : ks.length = ds.length) (r : RpL K F ds vs)
    (nu : ∀ (j : Nat) ks' ds', es[j]? = some (.odc ks' ds') → σ[j]? ≠ some (some (.ref p))) : StOk K T F0 H0 F H σ (es.set i (.odc ks ds)) := by
  refine ⟨st.ok0, st.le, ⟨by simpa using st.env.len, fun j d h => ?_, fun j d h => ?_, fun j xs h => ?_, fun j k xs ys q h1 h2 h3 h4 => ?_, fun j yss h => ?_, ⟨fun j ks' ds' h => ?_, fun j k ks1 ds1 ks2 ds2 q h1 h2 h3 h4 => ?_⟩⟩⟩
  · rcases get_set h with ⟨e, e2⟩ | ⟨e, e2⟩
    · cases e2
    · exact st.env.val j d e2
  · rcases get_set h with ⟨e, e2⟩ | ⟨e, e2⟩
    · cases e2
    · exact st.env.brw j d e2
  · rcases get_set h with ⟨e, e2⟩ | ⟨e, e2⟩
    · cases e2
    · exact st.env.own j xs e2
  · rcases get_set h1 with ⟨e, e2⟩ | ⟨e, e2⟩
    · cases e2
    · rcases get_set h2 with ⟨f, f2⟩ | ⟨f, f2⟩
      · cases f2
      · exact st.env.uni j k xs ys q e2 f2 h3 h4
  · rcases get_set h with ⟨e, e2⟩ | ⟨e, e2⟩
    · cases e2
    · obtain ⟨p2, ps, g1, g2, g3, g4⟩ := st.env.two j yss e2
      refine ⟨p2, ps, g1, g2, fun m zs q hm hq => ?_, fun m zss hm => ?_⟩
      · rcases get_set hm with ⟨f, f2⟩ | ⟨_, f2⟩
        · cases f2
        · exact g3 m zs q f2 hq
      · rcases get_set hm with ⟨f, f2⟩ | ⟨_, f2⟩
        · cases f2
        · exact g4 m zss f2
  · rcases get_set h with ⟨e, e2⟩ | ⟨e, e2⟩
    · cases e2
      subst e
      exact ⟨p, vs, hp, h0, hf, ht, hH, hl, r⟩
    · exact st.env.dic.1 j ks' ds' e2
  · rcases get_set h1 with ⟨e, e2⟩ | ⟨e, e2⟩
    · rcases get_set h2 with ⟨f, f2⟩ | ⟨f, f2⟩
      · rw [← e, ← f]
      · subst e
        rw [hp] at h3
        cases h3
        exact absurd h4 (nu k ks2 ds2 f2)
    · rcases get_set h2 with ⟨f, f2⟩ | ⟨f, f2⟩
      · subst f
        rw [hp] at h4
        cases h4
        exact absurd h3 (nu j ks1 ds1 e2)
      · exact st.env.dic.2 j k ks1 ds1 ks2 ds2 q e2 f2 h3 h4
/-- a new dict is stored in slot i -/
theorem StOk.setD {i : Nat} {p : Addr} {vs : List V} {ks : List DK} {ds : List D} (st : StOk K T F0 H0 F H σ es) (hi : i < es.length) (h0 : H0 p = none) (hf : F p = none) (ht : p ∉ T) (hH : H p = some (.dK ((ks.map kyOf).zip vs))) (hl : ks.length = ds.length) (r : RpL K F ds vs)
    (nu : ∀ (j : Nat) ks' ds', es[j]? = some (.odc ks' ds') → σ[j]? ≠ some (some (.ref p))) : StOk K T F0 H0 F H (σ.set i (some (.ref p))) (es.set i (.odc ks ds)) := by
  have s1 := st.set (i := i) (v := .ref p) (s := .no) True.intro
  have ln := st.env.len
  have s2 := s1.toD (i := i) (p := p) (ks := ks) (ds := ds) (by rw [List.getElem?_set_self hi]) (by rw [List.getElem?_set_self (by rw [ln]; exact hi)]) h0 hf ht hH hl r (fun j ks' ds' e => by
    rcases get_set e with ⟨f, f2⟩ | ⟨f, f2⟩
    · cases f2
    · rw [List.getElem?_set_ne f]; exact nu j ks' ds' f2)
  rw [List.set_set] at s2
  exact s2
/-- .. changes -/
theorem StOk.mutD {i : Nat} {p : Addr} {vs' : List V} {ks ks' : List DK} {ds ds' : List D} (st : StOk K T F0 H0 F H σ es) (he : es[i]? = some (.odc ks ds)) (hp : σ[i]? = some (some (.ref p))) (hl : ks'.length = ds'.length) (r : RpL K F ds' vs') :
    StOk K T F0 H0 F (upd H p (.dK ((ks'.map kyOf).zip vs'))) σ (es.set i (.odc ks' ds')) := by
  obtain ⟨p', vs, h1, h2, h3, h4, h5, h6, h7⟩ := st.env.dic.1 i ks ds he
  have e : p = p' := by rw [hp] at h1; cases h1; rfl
  subst e
  have hi : i < es.length := (List.getElem?_eq_some_iff.mp he).1
  have nl : ∀ {q : Addr} {us : List V}, H q = some (.lst us) → q ≠ p := fun {q us} e z => by subst z; rw [h5] at e; cases e
  refine ⟨st.ok0, st.le.mut h2 h3 h4, ⟨by simpa using st.env.len, fun j d h => ?_, fun j d h => ?_, fun j xs h => ?_, fun j k xs ys q g1 g2 g3 g4 => ?_, fun j yss h => ?_, ⟨fun j ks1 ds1 h => ?_, fun j k ks1 ds1 ks2 ds2 q g1 g2 g3 g4 => ?_⟩⟩⟩
  · rcases get_set h with ⟨e, e2⟩ | ⟨e, e2⟩
    · cases e2
    · exact st.env.val j d e2
  · rcases get_set h with ⟨e, e2⟩ | ⟨e, e2⟩
    · cases e2
    · exact st.env.brw j d e2
  · rcases get_set h with ⟨e, e2⟩ | ⟨e, e2⟩
    · cases e2
    · obtain ⟨q, us, g1, g2, g3, g4, g5, g6⟩ := st.env.own j xs e2
      exact ⟨q, us, g1, g2, g3, g4, by rw [upd_ne (nl g5)]; exact g5, g6⟩
  · rcases get_set g1 with ⟨e, e2⟩ | ⟨e, e2⟩
    · cases e2
    · rcases get_set g2 with ⟨f, f2⟩ | ⟨f, f2⟩
      · cases f2
      · exact st.env.uni j k xs ys q e2 f2 g3 g4
  · rcases get_set h with ⟨e, e2⟩ | ⟨e, e2⟩
    · cases e2
    · obtain ⟨p2, ps, g1, g2, g3, g4⟩ := st.env.two j yss e2
      obtain ⟨k1, k2, k3, k4, k5, k6, k7, k8⟩ := g2
      refine ⟨p2, ps, g1, ⟨k1, k2, k3, by rw [upd_ne (nl k4)]; exact k4, k5, k6, k7, fun m q hm => ?_⟩, fun m zs q hm hq => ?_, fun m zss hm => ?_⟩
      · obtain ⟨f1, f2, f3, us, zs, f4, f5, f6⟩ := k8 m q hm
        exact ⟨f1, f2, f3, us, zs, f4, by rw [upd_ne (nl f5)]; exact f5, f6⟩
      · rcases get_set hm with ⟨f, f2⟩ | ⟨_, f2⟩
        · cases f2
        · exact g3 m zs q f2 hq
      · rcases get_set hm with ⟨f, f2⟩ | ⟨_, f2⟩
        · cases f2
        · exact g4 m zss f2
  · rcases get_set h with ⟨e, e2⟩ | ⟨e, e2⟩
    · cases e2
      subst e
      exact ⟨p, vs', h1, h2, h3, h4, upd_same, hl, r⟩
    · obtain ⟨q, us, g1, g2, g3, g4, g5, g6, g7⟩ := st.env.dic.1 j ks1 ds1 e2
      have : q ≠ p := fun z => by
        subst z
        exact e (st.env.dic.2 i j ks ds ks1 ds1 q he e2 h1 g1)
      exact ⟨q, us, g1, g2, g3, g4, by rw [upd_ne this]; exact g5, g6, g7⟩
  · have w : ∀ {j : Nat} {ks1 : List DK} {ds1 : List D}, (es.set i (.odc ks' ds'))[j]? = some (.odc ks1 ds1) → ∃ a b, es[j]? = some (.odc a b) := fun {j ks1 ds1} h => by
      rcases get_set h with ⟨e, _⟩ | ⟨_, e2⟩
      · exact ⟨_, _, e ▸ he⟩
      · exact ⟨_, _, e2⟩
    obtain ⟨_, _, w1⟩ := w g1
    obtain ⟨_, _, w2⟩ := w g2
    exact st.env.dic.2 j k _ _ _ _ q w1 w2 g3 g4
end
section
variable {X : Cx} {T : Tb} {W : WX} {e i o k value : Expr} {f fk fv : Env → O R} {x : Str} {p1 p2 p3 pos pos' : Pos} {g : Env → Out} {st : Stmt}
/-! ### x = {} -/
def gNewD (i : Nat) : Env → Out := fun es => if i < es.length then .nx (es.set i (.odc [] [])) else .no
theorem ds_newD {i : Nat} {pd : Pos} (hN : X.N.Nodup) (hi : X.N[i]? = some x := by rfl) (hx : Loc X.env.scope x := by first | exact Or.inl rfl | exact Or.inr rfl) (hs : swapsWith (.Dict [] [] pd) (some (.Name x pos')) pos.line X.env = pure false := by rfl)
    (hf : X.fn x = true ∨ X.env.scope.names.lookup x = some .local := by first | exact .inl rfl | exact .inr rfl) : DS X T W (.Assign [.Name x pos'] (.Dict [] [] pd) pos) (gNewD i) := fun F0 H0 => ps_weak (ps_set hN hi hx pe_dnewK hs hf) fun D σ H ⟨F, es, st, q⟩ => by
  unfold gNewD at q
  split at q
  · rename_i hlt
    show tDNewK σ H _
    intro p hp
    have l := Le.newH st.ok (o := .dK []) hp
    have st2 := st.step l
    refine q _ F _ (Sub.refl _) (st2.setD (ks := []) (ds := []) (vs := []) hlt (st.h0 (st.ok.nt hp) hp) (st.ok.nf hp) (st.ok.nt hp) upd_same rfl RpL.nil fun j ks' ds' e z => ?_)
    obtain ⟨q2, us, g1, g2, g3, g4, g5, _⟩ := st.env.dic.1 j ks' ds' e
    rw [g1] at z
    cases z
    rw [hp] at g5; cases g5
  · exact q.elim
/-! ### x[k], k in x, len(x) -/
def fGetD (i : Nat) (fk : Env → O R) : Env → O R := fun es => match es[i]? with
  | some (.odc ks ds) => (fk es).bind fun r => match keyD r.fz.dat with
    | some k => O.of ((kGet ks ds k).map .val)
    | none => .no
  | _ => .no
theorem de_getD {i : Nat} (hu : X.A.units + 1 < cLine) (hk : DE X T W k fk) (hs : NoSl k := by intro _ _; rfl) (hN : X.N[i]? = some x := by rfl) (hv : Vis X.env.scope x := by first | exact Or.inl rfl | exact Or.inr (Or.inl rfl) | exact Or.inr (Or.inr rfl)) (hd : (x == ("__debug__" : Str)) = false := by decide)
    (hcd : (x == ("__classdict__" : Str)) = false := by decide) : DE X T W (.Subscript (.Name x p1) k pos) (fGetD i fk) :=
  pe_weak (pe_dget hu (pv i hN hv hd hcd) hk hs) fun σ H Q ⟨F0, H0, F, es, st, h⟩ => by
    unfold fGetD at h
    split at h
    · rename_i ks ds he
      obtain ⟨p, vs, g1, g2, g3, g4, g5, g6, g7⟩ := st.env.dic.1 i ks ds he
      refine ⟨.ref p, g1, F0, H0, F, es, st, pr_seq st h fun r v F1 H1 _ st1 l1 q1 h1 => ?_⟩
      split at h1
      · rename_i kk hkk
        cases hg : kGet ks ds kk with
        | none => rw [hg] at h1; exact h1.elim
        | some d =>
          rw [hg] at h1
          obtain ⟨u, e1, e2⟩ := (kGet_zip (k := kk) (g7.mono l1.f) g6).1 d hg
          have ev : v = kV (kyOf kk) := key_rp hkk (st1.rq q1)
          subst ev
          exact ⟨p, u, rfl, .inl ⟨_, _, .inl (l1.h p _ g4 g5), rfl, e1.symm⟩, h1 u F1 H1 (Le.refl st1.ok) e2⟩
      · exact h1.elim
    · exact h.elim
def fInD (neg : Bool) (fk : Env → O R) (i : Nat) : Env → O R := fun es => (fk es).bind fun r => match es[i]? with
  | some (.odc ks _) => match keyD r.fz.dat with
    | some k => .ok (.val (.bl (if neg then !kHas ks k else kHas ks k)))
    | none => .no
  | _ => .no
theorem kGet_some : ∀ {ks : List DK} {ds : List D} {k : DK}, ks.length = ds.length → (kGet ks ds k).isSome = kHas ks k
  | [], ds, k, _ => by (cases ds with | nil => simp [kGet, kHas] | cons a b => simp [kGet, kHas])
  | k' :: ks, [], k, h => by simp at h
  | k' :: ks, d :: ds, k, h => by
    by_cases e : k' = k
    · subst e; simp [kGet, kHas]
    · rw [kGet, if_neg e, kGet_some (by simpa using h), kHas]
      simp [e]
theorem kGet_o {K : PySem.W.Frag} {H : Hp} {ks : List DK} {ds : List D} {vs : List V} {k : DK} (r : RpL K H ds vs) (hl : ks.length = ds.length) : (valV ((ks.map kyOf).zip vs) (kyOf k)).isSome = kHas ks k := by
  rw [← kGet_some hl]
  obtain ⟨h1, h2⟩ := kGet_zip (k := k) r hl
  cases hg : kGet ks ds k with
  | none => rw [h2 hg]; rfl
  | some d =>
    obtain ⟨v, e, _⟩ := h1 d hg
    rw [e]; rfl
theorem inD_weak {K : PySem.W.Frag} {neg : Bool} {i : Nat} {σ : L2.St} {H : Hp} {Q : VK} (h : tD K T W (fInD neg fk i) σ H Q) : tD K T W fk σ H fun y H1 => tVar i σ H1 fun x H2 => ∃ a o, x = .ref a ∧ DGet H2 a y o ∧ Q (.bl (if neg then !o.isSome else o.isSome)) H2 := by
  obtain ⟨F0, H0, F, es, st, h⟩ := h
  refine ⟨F0, H0, F, es, st, pr_seq st h fun r v F1 H1 _ st1 l1 q1 h1 => ?_⟩
  split at h1
  · rename_i ks ds he
    obtain ⟨p, vs, g1, g2, g3, g4, g5, g6, g7⟩ := st1.env.dic.1 i ks ds he
    split at h1
    · rename_i kk hkk
      have ev : v = kV (kyOf kk) := key_rp hkk (st1.rq q1)
      subst ev
      refine ⟨.ref p, g1, p, valV ((ks.map kyOf).zip vs) (kyOf kk), rfl, .inl ⟨_, _, .inl g5, rfl, rfl⟩, ?_⟩
      rw [kGet_o g7 g6]
      exact h1 _ F1 H1 (Le.refl st1.ok) (by rw [Rr, Rp])
    · exact h1.elim
  · exact h1.elim
theorem de_inD (i : Nat) (hu : X.A.units + 1 < cLine) (hk : DE X T W k fk) (hN : X.N[i]? = some x := by rfl) (hv : Vis X.env.scope x := by first | exact Or.inl rfl | exact Or.inr (Or.inl rfl) | exact Or.inr (Or.inr rfl)) (hd : (x == ("__debug__" : Str)) = false := by decide)
    (hcd : (x == ("__classdict__" : Str)) = false := by decide) : DE X T W (.Compare k [.In] [.Name x p1] pos) (fInD false fk i) :=
  pe_weak (pe_cmp (pc_din hu hk (pv i hN hv hd hcd))) fun σ H Q h => inD_weak h
theorem dt_inD (i : Nat) (hu : X.A.units + 1 < cLine) (hk : DE X T W k fk) (hN : X.N[i]? = some x := by rfl) (hv : Vis X.env.scope x := by first | exact Or.inl rfl | exact Or.inr (Or.inl rfl) | exact Or.inr (Or.inr rfl)) (hd : (x == ("__debug__" : Str)) = false := by decide)
    (hcd : (x == ("__classdict__" : Str)) = false := by decide) : DT X T W (.Compare k [.In] [.Name x p1] pos) (fTest (fInD false fk i)) :=
  pt_weak (pt_cmp (pc_din hu hk (pv i hN hv hd hcd))) fun σ H Q h => by
    have q := test_weak (K := X.K) h
    unfold tTest at q
    exact inD_weak q
theorem dt_ninD (i : Nat) (hu : X.A.units + 1 < cLine) (hk : DE X T W k fk) (hN : X.N[i]? = some x := by rfl) (hv : Vis X.env.scope x := by first | exact Or.inl rfl | exact Or.inr (Or.inl rfl) | exact Or.inr (Or.inr rfl)) (hd : (x == ("__debug__" : Str)) = false := by decide)
    (hcd : (x == ("__classdict__" : Str)) = false := by decide) : DT X T W (.Compare k [.NotIn] [.Name x p1] pos) (fTest (fInD true fk i)) :=
  pt_weak (pt_cmp (pc_dnotin hu hk (pv i hN hv hd hcd))) fun σ H Q h => by
    have q := test_weak (K := X.K) h
    unfold tTest at q
    exact inD_weak q
/-! ### x[k] = v -/
def gPutD (i : Nat) (fk fv : Env → O R) : Env → Out := fun es => (fv es).out es fun v => match es[i]? with
  | some (.odc ks ds) => (fk es).out es fun r => match keyD r.fz.dat, v.fz.sto with
    | some k, some d => if ks.length < 90000 then .nx (es.set i (.odc (kPutK ks k) (kPutD ks ds k d))) else .no
    | _, _ => .no
  | _ => .no
theorem ds_putD {i : Nat} (hu : X.A.units + 1 < cLine) (hk : DE X T W k fk) (hv0 : DE X T W value fv) (hN : X.N[i]? = some x := by rfl) (hv : Vis X.env.scope x := by first | exact Or.inl rfl | exact Or.inr (Or.inl rfl) | exact Or.inr (Or.inr rfl)) (hd : (x == ("__debug__" : Str)) = false := by decide)
    (hcd : (x == ("__classdict__" : Str)) = false := by decide) (hs : swapsWith value (some (.Subscript (.Name x p1) k pos')) pos.line X.env = pure false := by rfl) : DS X T W (.Assign [.Subscript (.Name x p1) k pos'] value pos) (gPutD i fk fv) := fun F0 H0 =>
  ps_weak (ps_dput hu (pv i hN hv hd hcd) hk hv0 hs) fun D σ H ⟨F, es, st, q⟩ => by
    refine ⟨F0, H0, F, es, st, out_seq st q fun rv v F1 H1 _ st1 l1 q1 h1 => ?_⟩
    obtain ⟨F2, l2, s12, q2⟩ := q1.fz l1
    have st2 := st.step l2
    split at h1
    · rename_i ks ds he
      obtain ⟨p, vs, g1, g2, g3, g4, g5, g6, g7⟩ := st2.env.dic.1 i ks ds he
      refine ⟨.ref p, g1, F0, H0, F2, es, st2, out_seq st2 (h1.sub s12) fun rk y F3 H3 _ st3 l3 q3 h3 => ?_⟩
      split at h3
      · rename_i kk d hkk hd
        split at h3
        · rename_i hlt
          have st3' := st2.step l3
          have rv : Rp X.K F3 d v := (q2.sto hd).mono l3.f
          obtain ⟨F4, l4, s34, q4⟩ := q3.fz l3
          have st4 := st2.step l4
          have ev : y = kV (kyOf kk) := key_rp hkk (st4.rq q4)
          subst ev
          have g5' : H3 p = some (.dK ((ks.map kyOf).zip vs)) := l3.h p _ g4 g5
          have g7' := g7.mono l4.f
          obtain ⟨vs', e1, e2, e3⟩ := kPut_zip (k := kk) g7' g6 (rv.mono s34)
          have lz : ((ks.map kyOf).zip vs).length < sizeLine := by
            rw [List.length_zip, List.length_map]
            exact Nat.lt_of_le_of_lt (Nat.min_le_left _ _) (szl (by omega))
          refine ⟨p, _, rfl, .inl ⟨_, _, g5', rfl, lz, rfl⟩, ?_⟩
          rw [e1]
          exact h3 _ F4 _ s34 (st4.mutD he g1 e3 e2)
        · exact h3.elim
      · exact h3.elim
    · exact h1.elim
end
end Fw
namespace Fw
open PySem PySem.Spec PyProof.Rows L2
/-! ### zip of two lists -/
def zD : List D → List D → List R
  | a :: as, b :: bs => .val (.tup [a, b]) :: zD as bs
  | _, _ => []
theorem zD_len : ∀ (xs ys : List D), (zD xs ys).length = min xs.length ys.length
  | [], ys => by cases ys <;> simp [zD]
  | _ :: _, [] => by simp [zD]
  | a :: as, b :: bs => by simp [zD, zD_len as bs]
theorem zD_at : ∀ (xs ys : List D) (i : Nat) (a b : D), xs[i]? = some a → ys[i]? = some b → (zD xs ys)[i]? = some (.val (.tup [a, b]))
  | [], ys, i, a, b, h, _ => by simp at h
  | _ :: _, [], i, a, b, _, h => by simp at h
  | x :: xs, y :: ys, 0, a, b, h, h2 => by simp at h h2; subst h h2; simp [zD]
  | x :: xs, y :: ys, i + 1, a, b, h, h2 => by
    simp only [zD, List.getElem?_cons_succ]
    exact zD_at xs ys i a b (by simpa using h) (by simpa using h2)
def zArg : R → Option (List D)
  | .val (.lst xs) => some xs
  | .brw (.lst xs) => if xs.all flat then some xs else none
  | _ => none
def fZip (fr : Env → O (List R)) : Env → O (List R) := fun es => (fr es).bind fun rs => match rs with
  | [r, r'] => match zArg r, zArg r' with
    | some xs, some ys => .ok (zD xs ys)
    | _, _ => .no
  | _ => .no
section
variable {X : Cx} {T : Tb} {W : WX}
theorem zarg_ok {K : PySem.W.Frag} {F0 H0 F1 H1 : Hp} {σ : L2.St} {es : Env} {v : V} {r : R} {xs : List D} (st1 : StOk K T F0 H0 F1 H1 σ es) (q : Rq K T H0 F1 H1 v r) (e : zArg r = some xs) :
    ∃ a vs, v = .ref a ∧ SqL K H1 a vs ∧ xs.length = vs.length ∧ ∀ {fz : Bool} F2 H2, Sta T fz F0 H0 F1 H1 F2 H2 → SqL K H2 a vs ∧ RpL K F2 xs vs := by
  unfold zArg at e
  split at e
  · cases e
    rw [Rq, Rp] at q
    obtain ⟨a, vs, rfl, h2, h3⟩ := q
    exact ⟨a, vs, rfl, st1.ok.sub.l h2, h3.len, fun F2 H2 s => ⟨s.2.ok.sub.l (s.f.l h2), h3.mono s.f⟩⟩
  · split at e
    · rename_i hf
      cases e
      rw [Rq, Rp] at q
      obtain ⟨a, vs, rfl, h2, h3⟩ := q
      exact ⟨a, vs, rfl, st1.up.l h2, h3.len, fun F2 H2 s => ⟨s.2.l st1.ok0.odd h2, h3.flat hf⟩⟩
    · cases e
  · cases e
theorem di_zip {fz : Bool} {e e2 : Expr} {fr : Env → O (List R)} {p pos tpos : Pos} {elts : List Expr} {kk : Nat} (hm : X.mg "zip" = none) (ha : DA X T W [e, e2] fr) (hg : Gl X "zip" := by rfl)
    (hs : starEach [e, e2] X.env = (false, eval e X.env) :: starEach [e2] X.env := by rfl) (hpl : (backTo pos (starEach [e2] X.env)).any (·.1) = false := by rfl) :
    DI fz X T W (.Tuple elts kk tpos) (.Call (.Name "zip" p) [e, e2] [] pos) (fZip fr) :=
  pi_weak (pi_zip hg hm ha hs hpl) fun σ H Rk ⟨F0, H0, F, es, st, h⟩ => ⟨F0, H0, F, es, st, pa_seqI st h (fun _ _ _ _ z => z) fun rs vs F1 H1 _ st1 l1 q1 h1 => by
    split at h1
    · rename_i r r' _
      obtain ⟨v, v', rfl, q2, q3⟩ := rql2 q1
      split at h1
      · rename_i xs ys hx hy
        obtain ⟨a, us, rfl, s1, n1, w1⟩ := zarg_ok st1 q2 hx
        obtain ⟨b, us', rfl, s2, n2, w2⟩ := zarg_ok st1 q3 hy
        refine ⟨a, b, us, us', rfl, s1, s2, h1 _ F1 H1 (Le.refl st1.ok) ?_⟩
        refine ⟨fun H => SqL X.K H a us ∧ SqL X.K H b us', YPair (fun i => us[i]?) (fun i => us'[i]?), walk_zip (by rw [zD_len, n1, n2]), fun F2 H2 s => ⟨(w1 F2 H2 s).1, (w2 F2 H2 s).1⟩, fun i H2 x H3 F2 hi s ⟨p, u, w, e1, e2, e3, e4, e5⟩ => ?_⟩
        subst e1 e3
        obtain ⟨d, h2, h3⟩ := (w1 F2 H2 s).2.getV e4
        obtain ⟨d', h4, h5⟩ := (w2 F2 H2 s).2.getV e5
        exact ⟨_, _, zD_at xs ys i d d' h2 h4, Le.new s.2.ok e2, rp_tup (s.2.ok.nf e2) (RpL.cons h3 (RpL.cons h5 RpL.nil))⟩
      · exact h1.elim
    · exact h1.elim⟩
end
/-! ### name = {k: v for ..} on one line, the name a local -/
section
variable {X : Cx}
theorem ps_setDc {i : Nat} {y : Str} {py : Pos} {kx vx tg iter : Expr} {ifs : List Expr} {scope : Scope} {own : List (Str × Nat)} {pos spos : Pos} {wi : TI} {g : TG} {tt : TT} {tk tv : TE} (hc : X.calm = true) (hN : X.N.Nodup) (hy : X.N[i]? = some y) (hyl : X.env.scope.names.lookup y = some .local)
    (hsw : swapsWith (.DictComp kx vx [⟨tg, iter, ifs, 0⟩] scope pos) (some (.Name y py)) spos.line X.env = pure true) (hi : PI X tg iter wi) (ok : BlkOk X.N X.env.scope scope own)
    (hg : ∀ (s : Shared) (H : Hp) (C : Addr) (cl : List (Str × Addr)) (fp : List Addr), PG (X.blk s H scope (compEnvC scope cl C X.env) fp) tg g) (ht : ∀ (s : Shared) (H : Hp) (C : Addr) (cl : List (Str × Addr)) (fp : List Addr), PTs (X.blk s H scope (compEnvC scope cl C X.env) fp) ifs tt)
    (hk : ∀ (s : Shared) (H : Hp) (C : Addr) (cl : List (Str × Addr)) (fp : List Addr), PE (X.blk s H scope (compEnvC scope cl C X.env) fp) kx tk)
    (he : ∀ (s : Shared) (H : Hp) (C : Addr) (cl : List (Str × Addr)) (fp : List Addr), PE (X.blk s H scope (compEnvC scope cl C X.env) fp) vx tv) (hs : ∀ x, foldedSetIterable iter X.env x = pure x := by intro _; rfl) :
    PS X (.Assign [.Name y py] (.DictComp kx vx [⟨tg, iter, ifs, 0⟩] scope pos) spos) (tAsg (tDc wi g tt tk tv (own.map (·.2))) (gName i)) := by
  refine ⟨fun pins s σ H D I h => ?_⟩
  rw [exec_Assign_Name_used _ _ _ _ hsw]
  refine wpAny_bind (wpAny_standAt (wpAny_bind ?_))
  show wpAny _ X.A (do let _ ← comprehension (.DictComp kx vx [⟨tg, iter, ifs, 0⟩] scope pos) scope X.env (firstIterPos [⟨tg, iter, ifs, 0⟩] pos) newDict false (eval iter X.env) (some (assign (.Name y py) X.env))) _ _ s
  have h : tDc wi g tt tk tv (own.map (·.2)) σ H (fun x H1 => gName i x σ H1 D.nx) := h
  refine wpAny_bind (thn (dc_core (Qf := fun _ s' => SP X pins D .next s') hc hN I hi ok hg ht hk he hs h fun L C s' m H' I' q hn f => ?_) fun _ s' hq => wpAny_pure (wpAny_pure hq))
  show wpAny _ _ (assign (.Name y py) X.env (.ref L)) _ _ _
  refine wpAny_assign_Name (store_ok2 (v := V.ref L) I' hN hy (.inl hyl) rfl (fun s2 I2 ⟨a, sb, ha⟩ => ?_) (.inr hyl))
  obtain ⟨f0, f1, f2, f3, f4, f5⟩ := f
  have haC : C ≠ a := by
    rcases ha with z | z
    · rw [z]; exact f1
    · exact fun e => f4 y a z e.symm
  refine ⟨m, hn.sameBut sb haC, fun h3 sb3 => ?_⟩
  exact ⟨_, H', I2.turned (t' := s2.toks) (fun b o hb e => (sb3.2 b hb).trans e) f0 f1 f3 f4 f5, q⟩
theorem sw_trueD {kx vx : Expr} {gs : List Comprehension} {scope : Scope} {pos py : Pos} {y : Str} {l : Nat} {env : PySem.Env} (hk : env.scope.kind = .function) (hy : env.scope.names.lookup y = some .local) (hl : (py.line == pos.line) = true)
    (ha : (scope.names.any fun (n, k) => n == y && (k == .local || k == .cell)) = false) : swapsWith (.DictComp kx vx gs scope pos) (some (.Name y py)) l env = pure true := by
  have ky : env.kindOf y = some .local := hy
  have hb : env.blockKind = .function := by unfold Env.blockKind; rw [hk]; rfl
  unfold swapsWith
  simp only [hb, ky, ha, Expr.pos, hl]
  rfl
end
def dcL (tg : Tg) (fk fv : Env → O R) (es : Env) : List R → List DK → List D → O (List DK × List D)
  | [], ks, ds => .ok (ks, ds)
  | x :: xs, ks, ds => match stTg tg x es with
    | none => .no
    | some e1 => (noX (fk e1)).bind fun r => (noX (fv e1)).bind fun v => match keyD r.fz.dat, v.fz.sto with
      | some k, some d => dcL tg fk fv es xs (kPutK ks k) (kPutD ks ds k d)
      | _, _ => .no
def gDcD (i : Nat) (src : Env → O (List R)) (vs : List Nat) (tg : Tg) (fk fv : Env → O R) : Env → Out := fun es => (src es).out es fun xs => if xs.length ≤ 90000 ∧ i < es.length then match dcL tg fk fv (wipeE es vs) xs [] [] with
    | .ok (ks, ds) => .nx (es.set i (.odc ks ds))
    | _ => .no
  else .no
theorem kPutK_len (ks : List DK) (k : DK) : (kPutK ks k).length ≤ ks.length + 1 := by
  unfold kPutK; split <;> simp
section
variable {X : Cx} {T : Tb} {W : WX}
theorem dc_weak {K : PySem.W.Frag} {F0 H0 : Hp} {i : Nat} {src : Env → O (List R)} {vs : List Nat} {tg : Tg} {fk fv : Env → O R} {σ : L2.St} {H : Hp} {D : Ends} (hvs : ∀ i ∈ tg.at, i ∈ vs) (h : tS K T W F0 H0 (gDcD i src vs tg fk fv) D σ H) :
    tAsg (tDc (tI false K T W src) (tgOf K tg) (tT K T W0 fYes) (tD K T W0 fk) (tD K T W0 fv) vs) (gName i) D σ H := by
  obtain ⟨F, es, st, h⟩ := h
  refine ⟨F0, H0, F, es, st, out_seq st h fun xs J F1 H1 _ st1 l1 q1 h => ?_⟩
  obtain ⟨G, Y, w, hG, hY⟩ := q1
  intro Dl hD
  split at h
  · rename_i hlen
    obtain ⟨hlen, hil⟩ := hlen
    split at h
    · rename_i ks ds hds
      have nT : Dl ∉ T := st1.ok.nt hD
      have h0D : H0 Dl = none := st1.h0 nT hD
      refine walk_gen (B := fun Nx x H H' => tgOf K tg x (L2.wipe σ vs) H' fun σ2 H2 => L2.wipe σ2 vs = L2.wipe σ vs ∧ tT K T W0 fYes σ2 H2 fun b H3 =>
          if b = true then tD K T W0 fk σ2 H3 fun y H4 => tD K T W0 fv σ2 H4 fun z H5 => ∃ kvs k, y = kV k ∧ H5 Dl = some (.dK kvs) ∧ kvs.length < sizeLine ∧ Nx (upd H5 Dl (.dK (putK kvs k z))) else Nx H3) w
        (fun i H2 => ∃ F2 ks1 ds1 vs2, Le T F1 H1 F2 H2 ∧ F2 Dl = none ∧ H2 Dl = some (.dK ((ks1.map kyOf).zip vs2)) ∧ RpL K F2 ds1 vs2 ∧ ks1.length = ds1.length ∧ ks1.length ≤ i ∧ dcL tg fk fv (wipeE es vs) (xs.drop i) ks1 ds1 = .ok (ks, ds))
        ⟨F1, [], [], [], Le.newH st1.ok hD, st1.ok.nf hD, upd_same, RpL.nil, rfl, Nat.le_refl _, hds⟩ ?_ ?_ ?_
      · intro i H2 hi ⟨F2, ks1, ds1, vs2, l2, _⟩
        exact hG F2 H2 ⟨l2, st1.le.trans l2⟩
      · intro i x H2 H3 hi ⟨F2, ks1, ds1, vs2, l2, hF, hH, hr, hkl, hle, hl⟩ hy
        obtain ⟨F3, r, hx, l3, q3⟩ := hY i H2 x H3 F2 hi ⟨l2, st1.le.trans l2⟩ hy
        have hdr : xs.drop i = r :: xs.drop (i + 1) := by
          have : i < xs.length := hi
          rw [List.drop_eq_getElem_cons this]
          rw [List.getElem?_eq_getElem this] at hx
          rw [Option.some.inj hx]
        rw [hdr] at hl
        simp only [dcL] at hl
        have st3 : StOk K T F0 H0 F3 H3 (L2.wipe σ vs) (wipeE es vs) := ((st1.step l2).step l3).wipe vs
        cases h1 : stTg tg r (wipeE es vs) with
        | none => rw [h1] at hl; cases hl
        | some e1 =>
          rw [h1] at hl
          simp only at hl
          refine tg_ok st3 q3 h1 fun σ' st' hw => ⟨?_, ?_⟩
          · rw [hw vs hvs]
            apply List.ext_getElem?
            intro j
            rw [wipe_get, wipe_get, wipe_length]
            split <;> rfl
          · refine ⟨F0, H0, F3, e1, st', ?_⟩
            intro b' F4 H4 l4 eb
            subst eb
            rw [if_pos rfl]
            have hF3 : F3 Dl = none := l3.n Dl hF (by rw [hH]; simp)
            have hH3 : H3 Dl = some (.dK ((ks1.map kyOf).zip vs2)) := l3.h Dl _ nT hH
            have hF4 : F4 Dl = none := l4.n Dl hF3 (by rw [hH3]; simp)
            have hH4 : H4 Dl = some (.dK ((ks1.map kyOf).zip vs2)) := l4.h Dl _ nT hH3
            have st4 := st'.step l4
            refine ⟨F0, H0, F4, e1, st4, ?_⟩
            cases hfk : fk e1 with
            | no => rw [hfk] at hl; cases hl
            | exc c fs => rw [hfk] at hl; cases hl
            | ok rk =>
              rw [hfk] at hl
              simp only [noX, O.bind_ok] at hl
              intro y F5 H5 l5 q5
              obtain ⟨F6, l6, _, q6⟩ := q5.fz l5
              have st6 := st4.step l6
              have hF6 : F6 Dl = none := l6.n Dl hF4 (by rw [hH4]; simp)
              have hH6 : H5 Dl = some (.dK ((ks1.map kyOf).zip vs2)) := l6.h Dl _ nT hH4
              refine ⟨F0, H0, F6, e1, st6, ?_⟩
              cases hfv : fv e1 with
              | no => rw [hfv] at hl; cases hl
              | exc c fs => rw [hfv] at hl; cases hl
              | ok rv =>
                rw [hfv] at hl
                simp only [noX, O.bind_ok] at hl
                intro z F7 H7 l7 q7
                obtain ⟨F8, l8, _, q8⟩ := q7.fz l7
                split at hl
                · rename_i k d hk hd
                  have hF8 : F8 Dl = none := l8.n Dl hF6 (by rw [hH6]; simp)
                  have hH8 : H7 Dl = some (.dK ((ks1.map kyOf).zip vs2)) := l8.h Dl _ nT hH6
                  have hsub : Sub F2 F8 := ((l3.f.trans l4.f).trans l6.f).trans l8.f
                  have ey : y = kV (kyOf k) := key_rp hk (st6.rq q6)
                  obtain ⟨vs3, p1, p2, p3⟩ := kPut_zip (k := k) (hr.mono hsub) hkl (q8.sto hd)
                  refine ⟨_, kyOf k, ey, hH8, ?_, F8, kPutK ks1 k, kPutD ks1 ds1 k d, vs3, ((((l2.trans l3).trans l4).trans l6).trans l8).mut hD hF8 nT, hF8, ?_, p2, p3, ?_, hl⟩
                  · rw [List.length_zip, List.length_map]
                    exact Nat.lt_of_le_of_lt (Nat.min_le_left _ _) (szl (by have : i < xs.length := hi; omega))
                  · rw [upd_same, p1]
                  · have := kPutK_len ks1 k; omega
                · cases hl
      · intro H2 ⟨F2, ks1, ds1, vs2, l2, hF, hH, hr, hkl, hle, hl⟩
        have e0 : xs.drop xs.length = [] := List.drop_length
        rw [e0] at hl
        simp only [dcL] at hl
        cases hl
        have st2 := st1.step l2
        refine h _ F2 H2 l2.f (st2.setD hil h0D hF nT hH hkl hr fun j ks' ds' e z => ?_)
        obtain ⟨q2, us, g1, g2, g3, g4, g5, _⟩ := st1.env.dic.1 j ks' ds' e
        rw [g1] at z
        cases z
        rw [hD] at g5; cases g5
    · exact h.elim
  · exact h.elim
theorem ds_setDc {i : Nat} {y : Str} {py : Pos} {kx vx tg iter : Expr} {scope : Scope} {own : List (Str × Nat)} {pos spos : Pos} {src : Env → O (List R)} {t : Tg} {fk fv : Env → O R} (hN : X.N.Nodup) (hi : DI false X T W tg iter src) (ok : BlkOk X.N X.env.scope scope own)
    (hg : ∀ (s : Shared) (H : Hp) (C : Addr) (cl : List (Str × Addr)) (fp : List Addr), PG (X.blk s H scope (compEnvC scope cl C X.env) fp) tg (tgOf X.K t))
    (hk : ∀ (s : Shared) (H : Hp) (C : Addr) (cl : List (Str × Addr)) (fp : List Addr), DE (X.blk s H scope (compEnvC scope cl C X.env) fp) T W0 kx fk)
    (he : ∀ (s : Shared) (H : Hp) (C : Addr) (cl : List (Str × Addr)) (fp : List Addr), DE (X.blk s H scope (compEnvC scope cl C X.env) fp) T W0 vx fv)
    (hy : X.N[i]? = some y := by rfl) (hyl : X.env.scope.names.lookup y = some .local := by rfl) (hsw : swapsWith (.DictComp kx vx [⟨tg, iter, [], 0⟩] scope pos) (some (.Name y py)) spos.line X.env = pure true := by exact sw_trueD rfl rfl rfl (by decide +kernel))
    (hc : X.calm = true := by rfl) (hs : ∀ x, foldedSetIterable iter X.env x = pure x := by intro _; rfl) (hvs : ∀ i ∈ t.at, i ∈ own.map (·.2) := by decide) :
    DS X T W (.Assign [.Name y py] (.DictComp kx vx [⟨tg, iter, [], 0⟩] scope pos) spos) (gDcD i src (own.map (·.2)) t fk fv) := fun F0 H0 =>
  ps_weak (ps_setDc (tt := tT X.K T W0 fYes) (tk := tD X.K T W0 fk) (tv := tD X.K T W0 fv) hc hN hy hyl hsw hi ok hg (fun s H C cl fp => dts_yes) (fun s H C cl fp => hk s H C cl fp) (fun s H C cl fp => he s H C cl fp) hs) fun D σ H q => dc_weak hvs q
end
section
variable {X : Cx} {T : Tb} {W : WX}
/-- .. the name a cell -/
theorem ds_setDcC {i : Nat} {y : Str} {py : Pos} {kx vx tg iter : Expr} {scope : Scope} {own : List (Str × Nat)} {pos spos : Pos} {src : Env → O (List R)} {t : Tg} {fk fv : Env → O R} (hN : X.N.Nodup) (hi : DI false X T W tg iter src) (ok : BlkOk X.N X.env.scope scope own)
    (hg : ∀ (s : Shared) (H : Hp) (C : Addr) (cl : List (Str × Addr)) (fp : List Addr), PG (X.blk s H scope (compEnvC scope cl C X.env) fp) tg (tgOf X.K t))
    (hk : ∀ (s : Shared) (H : Hp) (C : Addr) (cl : List (Str × Addr)) (fp : List Addr), DE (X.blk s H scope (compEnvC scope cl C X.env) fp) T W0 kx fk)
    (he : ∀ (s : Shared) (H : Hp) (C : Addr) (cl : List (Str × Addr)) (fp : List Addr), DE (X.blk s H scope (compEnvC scope cl C X.env) fp) T W0 vx fv)
    (hy : X.N[i]? = some y := by rfl) (hx : Loc X.env.scope y := by first | exact Or.inl rfl | exact Or.inr rfl) (hsw : swapsWith (.DictComp kx vx [⟨tg, iter, [], 0⟩] scope pos) (some (.Name y py)) spos.line X.env = pure false := by rfl)
    (hf : X.fn y = true ∨ X.env.scope.names.lookup y = some .local := by first | exact .inl rfl | exact .inr rfl)
    (hc : X.calm = true := by rfl) (hs : ∀ x, foldedSetIterable iter X.env x = pure x := by intro _; rfl) (hvs : ∀ i ∈ t.at, i ∈ own.map (·.2) := by decide) :
    DS X T W (.Assign [.Name y py] (.DictComp kx vx [⟨tg, iter, [], 0⟩] scope pos) spos) (gDcD i src (own.map (·.2)) t fk fv) := fun F0 H0 =>
  ps_weak (ps_set hN hy hx (pe_dc (tt := tT X.K T W0 fYes) (tk := tD X.K T W0 fk) (tv := tD X.K T W0 fv) hc hN hi ok hg (fun s H C cl fp => dts_yes) (fun s H C cl fp => hk s H C cl fp) (fun s H C cl fp => he s H C cl fp) hs) hsw hf) fun D σ H q => dc_weak hvs q
end
/-! ### x[k] += n, x[k] -= n -/
def gAugD (i : Nat) (f : Int → Int → Int) (fk fv : Env → O R) : Env → Out := fun es => match es[i]? with
  | some (.odc ks ds) => (fk es).out es fun r => match keyD r.fz.dat with
    | some k => match kGet ks ds k with
      | some (.int a) => (fv es).out es fun v => match v.fz with
        | .val (.int b) => if ks.length < 90000 then .nx (es.set i (.odc (kPutK ks k) (kPutD ks ds k (.int (f a b))))) else .no
        | _ => .no
      | _ => .no
    | none => .no
  | _ => .no
section
variable {X : Cx} {T : Tb} {W : WX} {k value : Expr} {fk fv : Env → O R} {x : Str} {p1 pos tpos : Pos}
theorem ds_augD {i : Nat} {op : Operator} {f : Int → Int → Int} {rd : V → V → Hp → VK → Prop} (hop : InOp X op rd) (hrd : ∀ a b H Q, Q (.int (f a b)) H → rd (.int a) (.int b) H Q) (hu : X.A.units + 1 < cLine) (hk : DE X T W k fk) (hv0 : DE X T W value fv) (hN : X.N[i]? = some x := by rfl) (hv : Vis X.env.scope x := by first | exact Or.inl rfl | exact Or.inr (Or.inl rfl) | exact Or.inr (Or.inr rfl)) (hd : (x == ("__debug__" : Str)) = false := by decide)
    (hcd : (x == ("__classdict__" : Str)) = false := by decide) (ha : ∀ ov iv new, augStore k ov iv new = (do holding [new, ov, iv] (setItem ov iv new); release [new, ov, iv] []; pure .next) := by intro _ _ _; rfl) : DS X T W (.AugAssign (.Subscript (.Name x p1) k tpos) op value pos) (gAugD i f fk fv) := fun F0 H0 =>
  ps_weak (ps_daug hu (pv i hN hv hd hcd) hk hv0 hop ha) fun D σ H ⟨F, es, st, q⟩ => by
    unfold gAugD at q
    split at q
    · rename_i ks ds he
      obtain ⟨p, vs, g1, g2, g3, g4, g5, g6, g7⟩ := st.env.dic.1 i ks ds he
      refine ⟨.ref p, g1, F0, H0, F, es, st, out_seq st q fun r y F1 H1 _ st1 l1 q1 h1 => ?_⟩
      obtain ⟨F2, l2, s12, q2⟩ := q1.fz l1
      have st2 := st.step l2
      split at h1
      · rename_i kk hkk
        have ev : y = kV (kyOf kk) := key_rp hkk (st2.rq q2)
        subst ev
        split at h1
        · rename_i a hga
          have g7' := g7.mono l2.f
          obtain ⟨u, e1, e2⟩ := (kGet_zip (k := kk) g7' g6).1 _ hga
          have e3 : u = .int a := by rw [Rp] at e2; exact e2
          subst e3
          have g5' : H1 p = some (.dK ((ks.map kyOf).zip vs)) := l2.h p _ g4 g5
          refine ⟨p, _, rfl, .inl ⟨_, _, .inl g5', rfl, e1.symm⟩, F0, H0, F2, es, st2, out_seq st2 (h1.sub s12) fun rv z F3 H3 _ st3 l3 q3 h3 => ?_⟩
          obtain ⟨F4, l4, s34, q4⟩ := q3.fz l3
          have st4 := st2.step l4
          split at h3
          · rename_i b hb
            rw [hb] at q4
            have e4 : z = .int b := rq_int q4
            subst e4
            split at h3
            · rename_i hlt
              have g5'' : H3 p = some (.dK ((ks.map kyOf).zip vs)) := l4.h p _ g4 g5'
              obtain ⟨vs', f1, f2, f3⟩ := kPut_zip (k := kk) (x := .int (f a b)) (u := .int (f a b)) (g7'.mono l4.f) g6 (by rw [Rp])
              have lz : ((ks.map kyOf).zip vs).length < sizeLine := by
                rw [List.length_zip, List.length_map]
                exact Nat.lt_of_le_of_lt (Nat.min_le_left _ _) (szl (by omega))
              refine hrd _ _ _ _ ⟨_, .inl ⟨_, _, g5'', rfl, lz, rfl⟩, ?_⟩
              rw [f1]
              exact h3 _ F4 _ s34 (st4.mutD he g1 f3 f2)
            · exact h3.elim
          · exact h3.elim
        · exact h1.elim
      · exact h1.elim
    · exact q.elim
theorem ds_addD {i : Nat} (hu : X.A.units + 1 < cLine) (hk : DE X T W k fk) (hv0 : DE X T W value fv) (hN : X.N[i]? = some x := by rfl) (hv : Vis X.env.scope x := by first | exact Or.inl rfl | exact Or.inr (Or.inl rfl) | exact Or.inr (Or.inr rfl)) (hd : (x == ("__debug__" : Str)) = false := by decide)
    (hcd : (x == ("__classdict__" : Str)) = false := by decide) (ha : ∀ ov iv new, augStore k ov iv new = (do holding [new, ov, iv] (setItem ov iv new); release [new, ov, iv] []; pure .next) := by intro _ _ _; rfl) : DS X T W (.AugAssign (.Subscript (.Name x p1) k tpos) .Add value pos) (gAugD i (fun a b => a + b) fk fv) :=
  ds_augD in_add (fun a b H Q q => ⟨a, b, rfl, rfl, q⟩) hu hk hv0 hN hv hd hcd ha
theorem ds_subD {i : Nat} (hu : X.A.units + 1 < cLine) (hk : DE X T W k fk) (hv0 : DE X T W value fv) (hN : X.N[i]? = some x := by rfl) (hv : Vis X.env.scope x := by first | exact Or.inl rfl | exact Or.inr (Or.inl rfl) | exact Or.inr (Or.inr rfl)) (hd : (x == ("__debug__" : Str)) = false := by decide)
    (hcd : (x == ("__classdict__" : Str)) = false := by decide) (ha : ∀ ov iv new, augStore k ov iv new = (do holding [new, ov, iv] (setItem ov iv new); release [new, ov, iv] []; pure .next) := by intro _ _ _; rfl) : DS X T W (.AugAssign (.Subscript (.Name x p1) k tpos) .Sub value pos) (gAugD i (fun a b => a - b) fk fv) :=
  ds_augD in_sub (fun a b H Q q => ⟨a, b, rfl, rfl, q⟩) hu hk hv0 hN hv hd hcd ha
end
/-! ### x.append(y.pop(k)) -/
def gAppPop (i j : Nat) (f : Env → O R) : Env → Out := fun es => match es[i]?, es[j]? with
  | some (.own xs), some (.own ys) => (f es).out es fun r => match r.fz with
    | .val (.int k) => match (if 0 ≤ k then ys[k.toNat]? else none) with
      | some d => if xs.length < 90000 ∧ ys.length < 90000 then .nx ((es.set j (.own (ys.eraseIdx k.toNat))).set i (.own (xs ++ [d]))) else .no
      | none => .no
    | _ => .no
  | _, _ => .no
section
variable {X : Cx} {T : Tb} {W : WX} {e : Expr} {f : Env → O R} {x y : Str} {p1 p2 p3 q1 q2 q3 pos : Pos}
theorem ds_appPop (i j : Nat) (hij : i ≠ j) (he : DE X T W e f) (hN : X.N[i]? = some x := by rfl) (hN2 : X.N[j]? = some y := by rfl) (hv : Vis X.env.scope x := by first | exact Or.inl rfl | exact Or.inr (Or.inl rfl) | exact Or.inr (Or.inr rfl)) (hv2 : Vis X.env.scope y := by first | exact Or.inl rfl | exact Or.inr (Or.inl rfl) | exact Or.inr (Or.inr rfl)) (hd : (x == ("__debug__" : Str)) = false := by decide)
    (hcd : (x == ("__classdict__" : Str)) = false := by decide) (hd2 : (y == ("__debug__" : Str)) = false := by decide)
    (hcd2 : (y == ("__classdict__" : Str)) = false := by decide)
    (hst2 : starEach [e] X.env = (false, eval e X.env) :: starEach [] X.env := by rfl)
    (hbase2 : attributeBase (.Name y q1) "pop" X.env (eval (.Name y q1) X.env) = eval (.Name y q1) X.env := by rfl)
    (hfew2 : ((backTo q3 (starEach [e] X.env)).all (fun x => !x.1) && (backToKw q3 (keywordEach [] X.env)).all (fun x => x.1.isSome) && decide ([e].length + ([] : List Keyword).length + (if ([] : List Keyword).isEmpty then 0 else 1) < 30)) = true := by rfl)
    (hline2 : (q2.endLine == q3.line) = true := by rfl)
    (hst : starEach [.Call (.Attribute (.Name y q1) "pop" q2) [e] [] q3] X.env = (false, eval (.Call (.Attribute (.Name y q1) "pop" q2) [e] [] q3) X.env) :: starEach [] X.env := by rfl)
    (hbase : attributeBase (.Name x p1) "append" X.env (eval (.Name x p1) X.env) = eval (.Name x p1) X.env := by rfl)
    (hfew : ((backTo p3 (starEach [.Call (.Attribute (.Name y q1) "pop" q2) [e] [] q3] X.env)).all (fun x => !x.1) && (backToKw p3 (keywordEach [] X.env)).all (fun x => x.1.isSome) && decide ([Expr.Call (.Attribute (.Name y q1) "pop" q2) [e] [] q3].length + ([] : List Keyword).length + (if ([] : List Keyword).isEmpty then 0 else 1) < 30)) = true := by rfl)
    (hline : (p2.endLine == p3.line) = true := by rfl)
    (hs : swapsWith (.Call (.Attribute (.Name x p1) "append" p2) [.Call (.Attribute (.Name y q1) "pop" q2) [e] [] q3] [] p3) none pos.line X.env = pure false := by rfl) :
    DS X T W (.Expr (.Call (.Attribute (.Name x p1) "append" p2) [.Call (.Attribute (.Name y q1) "pop" q2) [e] [] q3] [] p3) pos) (gAppPop i j f) := fun F0 H0 =>
  ps_weak (ps_expr (pe_bm PySem.F.plainAttrs_list PySem.F.slot_list_append PySem.F.type_list_append mt_append (pv i hN hv hd hcd) (pa_cons (pe_bm PySem.F.plainAttrs_list PySem.F.slot_list_pop PySem.F.type_list_pop mt_popAt (pv j hN2 hv2 hd2 hcd2) (pa_cons he pa_nil hst2) hbase2 hfew2 hline2 hst2 rfl) pa_nil hst) hbase hfew hline hst rfl) hs) fun D σ H ⟨F, es, st, q⟩ => by
    unfold gAppPop at q
    split at q
    · rename_i xs ys e1 e2
      obtain ⟨p, vs, h1, h2, h3, h4, h5, h6⟩ := st.env.own i xs e1
      obtain ⟨p', us, g1, g2, g3, g4, g5, g6⟩ := st.env.own j ys e2
      have hpp : p ≠ p' := fun z => by subst z; exact hij (st.env.uni i j xs ys p e1 e2 h1 g1)
      refine ⟨.ref p, h1, own_ty h5, .ref p', g1, own_ty g5, F0, H0, F, es, st, out_seq st q fun r v F1 H1 _ _ l1 q1 q => ?_⟩
      split at q
      · rename_i k hk
        obtain ⟨F2, l2, s2, q2⟩ := q1.fz l1
        rw [hk] at q2
        have ev : v = .int k := rq_int q2
        subst ev
        have st2 := st.step l2
        split at q
        · rename_i d hd
          split at q
          · rename_i hl
            obtain ⟨hl1, hl2⟩ := hl
            split at hd
            · rename_i hk0
              have h5' : H1 p = some (.lst vs) := l2.h p _ h4 h5
              have g5' : H1 p' = some (.lst us) := l2.h p' _ g4 g5
              have g6' := g6.mono l2.f
              have hlt : k.toNat < ys.length := (List.getElem?_eq_some_iff.mp hd).1
              have hlt2 : k.toNat < us.length := by rw [← g6.len]; exact hlt
              obtain ⟨d', f1, f2⟩ := g6'.getV (i := k.toNat) (List.getElem?_eq_getElem hlt2)
              rw [hd] at f1
              cases f1
              refine ⟨p', us, k, k.toNat, us[k.toNat], rfl, rfl, g5', by omega, by omega, ?_, List.getElem?_eq_getElem hlt2, ?_⟩
              · unfold seqIndex?
                have a1 : ¬ k < 0 := by omega
                have a2 : k < (us.length : Int) := by omega
                simp [a1, a2, hk0]
              · have st3 := st2.mutOwn e2 g1 (g6'.eraseIdx k.toNat)
                have e1' : (es.set j (.own (ys.eraseIdx k.toNat)))[i]? = some (.own xs) := by rw [List.getElem?_set_ne (Ne.symm hij)]; exact e1
                have st4 := st3.mutOwn e1' h1 ((h6.mono l2.f).app (RpL.cons f2 RpL.nil))
                exact ⟨p, vs, _, rfl, rfl, by rw [upd_ne hpp]; exact h5', by rw [← h6.len]; exact szl (by omega), q _ F2 _ s2 st4⟩
            · cases hd
          · exact q.elim
        · exact q.elim
      · exact q.elim
    · exact q.elim
end
/-! ### return x if c else b, x a list of one's own -/
def gRetIf (fc : Env → O Bool) (i : Nat) (fb : Env → O R) : Env → Out := fun es => (fc es).out es fun b => if b = true then gRetV i es else gRet fb es
section
variable {X : Cx} {T : Tb} {W : WX}
theorem retV_weak {K : PySem.W.Frag} {F0 H0 F H : Hp} {σ : L2.St} {es : Env} {i : Nat} {D : Ends} (st : StOk K T F0 H0 F H σ es) (q : OutOk K T W F0 H0 F D (gRetV i es)) : tVar i σ H D.rt := by
  unfold gRetV at q
  cases hf : fVar i es with
  | no => rw [hf] at q; exact q.elim
  | exc c fs =>
    unfold fVar at hf
    split at hf <;> cases hf
  | ok r =>
    rw [hf] at q
    obtain ⟨v, h1, h2⟩ := st.var hf
    refine ⟨v, h1, ?_⟩
    cases r with
    | val d => exact q v F H st.le h2
    | brw d => exact q.elim
    | new xs =>
      unfold fVar at hf
      split at hf
      · cases hf
      · rename_i d _
        unfold nrm at hf
        split at hf <;> cases hf
      · cases hf
      · cases hf
    | bor xs =>
      have e : es[i]? = some (.own xs) := by
        unfold fVar at hf
        split at hf
        · cases hf
        · rename_i d _
          unfold nrm at hf
          split at hf <;> cases hf
        · rename_i e
          cases hf
          exact e
        · cases hf
      obtain ⟨p, vs, g1, g2, g3, g4, g5, g6⟩ := st.env.own i xs e
      rw [g1] at h1
      cases h1
      exact q (.ref p) F H st.le ⟨p, vs, rfl, g2, g3, g4, g5, g6⟩
theorem ds_retIf {c b : Expr} {fc : Env → O Bool} {fb : Env → O R} (i : Nat) {x : Str} {p ppos pos : Pos} (hc : DT X T W c fc) (hb : DE X T W b fb) (hN : X.N[i]? = some x := by rfl) (hv : Vis X.env.scope x := by first | exact Or.inl rfl | exact Or.inr (Or.inl rfl) | exact Or.inr (Or.inr rfl)) (hd : (x == ("__debug__" : Str)) = false := by decide)
    (hcd : (x == ("__classdict__" : Str)) = false := by decide) : DS X T W (.Return (some (.IfExp c (.Name x p) b ppos)) pos) (gRetIf fc i fb) := fun F0 H0 => ps_weak (ps_ret (pe_ifExp hc (pv i hN hv hd hcd) hb)) fun D σ H ⟨F, es, st, q⟩ =>
  ⟨F0, H0, F, es, st, out_seq (rel := fun _ _ b a => b = a) st q fun a k F1 H1 _ st1 l1 q1 h1 => by
    subst q1
    cases k with
    | true => exact retV_weak st1 h1
    | false =>
      refine ⟨F0, H0, F1, es, st1, out_seq st1 h1 fun r v F2 H2 hr st2 l2 q2 h2 => ?_⟩
      cases r with
      | val d => exact h2 v F2 H2 st2.le q2
      | brw d => exact h2.elim
      | bor xs => exact h2.elim
      | new xs => exact h2 v F2 H2 st2.le (Rr.back st1.le q2)⟩
end
end Fw
namespace Fw
open PySem PySem.Spec PyProof.Rows L2
/-! ### what is never reached -/
def gNo : Env → Out := fun _ => .no
section
variable {X : Cx} {T : Tb} {W : WX}
theorem ds_no {st : Stmt} : DS X T W st gNo := fun F0 H0 => ⟨fun pins s σ H D I ⟨F, es, st, h⟩ => h.elim⟩
end
/-! ### f-strings -/
def decS (i : Int) : List Nat := (toString i : Str).cps.toList
theorem decS_tx (i : Int) : tx (decS i) = (toString i : Str) := by
  unfold tx decS
  simp
def dFmt : R → Option R
  | .val (.str s) => if s.length ≤ 100000 then some (.val (.str s)) else none
  | .val (.int i) => if i.natAbs.log2 < 1920 then some (.val (.str (decS i))) else none
  | _ => none
def fFmt (f : Env → O R) : Env → O R := fun es => (f es).bind fun r => O.of (dFmt r.fz)
def fJn : Env → List Nat → O (List Nat) := fun _ acc => .ok acc
def fJc (f : Env → O R) (g : Env → List Nat → O (List Nat)) : Env → List Nat → O (List Nat) := fun es acc => (f es).bind fun r => match r.fz with
  | .val (.str s) => if acc.length + s.length ≤ 100000 then g es (acc ++ s) else .no
  | _ => .no
def fJoined (g : Env → List Nat → O (List Nat)) : Env → O R := fun es => (g es []).bind fun s => .ok (.val (.str s))
def DJ (X : Cx) (T : Tb) (W : WX) (es : List Expr) (g : Env → List Nat → O (List Nat)) : Prop := ∃ ts, PJ X es ts ∧ ∀ acc σ H (Q : Str → Hp → Prop), (∃ F0 H0 F e, StOk X.K T F0 H0 F H σ e ∧ PO X.K T W F H σ (fun _ _ (v : Str) s => v = tx s) Q (g e acc)) → tJs ts (tx acc) σ H Q
section
variable {X : Cx} {T : Tb} {W : WX} {e : Expr} {f : Env → O R} {g : Env → List Nat → O (List Nat)}
theorem de_fmt {pos : Pos} (he : DE X T W e f) : DE X T W (.FormattedValue e (-1) none pos) (fFmt f) :=
  pe_weak (pe_fmt he) fun σ H Q ⟨F0, H0, F, es, st, h⟩ => ⟨F0, H0, F, es, st, pr_seq st h fun r v F1 H1 _ st1 l1 q1 h1 => by
    cases hd : dFmt r.fz with
    | none => rw [hd] at h1; exact h1.elim
    | some c =>
      rw [hd] at h1
      unfold dFmt at hd
      split at hd
      · rename_i s hs
        split at hd
        · rename_i hl
          cases hd
          rw [hs] at q1
          have ev : v = .str (tx s) := rq_str q1
          subst ev
          exact .inl ⟨tx s, rfl, by rw [tx_len]; exact Nat.le_trans hl (by decide), h1 _ F1 H1 (Le.refl st1.ok) (by rw [Rr, Rp])⟩
        · cases hd
      · rename_i i hi
        split at hd
        · rename_i hl
          cases hd
          rw [hi] at q1
          have ev : v = .int i := rq_int q1
          subst ev
          refine .inr ⟨i, rfl, hl, ?_⟩
          rw [← decS_tx]
          exact h1 _ F1 H1 (Le.refl st1.ok) (by rw [Rr, Rp])
        · cases hd
      · cases hd⟩
theorem dj_nil : DJ X T W [] fJn := ⟨[], .nil, fun acc σ H Q ⟨F0, H0, F, e, st, h⟩ => h (tx acc) F H (Le.refl st.ok) rfl⟩
theorem dj_cons {es : List Expr} (he : DE X T W e f) (hr : DJ X T W es g) : DJ X T W (e :: es) (fJc f g) := by
  obtain ⟨ts, h1, h2⟩ := hr
  refine ⟨_, .cons he h1, fun acc σ H Q ⟨F0, H0, F, en, st, h⟩ => ⟨F0, H0, F, en, st, po_seq (rel' := fun _ _ (v : Str) s => v = tx s) st h (fun _ _ _ _ _ _ _ z => z) fun r v F1 H1 _ st1 l1 q1 h1 => ?_⟩⟩
  split at h1
  · rename_i s hs
    rw [hs] at q1
    have ev : v = .str (tx s) := rq_str q1
    subst ev
    split at h1
    · rename_i hl
      refine ⟨tx s, rfl, ?_, ?_⟩
      · rw [tx_app, tx_len, List.length_append]
        exact Nat.le_trans hl (by decide)
      · rw [tx_app]
        exact h2 (acc ++ s) σ H1 Q ⟨F0, H0, F1, en, st1, h1⟩
    · exact h1.elim
  · exact h1.elim
theorem de_joined {v1 v2 : Expr} {rest : List Expr} {pos : Pos} (h : DJ X T W (v1 :: v2 :: rest) g) : DE X T W (.JoinedStr (v1 :: v2 :: rest) pos) (fJoined g) := by
  obtain ⟨ts, h1, h2⟩ := h
  refine pe_weak (pe_joined h1) fun σ H Q ⟨F0, H0, F, es, st, q⟩ => h2 [] σ H _ ⟨F0, H0, F, es, st, ?_⟩
  unfold fJoined at q
  cases hg : g es [] with
  | no => rw [hg] at q; exact q
  | exc c fs => rw [hg] at q; exact q
  | ok s =>
    rw [hg] at q
    intro v F1 H1 l e
    subst e
    exact q _ F1 H1 l (by rw [Rr, Rp])
end
/-! ### str(n) -/
def dStr : List R → Option R
  | [.val (.int i)] => if i.natAbs.log2 < 1920 then some (.val (.str (decS i))) else none
  | _ => none
theorem cd_str {K : PySem.W.Frag} {T : Tb} : CallD K T (fun xs H Q => ∃ i, xs = [.int i] ∧ i.natAbs.log2 < 1920 ∧ Q (.str (toString i)) H) dStr := fun H0 F H vs rs c Q ok up q h k => by
  unfold dStr at h
  split at h
  · rename_i i
    split at h
    · rename_i hl
      cases h
      obtain ⟨v, rfl, q1⟩ := rql1 q
      have ev : v = .int i := rq_int q1
      subst ev
      refine ⟨i, rfl, hl, ?_⟩
      rw [← decS_tx]
      exact k _ F H (Le.refl ok) (by rw [Rr, Rp])
    · cases h
  · cases h
/-! ### [a, *b] -/
def fStar (f : Env → O R) (fr : Env → O (List R)) : Env → O (List R) := fun es => (f es).bind fun r => match r.itm with
  | some xs => (fr es).bind fun rs => .ok (xs.map .val ++ rs)
  | none => .no
section
variable {X : Cx} {T : Tb} {W : WX} {e : Expr} {es : List Expr} {f : Env → O R} {fr : Env → O (List R)}
theorem RqL.app {K : PySem.W.Frag} {T : Tb} {H0 F H : Hp} : ∀ {xs : List D} {vs us : List V} {rs : List R}, RpL K F xs vs → RqL K T H0 F H rs us → RqL K T H0 F H (xs.map .val ++ rs) (vs ++ us)
  | [], vs, us, rs, h, q => by rw [RpL] at h; subst h; exact q
  | x :: xs, vs, us, rs, h, q => by
    rw [RpL] at h
    obtain ⟨v, r, rfl, h2, h3⟩ := h
    exact ⟨v, _, rfl, h2, RqL.app h3 q⟩
end
section
variable {X : Cx} {T : Tb} {W : WX} {e : Expr} {es : List Expr} {f : Env → O R} {fr : Env → O (List R)} {p : Pos}
theorem da_star (he : DE X T W e f) (hr : DA X T W es fr) (hs : starEach (.Starred e p :: es) X.env = (true, eval e X.env) :: starEach es X.env := by rfl) : DA X T W (.Starred e p :: es) (fStar f fr) :=
  pa_weak (StX.pa_star he hr hs) fun σ H Q ⟨F0, H0, F, en, st, h⟩ => by
    refine ⟨F0, H0, F, en, st, po_seq (rel' := fun F' H' vs rs => RqL X.K T H0 F' H' rs vs) st h (fun _ _ _ _ _ _ _ z => z) fun a x F1 H1 ho st1 l1 q1 h1 => ?_⟩
    cases hi : a.itm with
    | none => rw [hi] at h1; exact h1.elim
    | some xs =>
      rw [hi] at h1
      have hi2 : a.fz.itm = some xs := by
        cases a with
        | new ys => exact absurd hi (by simp [R.itm])
        | _ => exact hi
      obtain ⟨q, vs, rfl, g1, g2⟩ := q1.itm st1.ok st1.up hi2
      refine ⟨q, vs, rfl, g1.symm, F0, H0, F1, en, st1, ?_⟩
      cases hf : fr en with
      | ok r =>
        rw [hf] at h1
        exact fun us F' H' l q => h1 (vs ++ us) F' H' l (RqL.app (g2.mono l.f) q)
      | exc c fs => rw [hf] at h1; exact h1
      | no => rw [hf] at h1; exact h1
end
/-! ### s.split(t) -/
def dSplit (z : List Nat) (b : R) : Option R := match b with
  | .val (.str s) => if s ≠ [] ∧ z.length ≤ 90000 then some (.new ((Txt.split (tx z) (tx s)).map fun u => .str u.cps.toList)) else none
  | _ => none
theorem strs_rpl {K : PySem.W.Frag} {H : Hp} : ∀ us : List Str, RpL K H (us.map fun u => .str u.cps.toList) (us.map V.str)
  | [] => RpL.nil
  | u :: us => RpL.cons (by
      rw [Rp]
      show V.str u = V.str (tx u.cps.toList)
      simp [tx]) (strs_rpl us)
section
variable {X : Cx} {T : Tb} {W : WX} {o e : Expr} {fo fe : Env → O R} {apos pos : Pos}
theorem de_split (ho : DE X T W o fo) (he : DE X T W e fe) (hs : starEach [e] X.env = [(false, eval e X.env)] := by rfl) (hbase : attributeBase o "split" X.env (eval o X.env) = eval o X.env := by rfl) (hline : (apos.endLine == pos.line) = true := by rfl) :
    DE X T W (.Call (.Attribute o "split" apos) [e] [] pos) (fM1 dSplit fo fe) :=
  pe_weak (pe_split ho he hs hbase hline) fun σ H Q h => m1_weak (fun H0 F H z y b c Q ok up q hd k => by
    unfold dSplit at hd
    split at hd
    · rename_i s
      split at hd
      · rename_i hz
        cases hd
        have ev : y = .str (tx s) := rq_str q
        subst ev
        refine ⟨tx z, tx s, rfl, rfl, ?_, ?_, fun p hp => ?_⟩
        · rw [tx_len]
          cases s with
          | nil => exact absurd rfl hz.1
          | cons a b => rfl
        · rw [tx_len]; exact Nat.le_trans (Nat.add_le_add_right hz.2 2) (by decide)
        · exact k _ F _ (Le.newH ok hp) (rr_lst ok hp (strs_rpl _))
      · cases hd
    · cases hd) h
end
/-! ### len(x), a dict of one's own -/
def fLenD (i : Nat) : Env → O R := fun es => match es[i]? with
  | some (.odc ks _) => .ok (.val (.int (ks.length : Nat)))
  | _ => .no
section
variable {X : Cx} {T : Tb} {W : WX} {x y : Str} {p1 p2 pos : Pos}
theorem de_lenD (i : Nat) (hm : X.mg "len" = none) (hN : X.N[i]? = some x := by rfl) (hv : Vis X.env.scope x := by first | exact Or.inl rfl | exact Or.inr (Or.inl rfl) | exact Or.inr (Or.inr rfl)) (hd : (x == ("__debug__" : Str)) = false := by decide)
    (hcd : (x == ("__classdict__" : Str)) = false := by decide) (hg : Gl X "len" := by rfl) (hst : starEach [.Name x p2] X.env = (false, eval (.Name x p2) X.env) :: starEach [] X.env := by rfl) (hpl : (backTo pos (starEach [] X.env)).any (·.1) = false := by rfl) :
    DE X T W (.Call (.Name "len" p1) [.Name x p2] [] pos) (fLenD i) :=
  pe_weak (pe_callB call_lenD hg hm boot_len (pa_cons (pv i hN hv hd hcd) pa_nil hst) (he := hst) (hpl := hpl)) fun σ H Q ⟨F0, H0, F, es, st, h⟩ => by
    unfold fLenD at h
    split at h
    · rename_i ks ds he
      obtain ⟨p, vs, g1, g2, g3, g4, g5, g6, g7⟩ := st.env.dic.1 i ks ds he
      refine ⟨.ref p, g1, p, _, rfl, g5, ?_⟩
      have e : (((ks.map kyOf).zip vs).length : Nat) = ks.length := by
        rw [List.length_zip, List.length_map, ← g7.len, ← g6, Nat.min_self]
      rw [e]
      exact h _ F H (Le.refl st.ok) (by rw [Rr, Rp])
    · exact h.elim
end
/-! ### a dict of one's own, kept as it is from here on -/
def tFrz (t : TS) : TS := fun D σ H => ∃ d u, H d = some u ∧ Mut (some u) ∧ ∀ od, t D σ (upd H d (.frz od u))
theorem ps_frz {X : Cx} {st : Stmt} {t : TS} (h : PS X st t) : PS X st (tFrz t) := ⟨fun pins s σ H D I ⟨d, u, hd, mu, hw⟩ => by
  obtain ⟨od, I1⟩ := I.lock hd mu
  exact h.run pins s σ _ D I1 (hw od)⟩
section
variable {K : PySem.W.Frag} {T : Tb} {F0 H0 F H : Hp} {σ : L2.St} {es : Env}
theorem StOk.frzD {i : Nat} {p : Addr} {vs : List V} {ks : List DK} {ds : List D} (st : StOk K T F0 H0 F H σ es) (he : es[i]? = some (.odc ks ds)) (h1 : σ[i]? = some (some (.ref p))) (h5 : H p = some (.dK ((ks.map kyOf).zip vs))) (h7 : RpL K F ds vs) (od : Obj) :
    ∃ F', Sub F F' ∧ StOk K T F0 H0 F' (upd H p (.frz od (.dK ((ks.map kyOf).zip vs)))) σ (es.set i (.val (.dct ks ds))) := by
  obtain ⟨p', vs', w1, h2, h3, h4, w5, h6, _⟩ := st.env.dic.1 i ks ds he
  have e : p = p' := by rw [h1] at w1; cases w1; rfl
  subst e
  have sb : Sub F (upd F p (.frz od (.dK ((ks.map kyOf).zip vs)))) := Sub.new h3
  have l2 := (st.le.mut (p := p) (o := .frz od (.dK ((ks.map kyOf).zip vs))) h2 h3 h4).frz (p := p) (o := .frz od (.dK ((ks.map kyOf).zip vs))) h2 upd_same h3 h4
  have nl : ∀ {q : Addr} {us : List V}, H q = some (.lst us) → q ≠ p := fun {q us} e z => by subst z; rw [h5] at e; cases e
  refine ⟨_, sb, st.ok0, l2, ⟨by simpa using st.env.len, fun j d h => ?_, fun j d h => ?_, fun j ys h => ?_, fun j k xs ys q g1 g2 g3 g4 => ?_, fun j yss h => ?_, ⟨fun j ks1 ds1 h => ?_, fun j k ks1 ds1 ks2 ds2 q k1 k2 k3 k4 => ?_⟩⟩⟩
  · rcases get_set h with ⟨e, e2⟩ | ⟨e, e2⟩
    · cases e2
      subst e
      refine ⟨.ref p, h1, ?_⟩
      rw [Rp]
      exact ⟨p, od, vs, rfl, upd_same, h6, h7.mono sb⟩
    · obtain ⟨v, g1, g2⟩ := st.env.val j d e2
      exact ⟨v, g1, g2.mono sb⟩
  · rcases get_set h with ⟨e, e2⟩ | ⟨e, e2⟩
    · cases e2
    · exact st.env.brw j d e2
  · rcases get_set h with ⟨e, e2⟩ | ⟨e, e2⟩
    · cases e2
    · obtain ⟨q, us, g1, g2, g3, g4, g5, g6⟩ := st.env.own j ys e2
      have := nl g5
      exact ⟨q, us, g1, g2, by rw [upd_ne this]; exact g3, g4, by rw [upd_ne this]; exact g5, g6.mono sb⟩
  · rcases get_set g1 with ⟨e, e2⟩ | ⟨e, e2⟩
    · cases e2
    · rcases get_set g2 with ⟨f, f2⟩ | ⟨f, f2⟩
      · cases f2
      · exact st.env.uni j k _ _ q e2 f2 g3 g4
  · rcases get_set h with ⟨e, e2⟩ | ⟨e, e2⟩
    · cases e2
    · obtain ⟨p2, ps, g1, g2, g3, g4⟩ := st.env.two j yss e2
      obtain ⟨k1, k2, k3, k4, k5, k6, k7, k8⟩ := g2
      refine ⟨p2, ps, g1, ⟨k1, by rw [upd_ne (nl k4)]; exact k2, k3, by rw [upd_ne (nl k4)]; exact k4, k5, k6, k7, fun m q hm => ?_⟩, fun m zs q hm hq => ?_, fun m zss hm => ?_⟩
      · obtain ⟨f1, f2, f3, us, zs, f4, f5, f6⟩ := k8 m q hm
        exact ⟨f1, by rw [upd_ne (nl f5)]; exact f2, f3, us, zs, f4, by rw [upd_ne (nl f5)]; exact f5, f6.mono sb⟩
      · rcases get_set hm with ⟨f, f2⟩ | ⟨_, f2⟩
        · cases f2
        · exact g3 m zs q f2 hq
      · rcases get_set hm with ⟨f, f2⟩ | ⟨_, f2⟩
        · cases f2
        · exact g4 m zss f2
  · rcases get_set h with ⟨e, e2⟩ | ⟨e, e2⟩
    · cases e2
    · obtain ⟨q, us, g1, g2, g3, g4, g5, g6, g7⟩ := st.env.dic.1 j ks1 ds1 e2
      have : q ≠ p := fun z => by
        subst z
        exact e (st.env.dic.2 i j ks ds ks1 ds1 q he e2 h1 g1)
      exact ⟨q, us, g1, g2, by rw [upd_ne this]; exact g3, g4, by rw [upd_ne this]; exact g5, g6, g7.mono sb⟩
  · rcases get_set k1 with ⟨e, e2⟩ | ⟨e, e2⟩
    · cases e2
    · rcases get_set k2 with ⟨f, f2⟩ | ⟨f, f2⟩
      · cases f2
      · exact st.env.dic.2 j k _ _ _ _ q e2 f2 k3 k4
end
def gFrzD (i : Nat) (g : Env → Out) : Env → Out := fun es => match es[i]? with
  | some (.odc ks ds) => g (es.set i (.val (.dct ks ds)))
  | _ => .no
section
variable {X : Cx} {T : Tb} {W : WX} {st : Stmt} {g : Env → Out}
theorem ds_frzD (i : Nat) (h : DS X T W st g) : DS X T W st (gFrzD i g) := fun F0 H0 => ps_weak (ps_frz (h F0 H0)) fun D σ H ⟨F, es, s, q⟩ => by
  unfold gFrzD at q
  split at q
  · rename_i ks ds he
    obtain ⟨p, vs, g1, g2, g3, g4, g5, g6, g7⟩ := s.env.dic.1 i ks ds he
    refine ⟨p, _, g5, True.intro, fun od => ?_⟩
    obtain ⟨F', sb, s'⟩ := s.frzD he g1 g5 g7 od
    exact ⟨F', _, s', q.sub sb⟩
  · exact q.elim
end
/-! ### reading a dict that stays -/
def fGetF (i : Nat) (fk : Env → O R) : Env → O R := fun es => match es[i]? with
  | some (.val (.dct ks ds)) => (fk es).bind fun r => match keyD r.fz.dat with
    | some k => O.of ((kGet ks ds k).map .val)
    | none => .no
  | _ => .no
def fInF (neg : Bool) (fk : Env → O R) (i : Nat) : Env → O R := fun es => (fk es).bind fun r => match es[i]? with
  | some (.val (.dct ks _)) => match keyD r.fz.dat with
    | some k => .ok (.val (.bl (if neg then !kHas ks k else kHas ks k)))
    | none => .no
  | _ => .no
def fKeys (i : Nat) : Env → O (List R) := fun es => match es[i]? with
  | some (.val (.dct ks _)) => .ok (ks.map fun k => .val (dOfK k))
  | _ => .no
section
variable {X : Cx} {T : Tb} {W : WX} {k : Expr} {fk : Env → O R} {x : Str} {p1 pos : Pos}
theorem slot_dct {K : PySem.W.Frag} {F0 H0 F H : Hp} {σ : L2.St} {es : Env} {i : Nat} {ks : List DK} {ds : List D} (st : StOk K T F0 H0 F H σ es) (he : es[i]? = some (.val (.dct ks ds))) : ∃ p od vs, σ[i]? = some (some (V.ref p)) ∧ F p = some (.frz od (.dK ((ks.map kyOf).zip vs))) ∧ ks.length = ds.length ∧ RpL K F ds vs := by
  obtain ⟨v, h1, h2⟩ := st.env.val i _ he
  rw [Rp] at h2
  obtain ⟨p, od, vs, rfl, h3, h4, h5⟩ := h2
  exact ⟨p, od, vs, h1, h3, h4, h5⟩
theorem de_getF {i : Nat} (hu : X.A.units + 1 < cLine) (hk : DE X T W k fk) (hs : NoSl k := by intro _ _; rfl) (hN : X.N[i]? = some x := by rfl) (hv : Vis X.env.scope x := by first | exact Or.inl rfl | exact Or.inr (Or.inl rfl) | exact Or.inr (Or.inr rfl)) (hd : (x == ("__debug__" : Str)) = false := by decide)
    (hcd : (x == ("__classdict__" : Str)) = false := by decide) : DE X T W (.Subscript (.Name x p1) k pos) (fGetF i fk) :=
  pe_weak (pe_dget hu (pv i hN hv hd hcd) hk hs) fun σ H Q ⟨F0, H0, F, es, st, h⟩ => by
    unfold fGetF at h
    split at h
    · rename_i ks ds he
      obtain ⟨p, od, vs, g1, g5, g6, g7⟩ := slot_dct st he
      refine ⟨.ref p, g1, F0, H0, F, es, st, pr_seq st h fun r v F1 H1 _ st1 l1 q1 h1 => ?_⟩
      split at h1
      · rename_i kk hkk
        cases hg : kGet ks ds kk with
        | none => rw [hg] at h1; exact h1.elim
        | some d =>
          rw [hg] at h1
          obtain ⟨u, e1, e2⟩ := (kGet_zip (k := kk) (g7.mono l1.f) g6).1 d hg
          have ev : v = kV (kyOf kk) := key_rp hkk (st1.rq q1)
          subst ev
          exact ⟨p, u, rfl, .inl ⟨_, _, .inr ⟨od, st1.ok.sub _ _ (l1.f _ _ g5)⟩, rfl, e1.symm⟩, h1 u F1 H1 (Le.refl st1.ok) e2⟩
      · exact h1.elim
    · exact h.elim
theorem inF_weak {K : PySem.W.Frag} {neg : Bool} {i : Nat} {σ : L2.St} {H : Hp} {Q : VK} (h : tD K T W (fInF neg fk i) σ H Q) : tD K T W fk σ H fun y H1 => tVar i σ H1 fun x H2 => ∃ a o, x = .ref a ∧ DGet H2 a y o ∧ Q (.bl (if neg then !o.isSome else o.isSome)) H2 := by
  obtain ⟨F0, H0, F, es, st, h⟩ := h
  refine ⟨F0, H0, F, es, st, pr_seq st h fun r v F1 H1 _ st1 l1 q1 h1 => ?_⟩
  split at h1
  · rename_i ks ds he
    obtain ⟨p, od, vs, g1, g5, g6, g7⟩ := slot_dct st1 he
    split at h1
    · rename_i kk hkk
      have ev : v = kV (kyOf kk) := key_rp hkk (st1.rq q1)
      subst ev
      refine ⟨.ref p, g1, p, valV ((ks.map kyOf).zip vs) (kyOf kk), rfl, .inl ⟨_, _, .inr ⟨od, st1.ok.sub _ _ g5⟩, rfl, rfl⟩, ?_⟩
      rw [kGet_o g7 g6]
      exact h1 _ F1 H1 (Le.refl st1.ok) (by rw [Rr, Rp])
    · exact h1.elim
  · exact h1.elim
theorem dt_inF (i : Nat) (hu : X.A.units + 1 < cLine) (hk : DE X T W k fk) (hN : X.N[i]? = some x := by rfl) (hv : Vis X.env.scope x := by first | exact Or.inl rfl | exact Or.inr (Or.inl rfl) | exact Or.inr (Or.inr rfl)) (hd : (x == ("__debug__" : Str)) = false := by decide)
    (hcd : (x == ("__classdict__" : Str)) = false := by decide) : DT X T W (.Compare k [.In] [.Name x p1] pos) (fTest (fInF false fk i)) :=
  pt_weak (pt_cmp (pc_din hu hk (pv i hN hv hd hcd))) fun σ H Q h => by
    have q := test_weak (K := X.K) h
    unfold tTest at q
    exact inF_weak q
theorem dt_ninF (i : Nat) (hu : X.A.units + 1 < cLine) (hk : DE X T W k fk) (hN : X.N[i]? = some x := by rfl) (hv : Vis X.env.scope x := by first | exact Or.inl rfl | exact Or.inr (Or.inl rfl) | exact Or.inr (Or.inr rfl)) (hd : (x == ("__debug__" : Str)) = false := by decide)
    (hcd : (x == ("__classdict__" : Str)) = false := by decide) : DT X T W (.Compare k [.NotIn] [.Name x p1] pos) (fTest (fInF true fk i)) :=
  pt_weak (pt_cmp (pc_dnotin hu hk (pv i hN hv hd hcd))) fun σ H Q h => by
    have q := test_weak (K := X.K) h
    unfold tTest at q
    exact inF_weak q
theorem di_keys {fz : Bool} {tg : Expr} (i : Nat) (hN : X.N[i]? = some x := by rfl) (hv : Vis X.env.scope x := by first | exact Or.inl rfl | exact Or.inr (Or.inl rfl) | exact Or.inr (Or.inr rfl)) (hd : (x == ("__debug__" : Str)) = false := by decide)
    (hcd : (x == ("__classdict__" : Str)) = false := by decide) : DI fz X T W tg (.Name x p1) (fKeys i) :=
  pi_weak (pi_keys (pv i hN hv hd hcd)) fun σ H Rk ⟨F0, H0, F, es, st, h⟩ => by
    unfold fKeys at h
    split at h
    · rename_i ks ds he
      obtain ⟨p, od, vs, g1, g5, g6, g7⟩ := slot_dct st he
      refine ⟨.ref p, g1, p, od, rfl, .inl ⟨_, st.ok.sub _ _ g5, h _ F H (Le.refl st.ok) ?_⟩⟩
      have hl : ((ks.map kyOf).zip vs).length = ks.length := by rw [List.length_zip, List.length_map, ← g7.len, ← g6, Nat.min_self]
      refine ⟨fun H => H p = some (.frz od (.dK ((ks.map kyOf).zip vs))), fun j H x H' => H' = H ∧ ∃ k v, ((ks.map kyOf).zip vs)[j]? = some (k, v) ∧ x = kV k, by rw [List.length_map, ← hl]; exact walk_keys, fun F2 H2 s => s.2.ok.sub _ _ (s.f _ _ g5), fun j H2 y H3 F2 hj s ⟨e1, kk, u, e2, e3⟩ => ?_⟩
      subst e1 e3
      have hk2 : (ks.map kyOf)[j]? = some kk := by
        rw [List.getElem?_zip_eq_some] at e2
        exact e2.1
      rw [List.getElem?_map] at hk2
      cases hkj : ks[j]? with
      | none => rw [hkj] at hk2; cases hk2
      | some k0 =>
        rw [hkj] at hk2
        cases hk2
        exact ⟨F2, .val (dOfK k0), by rw [List.getElem?_map, hkj]; rfl, Le.refl s.2.ok, dOfK_rp k0⟩
    · exact h.elim
end
end Fw
namespace Fw
open PySem PySem.Spec PyProof.Rows L2
/-! ### enumerate(list, start=n) -/
section
variable {M : Model} {A : Around} {E : Value → Shared → Prop} {s : Shared} {env : PySem.Env}
theorem callWith_type_kwB {pos : Pos} {T : String} {first : List Value} {args : List (Bool × Sem Value)} {keywords : List (Option Str × Sem Value)} {Q : Value → Shared → Prop}
    (hplain : args.any (·.1) = false) (hkw : keywords.any (·.1.isNone) = false)
    (h : wpAny M A (evalArgs (.type T) true args keywords) (fun a s₁ => wpAny M A (call (.type T) (first ++ a.pos) a.kw) Q E s₁) E s) :
    wpAny M A (callWith pos (.type T) first args keywords) Q E s := by
  unfold callWith
  refine wpAny_bind (wpAny_holding (wpAny_mono h (fun a s₁ h₁ => wpAny_bind (wpAny_standAt ?_)) fun _ _ x => x))
  simp only [hplain, hkw, Bool.or_false]
  refine wpAny_bind (wpAny_pure ?_)
  exact wpAny_bind (wpAny_mono h₁ (fun r s₂ hr => wpAny_bind (wpAny_holding (wpAny_point (wpAny_pure hr)))) fun _ _ x => x)
theorem callWith_typeKw {pos : Pos} {T : String} {e : Expr} {rest : List Expr} {kws : List Keyword} {Q : Value → Shared → Prop}
    (h : wpAny M A (spliced (backTo pos (starEach (e :: rest) env))) (fun vs s₁ => wpAny M A (evalAll ((backToKw pos (keywordEach kws env)).map (·.2)))
      (fun kvs s₂ => wpAny M A (call (.type T) vs (((backToKw pos (keywordEach kws env)).filterMap (·.1)).zip kvs)) Q E s₂) E s₁) E s)
    (he : backTo pos (starEach (e :: rest) env) = (false, eval e env) :: backTo pos (starEach rest env) := by rfl)
    (hplain : (backTo pos (starEach (e :: rest) env)).any (·.1) = false := by rfl)
    (hall : (backToKw pos (keywordEach kws env)).all (·.1.isSome) = true := by rfl)
    (hkw : (backToKw pos (keywordEach kws env)).any (·.1.isNone) = false := by rfl) :
    wpAny M A (callWith pos (.type T) [] (backTo pos (starEach (e :: rest) env)) (backToKw pos (keywordEach kws env))) Q E s := by
  refine callWith_type_kwB hplain hkw ?_
  rw [he] at h ⊢
  exact evalArgs_kwB hall h
end
def IteF (K : PySem.W.Frag) (c : Int) (a : Addr) : It :=
  ⟨fun i H => ∃ (xs : List V) (x : V), SqL K H a xs ∧ xs[i]? = some x, fun i H v H' => ∃ T x, v = .ref T ∧ H T = none ∧ H' = upd H T (.tup [.int (c + (i : Nat)), x]) ∧ ∀ xs, SqL K H a xs → xs[i]? = some x, fun i H => ∃ xs : List V, SqL K H a xs ∧ i = xs.length⟩
theorem walk_enumF {K : PySem.W.Frag} {c : Int} {a : Addr} {xs : List V} : Walk (IteF K c a) xs.length (fun H => SqL K H a xs) (YPair (fun i => some (.int (c + (i : Nat)))) (fun i => xs[i]?)) := by
  refine ⟨fun i _ hi q => ⟨xs, xs[i], q, by simp [hi]⟩, fun _ q => ⟨xs, q, rfl⟩, fun i H v H' _ q y => ?_⟩
  obtain ⟨T, x, h1, h2, h3, h4⟩ := y
  exact ⟨T, .int (c + (i : Nat)), x, h1, h2, h3, rfl, h4 xs q⟩
theorem turn_enumF {P : Program} {w : World} {K : PySem.W.Frag} {elts : List Expr} {kk : Nat} {tpos : Pos} (c : Int) (a e it : Addr) (hai : a ≠ it) (hae : e ≠ a) :
    Turn P w K (.Tuple elts kk tpos) (IteF K c a) [e, it] e (fun i h => (∃ old, IsEnum h e it (c + (i : Nat)) old) ∧ h.IsListIter it a i ∧ e ≠ it) where
  mem := by simp
  obj := fun i h st b hb => by
    obtain ⟨⟨old, he⟩, ⟨o, ho, hc, hd⟩, _⟩ := st
    have e' : b = e ∨ b = it := by simpa using hb
    rcases e' with z | z
    · rw [z]; exact ⟨_, he, fun v q => nomatch q⟩
    · rw [z]; exact ⟨o, ho, fun v q => by rw [hd] at q; cases q⟩
  keep := fun i h h' st k => let ⟨⟨old, he⟩, hi, hne⟩ := st; ⟨⟨old, k e (by simp) _ he⟩, hi.at fun o q => k it (by simp) o q, hne⟩
  item := by
    intro X hP hw hK hc i pins s σ H E I hf st hg
    subst hP hw hK
    obtain ⟨⟨old, he⟩, hit, hne⟩ := st
    obtain ⟨xs, x, hq, hx⟩ := hg
    obtain ⟨its, rv, p, hz⟩ := I.list hq
    obtain ⟨u, hu, ru⟩ := rv.get hx
    have hh : X.A.in1.handled = none := I.ok.hd hc
    have hel : e < s.heap.objs.size := Heap.lt_size he
    have hil : it < s.heap.objs.size := by obtain ⟨_, q, _⟩ := hit; exact Heap.lt_size q
    have hlt : i < its.toArray.size := by
      rw [List.size_toArray, ← rv.length]
      exact (List.getElem?_eq_some_iff.mp hx).1
    refine wpAny_pyNext_enum_itemC (Draws.list hh it a hai its.toArray) he ⟨hit, p.isList⟩ hlt hne (by simp; exact ⟨hne, hae⟩) fun y h' tk hy ho hs' hT hsz hk => ?_
    have hy2 : u = y := by
      have e1 : its.toArray[i]? = some u := by simpa using hu
      rw [e1] at hy; exact Option.some.inj hy
    subst hy2
    refine ⟨_, rfl, wpAny_letOwnedTupleGo_enum (s := { s with heap := h', toks := tk + 1 }) ho fun h'' he' sb => ?_⟩
    have hT2 : h''.get? s.heap.objs.size = some { cls := .type "tuple", data := .seq #[.int (c + (i : Nat)) tk, u] } := (sb.2 _ (Nat.ne_of_gt hel)).trans hT
    have new : ObjOk X.prog X.w (upd H s.heap.objs.size (.tup [.int (c + (i : Nat)), x])) h'' s.heap.objs.size (.tup [.int (c + (i : Nat)), x]) :=
      ⟨by show 2 ≤ sizeLine; decide, [.int (c + (i : Nat)) tk, u], .cons ⟨_, rfl⟩ (.cons ru .nil), ⟨_, hT2, rfl, _, rfl⟩⟩
    have I1 : Inv X pins σ (upd H s.heap.objs.size (.tup [.int (c + (i : Nat)), x])) { s with heap := h'', toks := tk + 1 } :=
      I.turnedNew (ch := [e, it]) (fun b ob hb q => (sb.2 b (fun z => hb (by simp [z]))).trans (hk b ob (fun z => hb (by simp [z])) (fun z => hb (by simp [z])) q)) hf (Nat.le_refl _) new
    refine ⟨.ref s.heap.objs.size, _, I1, rfl, ⟨_, x, rfl, I.hok.fresh (Nat.le_refl _), rfl, fun ys hy => by rw [I.list_inj hy hq]; exact hx⟩, ⟨⟨u, ?_⟩, hs'.1.at fun o q => (sb.2 it (Ne.symm hne)).trans q, hne⟩, fun b hb => ?_⟩
    · have e1 : c + ((i + 1 : Nat) : Int) = c + (i : Nat) + 1 := by omega
      rw [e1]; exact he'
    · have hb' : b < s.heap.objs.size := by
        have e' : b = e ∨ b = it := by simpa using hb
        rcases e' with z | z
        · rw [z]; exact hel
        · rw [z]; exact hil
      rw [upd_ne (Nat.ne_of_lt hb')]
      exact (hf b hb).1
  done := by
    intro X hP hw hK hc i pins s σ H E I hf st hg
    subst hP hw hK
    obtain ⟨⟨old, he⟩, hit, hne⟩ := st
    obtain ⟨xs, hq, hx⟩ := hg
    obtain ⟨its, rv, p, hz⟩ := I.list hq
    obtain ⟨f0, f1, f2, f3, f4, f5⟩ := hf it (by simp)
    have hl := rv.length
    have hh : X.A.in1.handled = none := I.ok.hd hc
    have hi : i = its.toArray.size := by rw [List.size_toArray, ← hl]; exact hx
    subst hi
    exact wpAny_pyNext_enum_endD (Draws.list hh it a hai its.toArray) he ⟨hit, p.isList⟩ fun h' eb => ⟨rfl, I.turned (t' := s.toks) (fun b o hb q => eb b o hb q) f0 f1 f3 f4 f5⟩
  self := fun A i s Q E st h => let ⟨⟨_, he⟩, _⟩ := st; wpAny_pyIter_enum he h
def iEnumF (K : PySem.W.Frag) (c : Int) (ta : TA) : TI := fun σ H R => ta σ H fun vs H1 => ∃ a xs, vs = [.ref a] ∧ SqL K H1 a xs ∧ R (IteF K c a) H1
theorem pi_enumF {X : Cx} {e : Expr} {ta : TA} {p pos tpos p2 kpos : Pos} {elts : List Expr} {kk n jj : Nat} (hn : n < 1000) (hg : Gl X "enumerate") (hm : X.mg "enumerate" = none) (ha : PA X [e] ta)
    (hs : backTo pos (starEach [e] X.env) = (false, eval e X.env) :: backTo pos (starEach [] X.env) := by rfl) (hpl : (backTo pos (starEach [e] X.env)).any (·.1) = false := by rfl)
    (hall : (backToKw pos (keywordEach [⟨some (Str.ofString "start"), .Constant (.int n) jj p2, kpos⟩] X.env)).all (·.1.isSome) = true := by rfl) (hnone : (backToKw pos (keywordEach [⟨some (Str.ofString "start"), .Constant (.int n) jj p2, kpos⟩] X.env)).any (·.1.isNone) = false := by rfl)
    (hks : (backToKw pos (keywordEach [⟨some (Str.ofString "start"), .Constant (.int n) jj p2, kpos⟩] X.env)).filterMap (·.1) = [Str.ofString "start"] := by rfl) :
    PI X (.Tuple elts kk tpos) (.Call (.Name "enumerate" p) [e] [⟨some (Str.ofString "start"), .Constant (.int n) jj p2, kpos⟩] pos) (iEnumF X.K n ta) := by
  refine ⟨fun pins s σ H R I h => ?_⟩
  have hk : PK X [⟨some (Str.ofString "start"), .Constant (.int n) jj p2, kpos⟩] (tCons (tC (.int n)) tNil) := pk_cons pe_int pk_nil
  refine wpAny_Call_Name_kw (ld_blt I hg hm boot_enumerate (callWith_typeKw (thn (ha.run pos pins s σ H _ I h) fun us s1 ⟨vs, H1, I1, r1, q1⟩ => thn (hk.run pos pins s1 σ H1 (fun zs H2 => zs = [.int n] ∧ H2 = H1) I1 ⟨rfl, rfl⟩) fun ws s2 ⟨zs, H2, I2, r2, q2, q3⟩ => ?_) hs hpl hall hnone))
  subst q2 q3
  rw [hks]
  obtain ⟨a, xs, ex, hq, q⟩ := q1
  subst ex
  cases r1 with
  | cons r rr =>
    cases rr
    cases r
    obtain ⟨w1, rfl, e1⟩ := vals1 r2
    obtain ⟨t, rfl⟩ := e1
    obtain ⟨its, rv, p', hz⟩ := I2.list hq
    refine enum_begins_start (begins_list a its.toArray) p'.isList (by omega) (by omega) fun h' he hit hsz hk => wpAny_pyIter_enum he ?_
    have I3 : Inv X pins σ H2 { s2 with heap := h' } := I2.kept (t' := s2.toks) hk
    have hal : a < s2.heap.objs.size := p'.lt
    refine ⟨s2.heap.objs.size + 1, [s2.heap.objs.size + 1, s2.heap.objs.size], _, _, H2, rfl, I3, turn_enumF n a (s2.heap.objs.size + 1) s2.heap.objs.size (Nat.ne_of_lt hal) (Ne.symm (Nat.ne_of_lt (Nat.lt_succ_of_lt hal))), ⟨⟨.none, by rw [Int.natCast_zero, Int.add_zero]; exact he⟩, ⟨_, hit, rfl, rfl⟩, Nat.succ_ne_self _⟩, fun b hb => ?_, q⟩
    have e' : b = s2.heap.objs.size + 1 ∨ b = s2.heap.objs.size := by simpa using hb
    have hle : s2.heap.objs.size ≤ b := by
      rcases e' with z | z
      · rw [z]; exact Nat.le_add_right _ _
      · rw [z]; exact Nat.le_refl _
    exact I2.fpOk hle (I2.hok.fresh hle)
def enDI (k : Int) : List D → List R
  | [] => []
  | d :: ds => .val (.tup [.int k, d]) :: enDI (k + 1) ds
theorem enDI_len : ∀ (k : Int) (ds : List D), (enDI k ds).length = ds.length
  | _, [] => rfl
  | k, d :: ds => by simp [enDI, enDI_len (k + 1) ds]
theorem enDI_at : ∀ (k : Int) (ds : List D) (i : Nat) (d : D), ds[i]? = some d → (enDI k ds)[i]? = some (.val (.tup [.int (k + (i : Nat)), d]))
  | _, [], i, d, h => by simp at h
  | k, d :: ds, 0, d', h => by simp at h; subst h; simp [enDI]
  | k, d :: ds, i + 1, d', h => by
    have := enDI_at (k + 1) ds i d' (by simpa using h)
    simp only [enDI, List.getElem?_cons_succ]
    rw [this]
    have e : k + 1 + (i : Nat) = k + ((i + 1 : Nat) : Int) := by omega
    rw [e]
def fEnumF (n : Nat) (fr : Env → O (List R)) : Env → O (List R) := fun es => (fr es).bind fun rs => match rs with
  | [r] => match zArg r with
    | some xs => .ok (enDI n xs)
    | none => .no
  | _ => .no
section
variable {X : Cx} {T : Tb} {W : WX}
theorem di_enumF {fz : Bool} {e : Expr} {fr : Env → O (List R)} {p pos tpos p2 kpos : Pos} {elts : List Expr} {kk n jj : Nat} (hn : n < 1000) (hm : X.mg "enumerate" = none) (ha : DA X T W [e] fr) (hg : Gl X "enumerate" := by rfl)
    (hs : backTo pos (starEach [e] X.env) = (false, eval e X.env) :: backTo pos (starEach [] X.env) := by rfl) (hpl : (backTo pos (starEach [e] X.env)).any (·.1) = false := by rfl)
    (hall : (backToKw pos (keywordEach [⟨some (Str.ofString "start"), .Constant (.int n) jj p2, kpos⟩] X.env)).all (·.1.isSome) = true := by rfl) (hnone : (backToKw pos (keywordEach [⟨some (Str.ofString "start"), .Constant (.int n) jj p2, kpos⟩] X.env)).any (·.1.isNone) = false := by rfl)
    (hks : (backToKw pos (keywordEach [⟨some (Str.ofString "start"), .Constant (.int n) jj p2, kpos⟩] X.env)).filterMap (·.1) = [Str.ofString "start"] := by rfl) :
    DI fz X T W (.Tuple elts kk tpos) (.Call (.Name "enumerate" p) [e] [⟨some (Str.ofString "start"), .Constant (.int n) jj p2, kpos⟩] pos) (fEnumF n fr) :=
  pi_weak (pi_enumF hn hg hm ha hs hpl hall hnone hks) fun σ H Rk ⟨F0, H0, F, es, st, h⟩ => ⟨F0, H0, F, es, st, pa_seqI st h (fun _ _ _ _ z => z) fun rs vs F1 H1 _ st1 l1 q1 h1 => by
    split at h1
    · rename_i r _
      obtain ⟨v, rfl, q2⟩ := rql1 q1
      split at h1
      · rename_i xs hx
        obtain ⟨a, us, rfl, s1, n1, w1⟩ := zarg_ok st1 q2 hx
        refine ⟨a, us, rfl, s1, h1 _ F1 H1 (Le.refl st1.ok) ?_⟩
        refine ⟨fun H => SqL X.K H a us, YPair (fun i => some (.int ((n : Int) + (i : Nat)))) (fun i => us[i]?), by rw [enDI_len, n1]; exact walk_enumF, fun F2 H2 s => (w1 F2 H2 s).1, fun i H2 x H3 F2 hi s ⟨p, u, w, e1, e2, e3, e4, e5⟩ => ?_⟩
        subst e1 e3
        cases e4
        obtain ⟨d', h4, h5⟩ := (w1 F2 H2 s).2.getV e5
        exact ⟨_, _, enDI_at n xs i d' h4, Le.new s.2.ok e2, rp_tup (s.2.ok.nf e2) (RpL.cons (by rw [Rp]) (RpL.cons h5 RpL.nil))⟩
      · exact h1.elim
    · exact h1.elim⟩
end
end Fw
namespace Fw
open PySem PySem.Spec PyProof.Rows L2
/-! ### a class of errors whose own __init__ says super().__init__(f"..{row}..") and keeps row -/
section
variable {prog : Program} {w : World} {A : Around} {E : Value → Shared → Prop} {h : Heap} {g : Array GenState} {d : Drawn} {t : Nat} {os : OsState}
variable {nm q : Str} {C N : Addr} {bs bm : List Value} {hdct : Bool} {sn : List Str} {sub : List Value} {ab : Bool} {col : Option Bool} {dd : Option Addr} {k0 k1 k2 k3 k5 : Option Value}
abbrev mwO (e : Addr) : Obj := PySem.W.kxs_mw "ValueError.__init__" e
/-- the bound __init__ of ValueError, called -/
theorem mw_call {u e t0 : Addr} {rest : List Value} {Q : Value → Shared → Prop} (hC : h.get? C = some (excClassObj nm q C N bs bm hdct sn sub ab col dd k0 k1 k2 k3 k5 "ValueError.__new__")) (he : h.get? e = some (HandSPX.excO C t0)) (hu : h.get? u = some (mwO e)) (hz : rest.length ≤ sizeLine)
    (hq : ∀ h' t1, (∀ b o, b ≠ e → h.get? b = some o → h'.get? b = some o) → h'.get? e = some (HandSPX.excO C t1) → Q .none ⟨h', g, d, t, os⟩) : wpAny (model prog w) A (call (.ref u) rest) Q E ⟨h, g, d, t, os⟩ := by
  refine wpAny_call (codeAny_of_tree ?_); show wpAny _ A.in1 (callAny (.ref u) ⟨rest, []⟩) _ _ _
  simp only [callAny]; refine wpAny_bind (wpAny_load hu ?_)
  have w1 : (Value.type "method-wrapper" == Value.type "method" || Value.type "method-wrapper" == Value.type "builtin_function_or_method" || Value.type "method-wrapper" == Value.type "method-wrapper") = true := by decide
  simp only [mwO, PySem.W.kxs_mw, w1, if_true]
  refine PySem.W.KFB.if_so (by decide) (wpAny_bind (PySem.W.check_bound_init F.excBase_ValueError.toExcCallFacts hC he rfl (wpAny_bind (wpAny_pure (wpAny_pure ?_)))))
  refine ⟨plainId_quiet F.excBase_ValueError.init.plain _, codeAny_builtin F.excBase_ValueError.initEntry ?_⟩
  exact PySem.W.exc_init_tree (cls := .ref C) (t0 := t0) (dv := none) (c2 := .none) (c3 := .none) (b4 := .bool false) he hz fun h' k e1 _ => hq h' _ k e1
end
/-- an env with the class's cell -/
abbrev envS (qual : Str) (scope : Scope) (L f : Addr) (cd cc : Addr) : PySem.Env := PySem.W.ksEnv qual scope L f (.ref cd) cc
/-- .. and its context -/
def cxS (P : Program) (w : World) (K : PySem.W.Frag) (mg : Str → Option Value) (base : Heap) (N : List Str) (qual : Str) (scope : Scope) (f cd cc : Addr) (A : Around) (outer : List PySem.Env) (s : Shared) (H : Hp) (E : XK) : Cx where
  prog := P
  w := w
  K := K
  mg := mg
  base := base
  A := A.deeper (envS qual scope s.heap.objs.size f cd cc)
  N := N
  s_0 := s
  H_0 := H
  env := envS qual scope s.heap.objs.size f cd cc
  outer := outer
  stack := envS qual scope s.heap.objs.size f cd cc :: outer
  ex := []
  calm := true
  fn := fun _ => false
  pn := []
  xe := fun e s' => wpAny (model P w) (A.deeper (envS qual scope s.heap.objs.size f cd cc)) (leaving (envS qual scope s.heap.objs.size f cd cc) e) (fun _ s2 => L2.CX P w outer H s E e s2) (fun e2 s2 => L2.CX P w outer H s E e2 s2) s'
/-- what is written of the class and of its __init__ -/
structure XinC (P : Program) (K : PySem.W.Frag) (C f cc cda : Addr) (fd : FuncData) (scope : Scope) (body : List Stmt) (qual : Str) : Prop where
  oex : OexC K C
  fld : PySem.W.findIn K (.ref C) "row" = some none
  sup : PySem.W.ks_superIn K C C "__init__" = some (some (.builtin "ValueError.__init__"))
  stat : PySem.W.nsIn K cStatics "thirdparty.any" = some none
  nosup : PySem.W.nsIn K mainGlobals "super" = some none
  vE : PySem.W.subIn K (.ref C) (.type "ValueError") = some true
  mro : PySem.W.mroIn K C (.ref C) = some true
  lk : ∃ oc od osl, K.lookup f = some ⟨oc, od, .func fd, osl⟩
  fdE : fd.params.posonlyargs = [] ∧ fd.params.args.map (·.arg) = ([("self" : Str), "row"]) ∧ fd.scope = scope ∧ fd.body = .stmts body ∧ fd.globals = mainGlobals ∧ fd.closure = [(("__class__" : Str), cc)] ∧ fd.qualname = qual ∧ fd.code = .ref cda ∧ fd.builtins = builtinsNs
  code : PySem.W.codeIn K (.ref cda) qual = true
  file : ∃ ccl cdd vs ccs file tf, K.lookup cda = some ⟨ccl, cdd, .fields vs, ccs⟩ ∧ vs[2]? = some (.str file tf) ∧ ((P.main.file : Str) == file) = true
  cell : ∃ cl cld csl, K.lookup cc = some ⟨cl, cld, .cell (some (.ref C)), csl⟩
  top : (P.main.scope.names.lookup ("super" : Str)).isSome = false
  kind : scope.kind = .function
  co : scope.isCoroutine = false
  gen : scope.isGenerator = false
  nm : scope.names = [(("self" : Str), NameKind.local), (("row" : Str), NameKind.local), (("__class__" : Str), NameKind.free), (("super" : Str), NameKind.globalImplicit)]
/-- row ↦ the object with its field -/
def spRow (C : Addr) : Sp := fun vs H Q E => ∃ a i, vs = [.ref a, .int i] ∧ i.natAbs.log2 < 1920 ∧ (toString i : Str).length ≤ 1000 ∧ H a = some (exo a C none) ∧ ∀ dx, H dx = none → dx ≠ a → Q .non (upd (upd H dx (exd dx [("row", .int i)])) a (exo a C (some dx)))
theorem one_cell {cc c : Addr} {x : Str} (h : List.lookup x [(("__class__" : Str), cc)] = some c) : x = "__class__" ∧ c = cc := by
  rw [List.lookup_cons] at h
  split at h
  · rename_i e
    exact ⟨beq_iff_eq.mp e, (Option.some.inj h).symm⟩
  · cases h
section
variable {P : Program} {w : World} {K : PySem.W.Frag} {mg : Str → Option Value} {base : Heap}
theorem inv_startS {C f cc cda : Addr} {fd : FuncData} {scope : Scope} {body : List Stmt} {qual : Str} (Xc : XinC P K C f cc cda fd scope body qual) {A : Around} {outer : List PySem.Env} {s : Shared} {H : Hp} {E : XK} {ua ur : Value} {va vr : V} {h1 : Heap} {tk : Nat} (hd : A.handled = none) (e0 : Env0 P w K mg base A outer s H)
    (ra : RelV va ua) (rr : RelV vr ur) (hns : h1.Ns s.heap.objs.size (fun y => [(("self" : Str), ua), ("row", ur)].reverse.lookup y)) (hk : ∀ b o, s.heap.get? b = some o → h1.get? b = some o) :
    Inv (cxS P w K mg base ["self", "row"] qual scope f cda cc A outer s H E) [] [some va, some vr] H { s with heap := h1, toks := tk } := by
  obtain ⟨cl, cld, csl, lcc⟩ := Xc.cell
  have hcc := e0.mod.kin _ _ lcc
  have nmk : ∀ {x : Str} {k : NameKind}, scope.names.lookup x = some k → (x, k) ∈ scope.names := fun h => PySem.mem_of_lookup h
  refine ⟨⟨e0.mod, Xc.kind, rfl, rfl, Nat.le_refl _, fun y z c h1 h2 => ?_, fun y hy => ?_, fun y c h => ?_, fun _ => hd, Around.frames_deeper e0.frames, .inr ⟨rfl, rfl⟩, fun b z => ?_, e0.bs, e0.bsz, fun b _ _ => ?_, fun b z => ?_, e0.funs, e0.frf⟩,
    rfl, e0.bare, Un.kept hk, ⟨_, hns, fun i x v h1 h2 _ => ?_⟩, fun y c h => ?_, e0.hok.fresh (Nat.le_refl _), fun y c h => ?_, fun p hp => ?_, e0.hok.kept hk, rfl⟩
  · exact (one_cell h1).1.trans (one_cell h2).1.symm
  · have hy2 : y = "__class__" := by
      rcases hy with hy | hy
      · have m := nmk (show scope.names.lookup y = some .cell from hy)
        rw [Xc.nm] at m
        simp at m
      · have m := nmk (show scope.names.lookup y = some .free from hy)
        rw [Xc.nm] at m
        simpa using m
    subst hy2
    exact ⟨cc, rfl⟩
  · cases h
  · exact absurd (show b ∈ ([] : List Addr) from z) (by simp)
  · intro z; exact absurd (show b ∈ ([] : List Addr) from z) (by simp)
  · exact absurd (show b ∈ ([] : List Addr) from z) (by simp)
  · match i, h1, h2 with
    | 0, h1, h2 =>
      cases h1; cases h2
      exact ⟨ua, ra, .inl ⟨by show scope.names.lookup _ = _; rw [Xc.nm]; rfl, rfl⟩⟩
    | 1, h1, h2 =>
      cases h1; cases h2
      exact ⟨ur, rr, .inl ⟨by show scope.names.lookup _ = _; rw [Xc.nm]; rfl, rfl⟩⟩
    | n + 2, h1, h2 => cases h1
  · obtain ⟨_, rfl⟩ := one_cell h
    exact ⟨some (.ref C), _, hk _ _ ((e0.bs _ _ hcc).1), rfl⟩
  · obtain ⟨_, rfl⟩ := one_cell h
    exact (e0.bs _ _ hcc).2
  · exact absurd (show p ∈ ([] : List (Addr × Obj)) from hp) (by simp)
/-- the body -/
def rowB (m1 m2 : Str) (j1 j2 : Nat) (p0 p1 p2 p3 p4 p5 p6 p7 p8 q1 q2 q3 q4 q5 : Pos) : List Stmt := [.Expr (.Call (.Attribute (.Call (.Name "super" p0) [] [] p1) "__init__" p2) [.JoinedStr [.Constant (.str m1) j1 q1, .FormattedValue (.Name "row" q2) (-1) none q3, .Constant (.str m2) j2 q4] q5] [] p3) p4, .Assign [.Attribute (.Name "self" p5) "row" p6] (.Name "row" p7) p8]
/-- what the texts' evaluation is, at the places told -/
structure RowE (f cda cc : Addr) (qual : Str) (scope : Scope) (m1 m2 : Str) (j1 j2 : Nat) (p0 p1 p2 p3 p4 p5 p6 p7 p8 q1 q2 q3 q4 q5 : Pos) : Prop where
  call : ∀ L, ∃ pl, eval (.Call (.Attribute (.Call (.Name "super" p0) [] [] p1) "__init__" p2) [.JoinedStr [.Constant (.str m1) j1 q1, .FormattedValue (.Name "row" q2) (-1) none q3, .Constant (.str m2) j2 q4] q5] [] p3) (envS qual scope L f cda cc) = (do
    let ov ← attributeBase (.Call (.Name "super" p0) [] [] p1) "__init__" (envS qual scope L f cda cc) (eval (.Call (.Name "super" p0) [] [] p1) (envS qual scope L f cda cc))
    standAt p2.atName
    let (f', first) ← holding [ov] (getMethod ov "__init__" pl)
    callWith p3 f' first (backTo p3 (starEach [.JoinedStr [.Constant (.str m1) j1 q1, .FormattedValue (.Name "row" q2) (-1) none q3, .Constant (.str m2) j2 q4] q5] (envS qual scope L f cda cc))) [])
  sw1 : ∀ L, swapsWith (.Call (.Attribute (.Call (.Name "super" p0) [] [] p1) "__init__" p2) [.JoinedStr [.Constant (.str m1) j1 q1, .FormattedValue (.Name "row" q2) (-1) none q3, .Constant (.str m2) j2 q4] q5] [] p3) none p4.line (envS qual scope L f cda cc) = pure false
  sw2 : ∀ L, swapsWith (.Name "row" p7) (some (.Attribute (.Name "self" p5) "row" p6)) p8.line (envS qual scope L f cda cc) = pure false
theorem len_app (a b : Str) : (a ++ b).length = a.length + b.length := by
  obtain ⟨a⟩ := a; obtain ⟨b⟩ := b
  show (Array.append a b).size = a.size + b.size
  simp
theorem len_emp : Str.empty.length = 0 := rfl
set_option maxHeartbeats 8000000 in
theorem row_init {C f cc cda : Addr} {fd : FuncData} {scope : Scope} {qual : Str} {k : Nat} {m1 m2 : Str} {j1 j2 : Nat} {p0 p1 p2 p3 p4 p5 p6 p7 p8 q1 q2 q3 q4 q5 : Pos}
    (Xc : XinC P K C f cc cda fd scope (rowB m1 m2 j1 j2 p0 p1 p2 p3 p4 p5 p6 p7 p8 q1 q2 q3 q4 q5) qual) (Re : RowE f cda cc qual scope m1 m2 j1 j2 p0 p1 p2 p3 p4 p5 p6 p7 p8 q1 q2 q3 q4 q5) (hm1 : m1.length ≤ 100) (hm2 : m2.length ≤ 100) :
    FnOk P w K mg base (L2.CX P w) (k + 1) f fd ["self", "row"] (spRow C) := by
  obtain ⟨oc, od, osl, lk⟩ := Xc.lk
  obtain ⟨hpo, hpa, hsc, hbd, hgl, hcl, hqn, hcd, hbl⟩ := Xc.fdE
  obtain ⟨ccl, cdd, vsC, ccs, file, tf, lc, hv2, hfile⟩ := Xc.file
  obtain ⟨cl, cld, csl, lcc⟩ := Xc.cell
  refine ⟨fun vs H Q E h => ?_, fun A outer s H args us vs Q E hr e0 hb r hsp => ?_⟩
  · obtain ⟨a, i, rfl, _⟩ := h; rfl
  obtain ⟨a, i, rfl, hi, hz, ea, hq⟩ := hsp
  have KX : K.In s.heap := e0.mod.kin.keeps fun b o e => (e0.bs b o e).1
  have lim : s.heap.NoLimit := e0.mod.nolimit.keeps fun b o e => (e0.bs b o e).1
  obtain ⟨ua, us1, rfl, ra, r1⟩ : ∃ ua us1, us = ua :: us1 ∧ RelV (.ref a) ua ∧ Vals [.int i] us1 := by
    cases r with | cons x y => exact ⟨_, _, rfl, x, y⟩
  obtain ⟨ur, rfl, rr⟩ : ∃ ur, us1 = [ur] ∧ RelV (.int i) ur := by
    cases r1 with | cons x y => cases y; exact ⟨_, rfl, x⟩
  obtain rfl : ua = Value.ref a := ra
  have hce : ∀ L, callEnv fd L f = envS qual scope L f cda cc := fun L => by
    unfold callEnv newEnv
    rw [hsc, hgl, hcl, hqn, hcd, hbl]
  have hnmL : ∀ x ∈ (["self", "row"] : List Str).zip [Value.ref a, ur], fd.scope.names.lookup x.1 = some .local := fun x hx => by
    rw [hsc, Xc.nm]
    rcases List.mem_cons.mp hx with rfl | hx
    · rfl
    · rcases List.mem_cons.mp hx with rfl | hx
      · rfl
      · cases hx
  refine ks_codeAny_call_defAt (args := args) hr.depth (KX _ _ lk) rfl lim (by rw [hcd, hqn]; exact PySem.W.codeRec_of KX Xc.code) hbd hb (by rw [hsc, Xc.nm]; decide) hnmL (fun h1 hns hk => ?_) (by rw [hsc]; exact Xc.co) (by rw [hsc]; exact Xc.gen) (by rw [hsc]; exact Xc.kind)
  rw [hce]
  have I0 : Inv (cxS P w K mg base ["self", "row"] qual scope f cda cc A outer s H E) [] [some (.ref a), some (.int i)] H { s with heap := h1, toks := s.toks + 2 } := inv_startS Xc hr.hd e0 (ra := rfl) (rr := rr) (ua := .ref a) hns hk
  obtain ⟨nm, q, N, bs, bm, sn, sub, ab, col, dd, k0, k1, k2, k3, k5, hC, hbm⟩ := Xc.oex.cls
  have hcl2 : PySem.W.clsIn K C = some { name := nm, bases := bs, mro := .ref C :: bm, ns := N, qualname := q, hasDict := true, slotNames := sn, subclasses := sub, abstract := ab, collection := col, hasDel := false } := by
    unfold PySem.W.clsIn; rw [hC] <;> rfl
  obtain ⟨x0, hx0, hx1⟩ : ∃ x0, fd.params.args.head? = some x0 ∧ x0.arg = "self" := by
    cases hA : fd.params.args with
    | nil => rw [hA] at hpa; cases hpa
    | cons y ys => rw [hA] at hpa; exact ⟨y, rfl, (List.cons.inj hpa).1⟩
  have hks : (envS qual scope s.heap.objs.size f cda cc).kindOf "super" = some .globalImplicit := by show scope.names.lookup _ = _; rw [Xc.nm]; rfl
  have hkc : (envS qual scope s.heap.objs.size f cda cc).kindOf "__class__" = some .free := by show scope.names.lookup _ = _; rw [Xc.nm]; rfl
  have hka : (envS qual scope s.heap.objs.size f cda cc).kindOf x0.arg = some .local := by show scope.names.lookup _ = _; rw [Xc.nm, hx1]; rfl
  obtain ⟨t1, he1⟩ := exo_at I0.hok ea
  have K1 : K.In h1 := I0.kIn
  obtain ⟨pl, hcall⟩ := Re.call s.heap.objs.size
  obtain ⟨mb, hb1, hb2⟩ := e0.mod.blt
  have up1 : ∀ b o, base.get? b = some o → h1.get? b = some o := I0.bk
  refine ks_wpAt_execs_cons (ks_wpAt_Expr_any (ks_wpAt_MethodCall (pl := pl) ?_ hcall) (I0.quiet) (Re.sw1 _))
  refine ks_wpAt_super_base (f := f) (cc := cda) (fd := fd) (ar := x0) hks hkc (by decide) rfl (K1 _ _ lk) rfl (by rw [hpo]; exact hx0) rfl (K1 _ _ lc) rfl hv2 hfile Xc.top ?_
  refine PySem.W.ks_loadName_global Xc.kind hks (Calls.loadGlobal_builtin (e0.mod.glob.keeps up1) (PySem.W.mg_none_of e0.mod.kin e0.mod.glob Xc.nosup) (hb1.keeps up1) ((hb2 _ (by decide)).trans (by first | boot_by_name | rfl | kernel_rfl)) ⟨rfl, ?_⟩)
  refine wpAny_loadName_free Xc.kind hkc rfl ⟨_, K1 _ _ lcc, rfl⟩ (wpAny_loadName_local Xc.kind hka hns (by rw [hx1]; rfl) ?_)
  refine ks_wpAny_isType_cls (K1 _ _ hC) rfl ⟨rfl, ks_wpAny_call_super (K1 _ _ hC) rfl he1 rfl (fun c z => by cases z) (PySem.W.looks_mroIn K1 Xc.mro) (fun h2 e2 k2 => ?_)⟩
  have K2 : K.In h2 := K1.keeps k2
  have J2 : PySem.W.InstAt h2 a (HandSPX.excO C t1) C none := ⟨k2 _ _ he1, rfl, rfl, trivial⟩
  refine PySem.W.kxs_getMethod PySem.W.kxs_ValueError (K := K) (l₀ := .ref C :: bm) e2 (PySem.W.looks_opaque K2 Xc.stat) ((PySem.W.looks_clsIn K2 hcl2).andThen .now) rfl K2 (by
    have z := Xc.sup
    unfold PySem.W.ks_superIn at z
    rw [hcl2] at z
    exact z) (J2.type.andThen (PySem.W.looks_subIn K2 Xc.vE)) (PySem.W.ks_ne K2 J2 hcl2) (by decide) ?_
  have I2 : Inv (cxS P w K mg base ["self", "row"] qual scope f cda cc A outer s H E) [] [some (.ref a), some (.int i)] H { s with heap := h2.push (mwO a), toks := s.toks + 2 + 1 } := I0.kept fun b u e => Heap.get?_push_of_some _ (k2 b u e)
  have hu : (h2.push (mwO a)).get? h2.objs.size = some (mwO a) := Heap.get?_push_size _ rfl
  obtain ⟨oL, _, _, hoL, _⟩ := id hns
  have hsz : s.heap.objs.size < h2.objs.size := Heap.lt_size (k2 _ _ hoL)
  have I3 : Inv (cxS P w K mg base ["self", "row"] qual scope f cda cc A outer s H E) [(h2.objs.size, mwO a)] [some (.ref a), some (.int i)] H { s with heap := h2.push (mwO a), toks := s.toks + 2 + 1 } := I2.pins_of fun p hp => by
    obtain rfl := List.mem_singleton.mp hp
    exact ⟨hu, e0.hok.fresh (Nat.le_of_lt hsz), Nat.ne_of_gt hsz, fun z => absurd (e0.funs.mem z).2 (fun ⟨o, ho, _⟩ => absurd (Heap.lt_size ho) (Nat.not_lt.mpr (Nat.le_of_lt hsz))), fun v z => by cases z⟩
  refine PySem.W.kxs_callWith (i := "ValueError.__init__") (x := a) rfl (Calls.evalArgs_plain (thn ((pa_cons (pe_joined (.cons pe_str (.cons (pe_fmt (pe_var (i := 1) rfl (.inl (by show scope.names.lookup _ = _; rw [Xc.nm]; rfl)))) (.cons pe_str .nil)))) pa_nil).run p3 [(h2.objs.size, mwO a)] _ _ H (fun vs H1 => H1 = H ∧ vs.length = 1) I3 ?_) fun us s4 ⟨vs, H4, I4, r4, eH, hl⟩ => ⟨?_, ?_⟩))
  · refine ⟨m1, rfl, ?_, .int i, rfl, .inr ⟨i, rfl, hi, toString i, rfl, ?_, m2, rfl, ?_, rfl, rfl⟩⟩
    all_goals first | rfl | (simp only [len_app, len_emp, sizeLine_eq]; have hz2 : (toString i : Str).length ≤ 1000 := hz; omega)
  · exact (I4.pin _ (List.mem_append_right _ List.mem_cons_self)).1
  subst eH
  obtain ⟨t4, he4⟩ := exo_at I4.hok ea
  obtain ⟨h4, g4, d4, tk4, os4⟩ := s4
  refine mw_call (I4.kIn _ _ hC) he4 (I4.pin _ (List.mem_append_right _ List.mem_cons_self)).1 (by show us.length ≤ _; rw [← r4.length, hl, sizeLine_eq]; omega) fun h5 t5 k5 e5 => ?_
  have I5 := I4.write (t' := tk4) (x := a) (e := a) (o := exo a C none) (by rw [ea]; exact True.intro) (.inl rfl) k5 ⟨_, e5⟩ (exo_ok e5)
  have eu : upd H4 a (exo a C none) = H4 := by
    funext b; by_cases hb : b = a
    · rw [hb, upd_same, ea]
    · rw [upd_ne hb]
  rw [eu] at I5
  have I6 : Inv (cxS P w K mg base ["self", "row"] qual scope f cda cc A outer s H4 E) [] [some (.ref a), some (.int i)] H4 ⟨h5, g4, d4, tk4, os4⟩ := I5.pins_of fun p hp => by cases hp
  have vis0 : Vis scope "self" := .inl (by rw [Xc.nm]; rfl)
  have vis1 : Vis scope "row" := .inl (by rw [Xc.nm]; rfl)
  refine wpAt_of_wpAny (thn ((pss_one (ps_ost (X := cxS P w K mg base ["self", "row"] qual scope f cda cc A outer s H4 E) (f := "row") (pe_var (i := 0) rfl vis0) (pe_var (i := 1) rfl vis1) (Re.sw2 s.heap.objs.size))).run [] _ _ H4 { nx := fun _ H' => Q .non H', rt := fun _ _ => False } I6 ?_) fun fl s' hs => ?_)
  · exact ⟨.int i, rfl, .ref a, rfl, a, C, rfl, Xc.oex, Xc.fld, .inl ⟨ea, fun dx n ne => hq dx n ne⟩⟩
  cases fl with
  | next =>
    obtain ⟨σ', H', J, q⟩ := hs
    exact ⟨V.non, H', J.os, J.bare, J.base, J.hok, rfl, q⟩
  | ret u => obtain ⟨v, σ', H', J, rv, q⟩ := hs; exact q.elim
  | brk => obtain ⟨_, _, _, q⟩ := hs; exact False.elim q
  | cont => obtain ⟨_, _, _, q⟩ := hs; exact False.elim q
end
end Fw
namespace Fw
open PySem PySem.Spec PyProof.Rows L2
/-! ### an error with a field -/
section
variable {X : Cx} {T : Tb} {W : WX} {e : Expr} {x f : Str} {fe fa : Env → O R} {c : Addr}
/-- what is written of the class at c and of its __init__ -/
structure Exr (P : Program) (w : World) (K : PySem.W.Frag) (mg : Str → Option Value) (base : Heap) (k : Nat) (x : Str) (c : Addr) : Prop where
  oex : OexC K c
  g : mg x = some (.ref c)
  fn : ∃ fI fd, PySem.W.findIn K (.ref c) "__init__" = some (some (.ref fI)) ∧ PySem.W.typeIn K (.ref fI) = some (.type "function") ∧ FnOk P w K mg base (L2.CX P w) k fI fd ["self", "row"] (spRow c) ∧ Binds K fd ["self", "row"] []
def gRaiseR (c : Addr) (fe : Env → O R) : Env → Out := fun es => (fe es).out es fun r => match r.dat with
  | .int i => if i.natAbs.log2 < 1920 ∧ (toString i : Str).length ≤ 1000 then .exc es c (some (["row"], [.int i])) else .no
  | _ => .no
theorem row_heap {H1 : Hp} {a dx c : Addr} {fs : List (Str × V)} (ha : H1 a = none) (hn : dx ≠ a) : upd (L2.del (upd (upd (upd H1 a (exo a c none)) dx (exd dx fs)) a (exo a c (some dx))) a) dx (.xd fs) = upd H1 dx (.xd fs) := by
  funext b
  by_cases hb : b = dx
  · rw [hb, upd_same, upd_same]
  · rw [upd_ne hb, upd_ne hb]
    by_cases h2 : b = a
    · rw [h2, del_same, ha]
    · rw [del_ne h2, upd_ne h2, upd_ne hb, upd_ne h2]
theorem ds_raiseR {k : Nat} {p pos pos' : Pos} (tk : Takes X W) (E : Exr X.prog X.w X.K X.mg X.base k x c) (hr : Room (k + 1) X.A) (he : DE X T W e fe) (hc : X.calm = true := by rfl) (hg : Gl X x := by rfl) (hdb : (x == ("__debug__" : Str)) = false := by decide)
    (hst : starEach [e] X.env = (false, eval e X.env) :: starEach [] X.env := by rfl) (hpl : (backTo pos (starEach [] X.env)).any (·.1) = false := by rfl) :
    DS X T W (.Raise (some (.Call (.Name x p) [e] [] pos)) none pos') (gRaiseR c fe) := fun F0 H0 => by
  obtain ⟨fI, fd, iC, tI, F1, hb⟩ := E.fn
  refine ps_weak (ps_raise hc tk (pmk_oex E.oex iC tI F1 hr hb .nil (passes_call tk fun _ _ _ _ h => h.elim) hg E.g (pa_cons he pa_nil hst) hdb hst hpl)) fun D σ H ⟨F, es, st, q⟩ => ?_
  refine ⟨F0, H0, F, es, st, out_seq st q fun r v F1 H1 _ st1 l1 q1 h1 => ⟨by simp, fun a ha => ?_⟩⟩
  split at h1
  · rename_i i hri
    split at h1
    · rename_i hs
      obtain rfl : v = .int i := by
        cases r with
        | val d => obtain rfl : d = .int i := hri; exact (by simpa [Rr, Rp] using q1)
        | brw d => obtain rfl : d = .int i := hri; exact (by simpa [Rr, Rp] using q1)
        | new xs => cases hri
        | bor xs => cases hri
      refine ⟨a, i, rfl, hs.1, hs.2, upd_same, fun dx hdx hne => ⟨rfl, dx, [("row", .int i)], upd_same, by rw [upd_ne hne, upd_same], ?_, ?_⟩⟩
      · rw [upd_ne hne] at hdx; exact hdx
      · rw [upd_ne hne] at hdx
        rw [row_heap ha hne]
        exact h1 (.ref c) (some dx) σ (upd F1 dx (.xd [("row", .int i)])) _ (Sub.new (st1.ok.nf hdx)) (st1.step (Le.new st1.ok hdx)) ⟨rfl, dx, [.int i], rfl, upd_same, rfl, rfl, RpL.cons (by rw [Rp]) RpL.nil⟩
    · exact h1.elim
  · exact h1.elim
/-! e.row of an error that was caught -/
def tXfH (K : PySem.W.Frag) (n : Str) (te : TE) : TE := fun σ H Q => te σ H fun x H1 => ∃ (a C dd : Addr) (fs : List (Str × V)) (v : V), x = .ref a ∧ H1 a = some (ExH (.ref C) (some dd) a) ∧ H1 dd = some (.xd fs) ∧ fs.lookup n = some v ∧ XfC K C ∧ PySem.W.findIn K (.ref C) n = some none ∧ Q v H1
theorem pe_xfH {te : TE} {pos : Pos} {n : Str} (he : PE X e te) (hb : attributeBase e n X.env (eval e X.env) = eval e X.env := by rfl) : PE X (.Attribute e n pos) (tXfH X.K n te) := by
  refine ⟨fun pins s σ H Q I h => attr_of hb (thn (he.run pins s σ H _ I h) fun u s1 hh => ?_)⟩
  obtain ⟨x, H1, I1, rx, a, C, dd, fs, v, rfl, hH, ea, l, T, hno, q⟩ := hh
  obtain rfl : u = Value.ref a := rx
  obtain ⟨oe, od, J, hJ⟩ := exH_at I1 hH (Or.inr ⟨dd, fs, rfl, ea⟩)
  obtain ⟨mA, o1, rfl, hr, hl⟩ := hJ dd fs rfl ea
  obtain ⟨u, hu, ru⟩ := RelO.some_of (v := v) (o := mA n) (by rw [← l]; exact hr n)
  exact HandSPX.exc_get I1.kIn J T.ga T.gg T.exC (PySem.W.findObj_own T.hdC hno rfl (by rw [hl, hu])) (handed_of ru) ⟨v, H1, I1.tok _, ru, q⟩
def xfR (f : Str) (c : Addr) : R → Option R
  | .val (.exn c' ns ds) => if c' = c then (fldN f ns ds).map .val else none
  | _ => none
def fXf (f : Str) (c : Addr) (fa : Env → O R) : Env → O R := fun es => (fa es).bind fun r => O.of (xfR f c r)
theorem de_xf {pos : Pos} (ha : DE X T W e fa) (hc : XfC X.K c) (hn : PySem.W.findIn X.K (.ref c) f = some none) (hb : attributeBase e f X.env (eval e X.env) = eval e X.env := by rfl) : DE X T W (.Attribute e f pos) (fXf f c fa) :=
  pe_weak (pe_xfH ha hb) fun σ H Q ⟨F0, H0, F, es, st, h⟩ => ⟨F0, H0, F, es, st, pr_seq st h fun r v F1 H1 _ st1 l1 q1 h1 => by
    cases hf : xfR f c r with
    | none => rw [hf] at h1; exact h1.elim
    | some r' =>
      rw [hf] at h1
      cases r with
      | val d =>
        cases d with
        | exn c' ns ds =>
          replace hf : (if c' = c then (fldN f ns ds).map R.val else none) = some r' := hf
          split at hf
          · rename_i hcc
            subst hcc
            cases hd : fldN f ns ds with
            | none => rw [hd] at hf; cases hf
            | some d =>
              rw [hd] at hf
              cases hf
              replace q1 : Rp X.K F1 (.exn c' ns ds) v := q1
              rw [Rp] at q1
              obtain ⟨a, dx, rfl, g1, g2⟩ := q1
              rcases g2 with ⟨_, rfl⟩ | ⟨dd, vs, _, rfl, k1, k2, k3⟩
              · cases ds <;> cases hd
              · obtain ⟨v, e1, e2⟩ := fldN_zip k3 hd
                exact ⟨a, c', dd, _, v, rfl, st1.ok.sub _ _ g1, st1.ok.sub _ _ k1, e1, hc, hn, h1 v F1 H1 (Le.refl st1.ok) e2⟩
          · cases hf
        | _ => cases hf
      | _ => cases hf⟩
end
end Fw
namespace Fw
open PySem PySem.Spec PyProof.Rows L2
section
variable {X : Cx} {T : Tb} {W : WX} {e o : Expr} {x y : Str} {p1 p2 p3 pos pos' : Pos} {f fa fo : Env → O R}
/-! ### x = y, y a dict of one's own that is known by x from here on -/
def gMovD (i j : Nat) : Env → Out := fun es => match es[j]? with
  | some (.odc ks ds) => if i ≠ j ∧ i < es.length then .nx ((es.set j .no).set i (.odc ks ds)) else .no
  | _ => .no
theorem set_same {α : Type} : ∀ {l : List α} {i : Nat} {a : α}, l[i]? = some a → l.set i a = l
  | [], i, a, h => by cases h
  | b :: l, 0, a, h => by cases h; rfl
  | b :: l, i + 1, a, h => by rw [List.set_cons_succ, set_same (by simpa using h)]
theorem ds_movD {i j : Nat} (hN : X.N.Nodup) (hi : X.N[i]? = some x := by rfl) (hx : Loc X.env.scope x := by first | exact Or.inl rfl | exact Or.inr rfl) (hj : X.N[j]? = some y := by rfl) (hv : Vis X.env.scope y := by first | exact Or.inl rfl | exact Or.inr (Or.inl rfl) | exact Or.inr (Or.inr rfl))
    (hd : (y == ("__debug__" : Str)) = false := by decide) (hcd : (y == ("__classdict__" : Str)) = false := by decide) (hs : swapsWith (.Name y p1) (some (.Name x pos')) pos.line X.env = pure false := by rfl)
    (hf : X.fn x = true ∨ X.env.scope.names.lookup x = some .local := by first | exact .inl rfl | exact .inr rfl) : DS X T W (.Assign [.Name x pos'] (.Name y p1) pos) (gMovD i j) := fun F0 H0 =>
  ps_weak (ps_set hN hi hx (pe_var hj hv hd hcd) hs hf) fun D σ H ⟨F, es, st, q⟩ => by
    unfold gMovD at q
    split at q
    · rename_i ks ds he
      split at q
      · rename_i hh
        obtain ⟨hij, hlt⟩ := hh
        obtain ⟨p, vs, g1, g2, g3, g4, g5, g6, g7⟩ := st.env.dic.1 j ks ds he
        refine ⟨.ref p, g1, ?_⟩
        have s1 := st.set (i := j) (v := .ref p) (s := .no) True.intro
        rw [set_same g1] at s1
        exact q _ F H (Sub.refl _) (s1.setD (i := i) (p := p) (ks := ks) (ds := ds) (by simpa using hlt) g2 g3 g4 g5 g6 g7 fun k ks' ds' e z => by
          rcases get_set e with ⟨a, b⟩ | ⟨a, b⟩
          · cases b
          · exact a (st.env.dic.2 k j ks' ds' ks ds p b he z g1).symm)
      · exact q.elim
    · exact q.elim
/-! ### x = {n: c}, c plain -/
def gLitD (i : Nat) (n : Int) (d : D) : Env → Out := fun es => if i < es.length ∧ flat d = true then .nx (es.set i (.odc [.inl n] [d])) else .no
theorem ds_litD {i : Nat} {n : Int} {d : D} {c : Const} {j k : Nat} {pd pc : Pos} (hc : ∀ {X : Cx}, ∃ v, PE X (.Constant c k pc) (tC v) ∧ ∀ F, flat d = true → Rp X.K F d v) (hN : X.N.Nodup) (hi : X.N[i]? = some x := by rfl) (hx : Loc X.env.scope x := by first | exact Or.inl rfl | exact Or.inr rfl)
    (hs : swapsWith (.Dict [some (.Constant (.int n) j p1)] [.Constant c k pc] pd) (some (.Name x pos')) pos.line X.env = pure false := by rfl)
    (hf : X.fn x = true ∨ X.env.scope.names.lookup x = some .local := by first | exact .inl rfl | exact .inr rfl) : DS X T W (.Assign [.Name x pos'] (.Dict [some (.Constant (.int n) j p1)] [.Constant c k pc] pd) pos) (gLitD i n d) := by
  obtain ⟨v, hp, hr⟩ := hc (X := X)
  refine fun F0 H0 => ps_weak (ps_set hN hi hx (pe_disp (pps_cons (pe_int (i := n)) hp pps_nil) rfl rfl (by simp) (by simp)) hs hf) fun D σ H ⟨F, es, st, q⟩ => ?_
  unfold gLitD at q
  split at q
  · rename_i hh
    intro p hp
    refine ⟨upd_same, [(.inl n, v)], rfl, by simp, ?_⟩
    have eh : upd (upd H p (.dK [])) p (.dK (mergeK [] [(Sum.inl n, v)])) = upd H p (.dK [(Sum.inl n, v)]) := by
      funext b
      by_cases hb : b = p
      · rw [hb, upd_same, upd_same]; rfl
      · rw [upd_ne hb, upd_ne hb, upd_ne hb]
    rw [eh]
    have l := Le.newH st.ok (o := .dK [(Sum.inl n, v)]) hp
    have st2 := st.step l
    refine q _ F _ (Sub.refl _) (st2.setD (ks := [.inl n]) (ds := [d]) (vs := [v]) hh.1 (st.h0 (st.ok.nt hp) hp) (st.ok.nf hp) (st.ok.nt hp) upd_same rfl (RpL.cons (hr _ hh.2) RpL.nil) fun j ks' ds' e z => ?_)
    obtain ⟨q2, us, g1, g2, g3, g4, g5, _⟩ := st.env.dic.1 j ks' ds' e
    rw [g1] at z
    cases z
    rw [hp] at g5; cases g5
  · exact q.elim
/-! ### x += e of whole numbers -/
def gAugI (i : Nat) (h : Int → Int → Int) (f : Env → O R) : Env → Out := fun es => match es[i]? with
  | some (.val (.int a)) => (f es).out es fun r => match r.fz.dat with
    | .int b => .nx (es.set i (.val (.int (h a b))))
    | _ => .no
  | _ => .no
theorem ds_augI {i : Nat} {h : Int → Int → Int} {op : Operator} (ho : PIp X op (ipI h)) (hN : X.N.Nodup) (he : DE X T W e f) (hi : X.N[i]? = some x := by rfl) (hx : Loc X.env.scope x := by first | exact Or.inl rfl | exact Or.inr rfl)
    (hf : X.fn x = true ∨ X.env.scope.names.lookup x = some .local := by first | exact .inl rfl | exact .inr rfl) : DS X T W (.AugAssign (.Name x pos') op e pos) (gAugI i h f) := fun F0 H0 =>
  ps_weak (ps_aug hN hi hx he ho hf) fun D σ H ⟨F, es, st, q⟩ => by
    unfold gAugI at q
    split at q
    · rename_i a ha
      obtain ⟨v, g1, g2⟩ := st.env.val i _ ha
      rw [Rp] at g2
      subst g2
      refine ⟨.int a, g1, F0, H0, F, es, st, out_seq st q fun r v F1 H1 _ st1 l1 q1 h1 => ?_⟩
      obtain ⟨F2, l2, s12, q2⟩ := q1.fz l1
      have st2 := st.step l2
      have rv := q2.toH st2.ok st2.up
      split at h1
      · rename_i b hb
        rw [R.fz_dat] at rv hb
        rw [hb, Rp] at rv
        subst rv
        exact ⟨a, b, rfl, rfl, h1 _ F2 H1 s12 (st2.slot (r := .val (.int (h a b))) (by show Rp _ _ _ _; rw [Rp]) rfl)⟩
      · exact h1.elim
    · exact q.elim
/-! ### ~x, x.bit_length() -/
def fInv (fa : Env → O R) : Env → O R := fun es => (fa es).bind fun r => match r with
  | .val (.int i) => .ok (.val (.int (Builtin.bitNot i)))
  | _ => .no
theorem de_inv (ha : DE X T W e fa) : DE X T W (.UnaryOp .Invert e pos) (fInv fa) := pe_weak (pe_un un_inv ha) fun σ H Q ⟨F0, H0, F, es, st, h⟩ => ⟨F0, H0, F, es, st, pr_seq st h fun r v F1 H1 _ st1 l1 q1 h1 => by
  cases r with
  | val d =>
    cases d with
    | int i =>
      replace q1 : Rp X.K F1 (.int i) v := q1
      rw [Rp] at q1
      subst q1
      exact ⟨i, rfl, h1 _ F1 H1 (Le.refl st1.ok) (by show Rp _ _ _ _; rw [Rp])⟩
    | _ => exact h1.elim
  | _ => exact h1.elim⟩
def fBits (fa : Env → O R) : Env → O R := fun es => (fa es).bind fun r => match r with
  | .val (.int i) => .ok (.val (.int (Builtin.Int.intBits i : Nat)))
  | _ => .no
theorem de_bits {apos : Pos} (ho : DE X T W o fo) (hbase : attributeBase o "bit_length" X.env (eval o X.env) = eval o X.env := by rfl) (hline : (apos.endLine == pos.line) = true := by rfl) : DE X T W (.Call (.Attribute o "bit_length" apos) [] [] pos) (fBits fo) :=
  pe_weak (pe_bits ho hbase hline) fun σ H Q ⟨F0, H0, F, es, st, h⟩ => ⟨F0, H0, F, es, st, pr_seq st h fun r v F1 H1 _ st1 l1 q1 h1 => by
  cases r with
  | val d =>
    cases d with
    | int i =>
      replace q1 : Rp X.K F1 (.int i) v := q1
      rw [Rp] at q1
      subst q1
      exact ⟨i, rfl, h1 _ F1 H1 (Le.refl st1.ok) (by show Rp _ _ _ _; rw [Rp])⟩
    | _ => exact h1.elim
  | _ => exact h1.elim⟩
theorem lit_bl {b : Bool} {k : Nat} {pc : Pos} : ∀ {X : Cx}, ∃ v, PE X (.Constant (.bool b) k pc) (tC v) ∧ ∀ F, flat (.bl b) = true → Rp X.K F (.bl b) v := fun {X} => ⟨.bl b, pe_bl, fun F _ => by rw [Rp]⟩
end
end Fw
namespace Fw
open PySem PySem.Spec PyProof.Rows L2
/-! ### a dict of what was found, kept by a field: key = (a, b); if key not in self.f: self.f[key] = self.m(a, b); return self.f[key] -/
def InR (l w : Int) : Prop := 0 ≤ l ∧ l < 65536 ∧ 0 ≤ w ∧ w < 64
instance (l w : Int) : Decidable (InR l w) := by unfold InR; infer_instance
/-- what stands in such a dict -/
def Memo (K : PySem.W.Frag) (mf : Int → Int → Option D) (F : Hp) (o : HO) : Prop := ∃ kvs : List (List Key × V), o = .dT kvs ∧ (kvs.map (·.1)).Nodup ∧ ∀ p ∈ kvs, ∃ l w d, p.1 = [.inl l, .inl w] ∧ InR l w ∧ mf l w = some d ∧ Rp K F d p.2
theorem Memo.mono {K : PySem.W.Frag} {mf : Int → Int → Option D} {F F' : Hp} {o : HO} (l : Sub F F') (h : Memo K mf F o) : Memo K mf F' o := by
  obtain ⟨kvs, h1, h2, h3⟩ := h
  exact ⟨kvs, h1, h2, fun p hp => by
    obtain ⟨a, b, d, g1, g2, g3, g4⟩ := h3 p hp
    exact ⟨a, b, d, g1, g2, g3, g4.mono l⟩⟩
theorem Memo.new {K : PySem.W.Frag} {mf : Int → Int → Option D} {F : Hp} : Memo K mf F (.dT []) := ⟨[], rfl, List.nodup_nil, fun p hp => by cases hp⟩
theorem Memo.few {K : PySem.W.Frag} {mf : Int → Int → Option D} {F : Hp} {kvs : List (List Key × V)} (h : Memo K mf F (.dT kvs)) : kvs.length < sizeLine := by
  obtain ⟨kvs', e, h2, h3⟩ := h
  have e : kvs = kvs' := by injection e
  subst e
  have code : ∀ k ∈ kvs.map (·.1), ∃ l w : Nat, k = [.inl (l : Int), .inl (w : Int)] ∧ l < 65536 ∧ w < 64 := fun k hk => by
    obtain ⟨p, hp, rfl⟩ := List.mem_map.mp hk
    obtain ⟨l, w, d, g1, ⟨a, b, c, d2⟩, _⟩ := h3 p hp
    exact ⟨l.toNat, w.toNat, by rw [g1]; congr 3 <;> omega, by omega, by omega⟩
  let cd : List Key → Nat := fun k => match k with
    | [.inl l, .inl w] => l.toNat * 64 + w.toNat
    | _ => 0
  have hnd : ((kvs.map (·.1)).map cd).Nodup := by
    rw [List.Nodup, List.pairwise_map]
    refine List.Pairwise.imp_of_mem (fun {a b} ha hb hne e => hne ?_) h2
    obtain ⟨l, w, rfl, hl, hw⟩ := code a ha
    obtain ⟨l', w', rfl, hl', hw'⟩ := code b hb
    have e : l * 64 + w = l' * 64 + w' := by
      have e : ((l : Int).toNat * 64 + (w : Int).toNat) = ((l' : Int).toNat * 64 + (w' : Int).toNat) := e
      omega
    have e1 : l = l' := by omega
    have e2 : w = w' := by omega
    rw [e1, e2]
  have hlt : ∀ x ∈ (kvs.map (·.1)).map cd, x ∈ List.range (65536 * 64) := fun x hx => by
    obtain ⟨k, hk, rfl⟩ := List.mem_map.mp hx
    obtain ⟨l, w, rfl, hl, hw⟩ := code k hk
    rw [List.mem_range]
    show (l : Int).toNat * 64 + (w : Int).toNat < _
    omega
  have := List.Nodup.length_le_of_subset hnd hlt
  rw [List.length_map, List.length_map, List.length_range] at this
  rw [sizeLine_eq]
  omega
theorem valV_mem {κ : Type} [DecidableEq κ] : ∀ {kvs : List (κ × V)} {k : κ} {v : V}, valV kvs k = some v → (k, v) ∈ kvs
  | [], k, v, h => by cases h
  | p :: kvs, k, v, h => by
    by_cases e : p.1 = k
    · rw [valV_pos e] at h
      cases h
      exact List.mem_cons.mpr (.inl (by rw [← e]))
    · rw [valV_neg e] at h
      exact List.mem_cons_of_mem _ (valV_mem h)
theorem Memo.get {K : PySem.W.Frag} {mf : Int → Int → Option D} {F : Hp} {kvs : List (List Key × V)} (h : Memo K mf F (.dT kvs)) {l w : Int} {v : V} (hv : valV kvs [.inl l, .inl w] = some v) : ∃ d, mf l w = some d ∧ Rp K F d v := by
  obtain ⟨kvs', e, h2, h3⟩ := h
  have e : kvs = kvs' := by injection e
  subst e
  obtain ⟨l', w', d, g1, _, g3, g4⟩ := h3 _ (valV_mem hv)
  have g1 : ([.inl l, .inl w] : List Key) = [.inl l', .inl w'] := g1
  injection g1 with a b
  injection b with b c
  injection a with a
  injection b with b
  subst a; subst b
  exact ⟨d, g3, g4⟩
theorem Memo.put {K : PySem.W.Frag} {mf : Int → Int → Option D} {F : Hp} {kvs : List (List Key × V)} (h : Memo K mf F (.dT kvs)) {l w : Int} {v : V} {d : D} (hr : InR l w) (hm : mf l w = some d) (hv : Rp K F d v) : Memo K mf F (.dT (putK kvs [.inl l, .inl w] v)) ∧ valV (putK kvs [.inl l, .inl w] v) [.inl l, .inl w] = some v := by
  obtain ⟨kvs', e, h2, h3⟩ := h
  have e : kvs = kvs' := by injection e
  subst e
  unfold putK
  by_cases c : (kvs.any fun kv => decide (kv.1 = ([.inl l, .inl w] : List Key))) = true
  · rw [if_pos c]
    refine ⟨⟨_, rfl, ?_, fun p hp => ?_⟩, ?_⟩
    · have : (kvs.map fun kv => if kv.1 = ([.inl l, .inl w] : List Key) then (kv.1, v) else kv).map (·.1) = kvs.map (·.1) := by
        rw [List.map_map]
        apply List.map_congr_left
        intro a _
        show (if a.1 = _ then (a.1, v) else a).1 = a.1
        split <;> rfl
      rw [this]; exact h2
    · obtain ⟨q, hq, rfl⟩ := List.mem_map.mp hp
      split
      · rename_i hk
        exact ⟨l, w, d, hk, hr, hm, hv⟩
      · exact h3 q hq
    · obtain ⟨q, hq, hk⟩ := List.any_eq_true.mp c
      have hk := of_decide_eq_true hk
      clear c h2 h3 e
      induction kvs with
      | nil => cases hq
      | cons a kvs ih =>
        rw [List.map_cons]
        by_cases ha : a.1 = ([.inl l, .inl w] : List Key)
        · rw [if_pos ha, valV_pos (p := (a.1, v)) ha]
        · rw [if_neg ha, valV_neg (p := a) ha]
          rcases List.mem_cons.mp hq with rfl | hq
          · exact absurd hk ha
          · exact ih hq
  · rw [if_neg c]
    have hn : ∀ p ∈ kvs, p.1 ≠ ([.inl l, .inl w] : List Key) := fun p hp z => c (List.any_eq_true.mpr ⟨p, hp, decide_eq_true z⟩)
    refine ⟨⟨_, rfl, ?_, fun p hp => ?_⟩, ?_⟩
    · rw [List.map_append, List.nodup_append]
      refine ⟨h2, by simp, fun a ha b hb e => ?_⟩
      obtain ⟨p, hp, rfl⟩ := List.mem_map.mp ha
      have hb : b = [.inl l, .inl w] := by simpa using hb
      exact hn p hp (e.trans hb)
    · rcases List.mem_append.mp hp with hp | hp
      · exact h3 p hp
      · obtain rfl := List.mem_singleton.mp hp
        exact ⟨l, w, d, rfl, hr, hm, hv⟩
    · clear h2 h3 c e
      induction kvs with
      | nil => rw [List.nil_append, valV_pos rfl]
      | cons a kvs ih =>
        rw [List.cons_append, valV_neg (hn a (by simp))]
        exact ih fun p hp => hn p (by simp [hp])
end Fw
namespace Fw
open PySem PySem.Spec PyProof.Rows L2
section
variable {K : PySem.W.Frag} {T : Tb} {F0 H0 F H : Hp} {σ : L2.St} {es : Env}
theorem StOk.mon {p : Addr} {o : HO} (st : StOk K T F0 H0 F H σ es) (hp : p ∈ T) (hm : T.mon p F o) : StOk K T F0 H0 F (upd H p o) σ es := by
  have ne : ∀ {q : Addr}, q ∉ T → q ≠ p := fun {q} h z => h (z ▸ hp)
  refine ⟨st.ok0, ⟨st.le.f, fun a u ha e => by rw [upd_ne (ne ha)]; exact st.le.h a u ha e, st.le.n, ⟨fun a u e => by rw [upd_ne (fun z => by rw [z, st.ok.ntab p hp] at e; cases e)]; exact st.ok.sub a u e, fun P m => ?_, st.ok.ntab⟩⟩,
    ⟨st.env.len, st.env.val, st.env.brw, fun i xs e => ?_, st.env.uni, fun i xss e => ?_, ⟨fun i ks ds e => ?_, st.env.dic.2⟩⟩⟩
  · by_cases z : P = p
    · rw [z]; exact .inr ⟨o, upd_same, hm⟩
    · exact (st.ok.tab P m).keep (Sub.refl _) (upd_ne z)
  · obtain ⟨q, vs, h1, h2, h3, h4, h5, h6⟩ := st.env.own i xs e
    exact ⟨q, vs, h1, h2, h3, h4, by rw [upd_ne (ne h4)]; exact h5, h6⟩
  · obtain ⟨q, ps, h1, ⟨k1, k2, k3, k4, k5, k6, k7, k8⟩, h3, h4⟩ := st.env.two i xss e
    exact ⟨q, ps, h1, ⟨k1, k2, k3, by rw [upd_ne (ne k3)]; exact k4, k5, k6, k7, fun k r hr => by
      obtain ⟨g1, g2, g3, vs, xs, g4, g5, g6⟩ := k8 k r hr
      exact ⟨g1, g2, g3, vs, xs, g4, by rw [upd_ne (ne g3)]; exact g5, g6⟩⟩, h3, h4⟩
  · obtain ⟨q, vs, h1, h2, h3, h4, h5, h6, h7⟩ := st.env.dic.1 i ks ds e
    exact ⟨q, vs, h1, h2, h3, h4, by rw [upd_ne (ne h4)]; exact h5, h6, h7⟩
end
open Classical in
/-- what the def gives: what the other one gives -/
noncomputable def gMemo (gC : List D → O R) (S : D) : Env → Out := fun es => match es with
  | [.brw s, .val (.int l), .val (.int w), _] => if s = S ∧ InR l w then (match gC [S, .int l, .int w] with
    | .ok (.val d) => .rt (.val d)
    | _ => .no) else .no
  | _ => .no
section
variable {X : Cx} {T : Tb} {st1 st2 st3 : Stmt} {c : Expr} {p : Pos} {gC : List D → O R} {cS pm : Addr} {m fld : Str} {ns : List Str} {ds : List D} {mf : Int → Int → Option D}
theorem dss_memo (hpm : pm ∈ T) (hmon : ∀ F o, T.mon pm F o ↔ Memo X.K mf F o) (hcl : Cls X.K cS) (hna : NoAttr X.K cS fld) (hfl : fldN fld ns ds = some (.cls pm)) (hmf : ∀ l w d, gC [.ins cS ns ds, .int l, .int w] = .ok (.val d) → mf l w = some d)
    (h1 : PS X st1 (fun D σ H => tTup (tCons (tVar 1) (tCons (tVar 2) tNil)) σ H fun v H1 => D.nx (σ.set 3 (some v)) H1))
    (h2 : PT X c (fun σ H Q => tDNotIn (tVar 3) (tFld X.K (tVar 0) fld) σ H fun x H1 => ∃ b, x = .bl b ∧ Q b H1))
    (h3 : PS X st2 (sDPut (tFld X.K (tVar 0) fld) (tVar 3) (tD X.K T W0 (fMeth cS m gC (fVar 0) (fCons (fVar 1) (fCons (fVar 2) fNil))))))
    (h4 : PS X st3 (tRet (tDGet (tFld X.K (tVar 0) fld) (tVar 3)))) (hins : insOf cS m (.ins cS ns ds) = true) :
    DSs X T W0 [st1, .If c [st2] [] p, st3] (gMemo gC (.ins cS ns ds)) := fun F0 H0 =>
  pss_weak (pss_cons h1 (pss_cons (ps_if h2 (pss_one h3) pss_nil) (pss_one h4))) fun D σ H ⟨F, es, st, q⟩ => by
    unfold gMemo at q
    split at q
    · rename_i s l w s3
      split at q
      · rename_i hc
        obtain ⟨rfl, hR⟩ := hc
        split at q
        · rename_i d hd
          have hmd := hmf _ _ _ hd
          obtain ⟨va, a1, a2⟩ := st.env.brw 0 _ rfl
          obtain ⟨vl, b1, b2⟩ := st.env.val 1 _ rfl
          obtain ⟨vw, c1, c2⟩ := st.env.val 2 _ rfl
          replace a2 : Rp X.K H0 (.ins cS ns ds) va := a2
          replace b2 : Rp X.K F (.int l) vl := b2
          replace c2 : Rp X.K F (.int w) vw := c2
          rw [Rp] at b2
          rw [Rp] at c2
          rw [Rp] at a2
          subst b2; subst c2
          obtain ⟨a, dx, vs, rfl, a3, a4, a5⟩ := a2
          obtain ⟨vf, f1, f2⟩ := fldN_zip a5 hfl
          rw [Rp] at f2
          subst f2
          have aT : a ∉ T := fun z => by
            rcases st.ok0.odd a z with ⟨ps, e⟩ | ⟨ps, e⟩ <;> (rw [e] at a3; cases a3)
          refine ⟨.int l, b1, .int w, c1, by simp [sizeLine_eq], fun pk hpk => ?_⟩
          -- the key
          have pkT : pk ∉ T := st.ok.nt hpk
          have l1 := Le.new st.ok (o := .tup [.int l, .int w]) hpk
          have st1 := st.step l1
          have lenσ : 3 < σ.length := by rw [st.env.len]; simp
          have rpk : Rp X.K (upd F pk (.tup [.int l, .int w])) (.tup [.int l, .int w]) (.ref pk) := by
            rw [Rp]
            exact ⟨pk, _, rfl, .inl (.inl upd_same), RpL.cons (by rw [Rp]) (RpL.cons (by rw [Rp]) RpL.nil)⟩
          have st2 := st1.set (i := 3) (v := .ref pk) (s := .val (.tup [.int l, .int w])) rpk
          have a6 : (upd H pk (.tup [.int l, .int w])) a = some (.ins cS dx (ns.zip vs)) := l1.h _ _ aT (st.le.h _ _ aT a3)
          have s0 : (σ.set 3 (some (.ref pk)))[0]? = some (some (V.ref a)) := by rw [List.getElem?_set_ne (by decide)]; exact a1
          have s3' : (σ.set 3 (some (V.ref pk)))[3]? = some (some (V.ref pk)) := List.getElem?_set_self lenσ
          have pmH : ∀ {F' H' : Hp}, Ok T F' H' → ∃ kvs, H' pm = some (.dT kvs) ∧ Memo X.K mf F' (.dT kvs) := fun {F' H'} ok => by
            rcases ok.tab pm hpm with ⟨_, z⟩ | ⟨o, e, z⟩
            · exact absurd ((hmon F' (.dT [])).mpr Memo.new) (z F' _)
            · have z2 := (hmon _ _).mp z
              obtain ⟨kvs, rfl, _⟩ := id z2
              exact ⟨kvs, e, z2⟩
          obtain ⟨kvs, k1, k2⟩ := pmH st2.ok
          -- the end
          have fin : ∀ {F' H' : Hp} {kvs' : List (List Key × V)} {v : V}, StOk X.K T F0 H0 F' H' (σ.set 3 (some (.ref pk))) ([.brw (.ins cS ns ds), .val (.int l), .val (.int w), .val (.tup [.int l, .int w])] : Env) → H' a = some (.ins cS dx (ns.zip vs)) → H' pk = some (.tup [.int l, .int w]) → H' pm = some (.dT kvs') → Memo X.K mf F' (.dT kvs') → valV kvs' [.inl l, .inl w] = some v →
              tRet (tDGet (tFld X.K (tVar 0) fld) (tVar 3)) D (σ.set 3 (some (.ref pk))) H' := fun {F' H' kvs' v} st' e1 e2 e3 e4 e5 => by
            obtain ⟨d', g1, g2⟩ := e4.get e5
            have : d' = d := by rw [hmd] at g1; exact (Option.some.inj g1).symm
            subst this
            exact ⟨.ref a, s0, a, cS, dx, _, .ref pm, rfl, e1, hcl, hna, f1, .ref pk, s3', pm, v, rfl, e5 ▸ DGet.t (k := [.inl l, .inl w]) e3 e2, q v F' H' st'.le g2⟩
          refine ⟨.ref pk, s3', .ref a, s0, a, cS, dx, _, .ref pm, rfl, a6, hcl, hna, f1, pm, valV kvs [.inl l, .inl w], rfl, DGet.t (k := [.inl l, .inl w]) k1 upd_same, !(valV kvs [.inl l, .inl w]).isSome, rfl, ?_⟩
          cases hv : valV kvs [.inl l, .inl w] with
          | some v =>
            rw [if_neg (by simp)]
            exact fin st2 a6 upd_same k1 k2 hv
          | none =>
            rw [if_pos (by simp)]
            refine ⟨F0, H0, _, _, st2, ?_⟩
            have hval : fMeth cS m gC (fVar 0) (fCons (fVar 1) (fCons (fVar 2) fNil)) ([.brw (.ins cS ns ds), .val (.int l), .val (.int w), .val (.tup [.int l, .int w])] : Env) = .ok (.val d) := by
              show (if insOf cS m (.ins cS ns ds) = true then (match gC [.ins cS ns ds, .int l, .int w] with
                | .ok (.val d) => O.ok (R.val d)
                | .ok (.new xs) => .ok (.new xs)
                | .exc c fs => .exc c fs
                | _ => .no) else .no) = _
              rw [if_pos hins, hd]
            show PO _ _ _ _ _ _ _ _ (fMeth cS m gC (fVar 0) (fCons (fVar 1) (fCons (fVar 2) fNil)) ([.brw (.ins cS ns ds), .val (.int l), .val (.int w), .val (.tup [.int l, .int w])] : Env))
            rw [hval]
            intro v F3 H3 l3 rv
            have st3 := st2.step l3
            obtain ⟨kvs3, k3, k4⟩ := pmH st3.ok
            have a7 := l3.h _ _ aT a6
            have p7 := l3.h _ _ pkT (upd_same (H := H) (a := pk) (o := .tup [.int l, .int w]))
            obtain ⟨m1, m2⟩ := k4.put hR hmd rv
            refine ⟨.ref a, s0, a, cS, dx, _, .ref pm, rfl, a7, hcl, hna, f1, .ref pk, s3', pm, _, rfl, DPut.t (k := [.inl l, .inl w]) k3 p7 k4.few, ?_⟩
            have st4 := st3.mon hpm ((hmon _ _).mpr m1)
            refine fin st4 ?_ ?_ upd_same m1 m2
            · rw [upd_ne (show a ≠ pm from fun z => aT (by rw [z]; exact hpm))]; exact a7
            · rw [upd_ne (show pk ≠ pm from fun z => pkT (by rw [z]; exact hpm))]; exact p7
        · exact q.elim
      · exact q.elim
    · exact q.elim
end
end Fw
namespace Fw
open PySem PySem.Spec PyProof.Rows L2
open PySem.W (dataLt minD alike alikeAll AlikeAll min_list_data)
/-! ### min of a list of tuples of whole numbers -/
def tupP (l : List Int) : PyData := .tuple (l.map .int)
def minT (a : List Int) (l : List (List Int)) : List Int := l.foldl (fun a y => if dataLt (tupP y) (tupP a) then y else a) a
theorem minT_mem : ∀ (l : List (List Int)) (a : List Int), minT a l ∈ a :: l
  | [], a => by simp [minT]
  | y :: l, a => by
    have ih := minT_mem l (if dataLt (tupP y) (tupP a) then y else a)
    show minT (if dataLt (tupP y) (tupP a) then y else a) l ∈ _
    split at ih <;> rename_i h
    · rw [if_pos h]
      exact List.mem_cons_of_mem _ ih
    · rw [if_neg h]
      rcases List.mem_cons.mp ih with h2 | h2
      · rw [h2]; simp
      · exact List.mem_cons_of_mem _ (List.mem_cons_of_mem _ h2)
theorem minT_D : ∀ (l : List (List Int)) (a : List Int), minD (tupP a) (l.map tupP) = tupP (minT a l)
  | [], a => rfl
  | y :: l, a => by
    have ih := minT_D l (if dataLt (tupP y) (tupP a) then y else a)
    unfold minD at ih ⊢
    rw [List.map_cons, List.foldl_cons]
    show _ = tupP (minT (if dataLt (tupP y) (tupP a) then y else a) l)
    rw [← ih]
    congr 1
    split <;> rfl
theorem dep_ints : ∀ l : List Int, PyData.depthAll (l.map .int) = 0
  | [] => rfl
  | i :: l => by
    rw [List.map_cons, PyData.depthAll, dep_ints l]
    simp [PyData.depth]
theorem dep_tups : ∀ l : List (List Int), PyData.depthAll (l.map tupP) ≤ 1
  | [] => by simp [PyData.depthAll]
  | t :: l => by
    have ih := dep_tups l
    rw [List.map_cons, PyData.depthAll]
    unfold tupP at ih ⊢
    rw [PyData.depth, dep_ints]
    omega
theorem alike_ints : ∀ a b : List Int, alikeAll (a.map .int) (b.map .int) = true
  | [], _ => by unfold alikeAll; rfl
  | _ :: _, [] => by unfold alikeAll; rfl
  | x :: a, y :: b => by
    rw [List.map_cons, List.map_cons]
    unfold alikeAll
    rw [alike_ints a b]
    simp [alike]
theorem alike_tups (l : List (List Int)) : AlikeAll (l.map tupP) := by
  refine ⟨fun x hx y hy => ?_, fun x hx e => ?_⟩
  · obtain ⟨a, _, rfl⟩ := List.mem_map.mp hx
    obtain ⟨b, _, rfl⟩ := List.mem_map.mp hy
    unfold tupP
    unfold alike
    exact alike_ints a b
  · obtain ⟨a, _, rfl⟩ := List.mem_map.mp hx
    cases e
theorem reads_ints {h : Heap} : ∀ {vs : List Value} {a b : List Int} {as bs : List Addr}, ReadsAll h vs (a.map .int) as → ReadsAll h vs (b.map .int) bs → a = b
  | vs, [], [], _, _, _, _ => rfl
  | vs, [], y :: b, _, _, h1, h2 => by cases h1; cases h2
  | vs, x :: a, [], _, _, h1, h2 => by cases h2; cases h1
  | vs, x :: a, y :: b, _, _, h1, h2 => by
    rw [List.map_cons] at h1 h2
    cases h1 with
    | cons r1 q1 =>
      cases h2 with
      | cons r2 q2 =>
        have e := reads_ints q1 q2
        cases r1
        cases r2
        rw [e]
theorem reads_tup {h : Heap} {v : Value} {a b : List Int} {as bs : List Addr} (h1 : Reads h v (tupP a) as) (h2 : Reads h v (tupP b) bs) : a = b := by
  unfold tupP at h1 h2
  cases h1 with
  | tuple e1 c1 d1 q1 =>
    cases h2 with
    | tuple e2 c2 d2 q2 =>
      rw [e1] at e2
      cases e2
      rw [d1] at d2
      cases d2
      exact reads_ints q1 q2
def rMinT (K : PySem.W.Frag) : List V → Hp → VK → Prop := fun xs H Q => ∃ (a : Addr) (us : List V) (n : List Int) (ns : List (List Int)), xs = [.ref a] ∧ SqL K H a us ∧ DpAll K H us ((n :: ns).map tupP) ∧ ∀ (i : Nat) (u : V), us[i]? = some u → (n :: ns)[i]? = some (minT n ns) → Q u H
theorem dpAll_at {K : PySem.W.Frag} {H : Hp} : ∀ {us : List V} {ls : List (List Int)} {i : Nat} {u : V}, DpAll K H us (ls.map tupP) → us[i]? = some u → ∃ l, ls[i]? = some l ∧ Dp K H u (tupP l)
  | [], ls, i, u, h, e => by simp at e
  | x :: us, [], i, u, h, e => by cases h
  | x :: us, l :: ls, 0, u, h, e => by
    rw [List.map_cons] at h
    cases h with
    | cons h1 h2 => cases e; exact ⟨l, rfl, h1⟩
  | x :: us, l :: ls, i + 1, u, h, e => by
    rw [List.map_cons] at h
    cases h with
    | cons h1 h2 =>
      obtain ⟨l', e1, e2⟩ := dpAll_at h2 (by simpa using e)
      exact ⟨l', by simpa using e1, e2⟩
theorem vals_at {vs : List V} {us : List Value} (r : Vals vs us) : ∀ {i : Nat} {u : Value}, us[i]? = some u → ∃ v, vs[i]? = some v ∧ RelV v u := by
  induction r with
  | nil => intro i u e; simp at e
  | cons h t ih =>
    intro i u e
    cases i with
    | zero => cases e; exact ⟨_, rfl, h⟩
    | succ i =>
      obtain ⟨v, e1, e2⟩ := ih (by simpa using e)
      exact ⟨v, by simpa using e1, e2⟩
theorem cr_minT {X : Cx} (hc : X.calm = true) (hu : X.A.units + 64 < cLine) : CallR X (.builtin "min") (rMinT X.K) := by
  intro pins s σ H vs us Q I r h
  obtain ⟨a, ws, n, ns, rfl, hs, hd, q⟩ := h
  obtain ⟨its, rv, hl, _⟩ := I.list hs
  rw [Vals.ref1 r]
  obtain ⟨as, hr⟩ := Dp.readsAll I _ _ _ hd rv
  have hdep := dep_tups (n :: ns)
  rw [List.map_cons] at hr hdep
  refine min_list_data (I.ok.hd hc) hl.isList (by simpa using hr) (alike_tups (n :: ns)) (by omega) fun i v h' tk bs hv hrd hk => ?_
  obtain ⟨u, hu1, hu2⟩ := vals_at rv (i := i) (u := v) (by simpa using hv)
  obtain ⟨l, hl1, hl2⟩ := dpAll_at hd hu1
  obtain ⟨cs, hr2⟩ := Dp.reads I _ _ _ hl2 hu2
  have hr3 := Reads.keeps hk hr2
  rw [minT_D] at hrd
  have e := reads_tup hr3 hrd
  subst e
  exact ⟨u, H, I.kept hk, hu2, q i u hu1 hl1⟩
def tisOf : List D → Option (List (List Int))
  | [] => some []
  | .tup xs :: r => match intsOf xs, tisOf r with
    | some a, some b => some (a :: b)
    | _, _ => none
  | _ :: _ => none
theorem intsOf_eq : ∀ {xs : List D} {l : List Int}, intsOf xs = some l → xs = l.map .int
  | [], l, h => by cases h; rfl
  | x :: xs, l, h => by
    cases x <;> simp only [intsOf] at h <;> try cases h
    rename_i i
    cases e : intsOf xs with
    | none => rw [e] at h; cases h
    | some l' =>
      rw [e] at h
      cases h
      rw [intsOf_eq e]; rfl
theorem tisOf_eq : ∀ {xs : List D} {ls : List (List Int)}, tisOf xs = some ls → xs = ls.map fun l => .tup (l.map .int)
  | [], ls, h => by cases h; rfl
  | x :: xs, ls, h => by
    cases x <;> simp only [tisOf] at h <;> try cases h
    rename_i ys
    cases e : intsOf ys with
    | none => rw [e] at h; cases h
    | some l =>
      cases e2 : tisOf xs with
      | none => rw [e, e2] at h; cases h
      | some r =>
        rw [e, e2] at h
        cases h
        rw [tisOf_eq e2, intsOf_eq e]; rfl
def lstOf : R → Option (List D)
  | .val (.lst xs) => some xs
  | .bor xs => some xs
  | _ => none
theorem Rq.lstOf {K : PySem.W.Frag} {T : Tb} {H0 F' H' : Hp} {v : V} {r : R} {xs : List D} (q : Rq K T H0 F' H' v r) (ok : Ok T F' H') (e : Fw.lstOf r = some xs) : ∃ p vs, v = .ref p ∧ SqL K H' p vs ∧ RpL K F' xs vs := by
  cases r with
  | val d =>
    cases d <;> simp only [Fw.lstOf] at e <;> try cases e
    rw [Rq, Rp] at q
    obtain ⟨a, vs, h1, h2, h3⟩ := q
    exact ⟨a, vs, h1, ok.sub.l h2, h3⟩
  | bor xs =>
    simp only [Fw.lstOf] at e
    cases e
    obtain ⟨p, vs, h1, h3, h4, h5, h6⟩ := q
    exact ⟨p, vs, h1, .inl (.inl h5), h6⟩
  | brw d => cases e
  | new xs => cases e
def dMinT : List R → Option R
  | [r] => match lstOf r with
    | some xs => match tisOf xs with
      | some (n :: ns) => some (.val (.tup ((minT n ns).map .int)))
      | _ => none
    | none => none
  | _ => none
theorem dp_tups {K : PySem.W.Frag} {H : Hp} : ∀ {ls : List (List Int)} {us : List V}, RpL K H (ls.map fun l => .tup (l.map .int)) us → DpAll K H us (ls.map tupP)
  | [], us, h => by
    rw [List.map_nil, RpL] at h
    subst h
    exact .nil
  | l :: ls, us, h => by
    rw [List.map_cons, RpL] at h
    obtain ⟨v, r, rfl, h1, h2⟩ := h
    rw [Rp] at h1
    obtain ⟨a, vs, rfl, g1, g2⟩ := h1
    refine .cons (.tup g1 ?_) (dp_tups h2)
    clear g1 h2
    induction l generalizing vs with
    | nil => rw [List.map_nil, RpL] at g2; subst g2; exact .nil
    | cons i l ih =>
      rw [List.map_cons, RpL] at g2
      obtain ⟨v, r, rfl, k1, k2⟩ := g2
      rw [Rp] at k1
      subst k1
      exact .cons (.int i) (ih _ k2)
theorem cd_minT {K : PySem.W.Frag} {T : Tb} : CallD K T (rMinT K) dMinT := fun H0 F H vs rs c Q ok up q h k => by
  unfold dMinT at h
  split at h
  · rename_i r
    obtain ⟨v, rfl, q1⟩ := rql1 q
    split at h
    · rename_i xs e
      obtain ⟨p, us, rfl, h1, h2⟩ := q1.lstOf ok e
      split at h
      · rename_i n ns e2
        cases h
        have e3 := tisOf_eq e2
        subst e3
        refine ⟨p, us, n, ns, rfl, h1, dp_tups (h2.mono ok.sub), fun i u hi hn => k u F H (Le.refl ok) ?_⟩
        obtain ⟨d, g1, g2⟩ := h2.getV hi
        rw [List.getElem?_map, hn] at g1
        cases g1
        exact g2
      · cases h
    · cases h
  · cases h
theorem boot_min : bootBuiltins "min" = some (.builtin "min") := by first | boot_by_name | rfl | kernel_rfl
end Fw
namespace Fw
open PySem PySem.Spec PyProof.Rows L2
/-! ### e[k], e a dict that stays -/
def fGetE (fa fk : Env → O R) : Env → O R := fun es => (fa es).bind fun a => match a with
  | .val (.dct ks ds) => (fk es).bind fun r => match keyD r.fz.dat with
    | some k => O.of ((kGet ks ds k).map .val)
    | none => .no
  | .brw (.dct ks ds) => (fk es).bind fun r => match keyD r.fz.dat with
    | some k => O.of ((kGet ks ds k).map nrm)
    | none => .no
  | _ => .no
section
variable {X : Cx} {T : Tb} {W : WX} {a k : Expr} {fa fk : Env → O R} {pos : Pos}
theorem de_getE (hu : X.A.units + 1 < cLine) (ha : DE X T W a fa) (hk : DE X T W k fk) (hs : NoSl k := by intro _ _; rfl) : DE X T W (.Subscript a k pos) (fGetE fa fk) :=
  pe_weak (pe_dget hu ha hk hs) fun σ H Q ⟨F0, H0, F, es, st, h⟩ => by
    unfold fGetE at h
    refine ⟨F0, H0, F, es, st, pr_seq st h fun ra va F1 H1 _ st1 l1 q1 h1 => ?_⟩
    split at h1
    · rename_i ks ds _
      replace q1 : Rp X.K F1 (.dct ks ds) va := q1
      rw [Rp] at q1
      obtain ⟨p, od, vs, rfl, g5, g6, g7⟩ := q1
      refine ⟨F0, H0, F1, es, st1, pr_seq st1 h1 fun r v F2 H2 _ st2 l2 q2 h2 => ?_⟩
      split at h2
      · rename_i kk hkk
        cases hg : kGet ks ds kk with
        | none => rw [hg] at h2; exact h2.elim
        | some d =>
          rw [hg] at h2
          obtain ⟨u, e1, e2⟩ := (kGet_zip (k := kk) (g7.mono l2.f) g6).1 d hg
          have ev : v = kV (kyOf kk) := key_rp hkk (st2.rq q2)
          subst ev
          exact ⟨p, u, rfl, .inl ⟨_, _, .inr ⟨od, st2.ok.sub _ _ (l2.f _ _ g5)⟩, rfl, e1.symm⟩, h2 u F2 H2 (Le.refl st2.ok) e2⟩
      · exact h2.elim
    · rename_i ks ds _
      replace q1 : Rp X.K H0 (.dct ks ds) va := q1
      rw [Rp] at q1
      obtain ⟨p, od, vs, rfl, g5, g6, g7⟩ := q1
      have nT : p ∉ T := fun m => by
        rcases st1.ok0.odd p m with ⟨ps, z⟩ | ⟨ps, z⟩ <;> (rw [z] at g5; cases g5)
      refine ⟨F0, H0, F1, es, st1, pr_seq st1 h1 fun r v F2 H2 _ st2 l2 q2 h2 => ?_⟩
      split at h2
      · rename_i kk hkk
        cases hg : kGet ks ds kk with
        | none => rw [hg] at h2; exact h2.elim
        | some d =>
          rw [hg] at h2
          obtain ⟨u, e1, e2⟩ := (kGet_zip (k := kk) g7 g6).1 d hg
          have ev : v = kV (kyOf kk) := key_rp hkk (st2.rq q2)
          subst ev
          exact ⟨p, u, rfl, .inl ⟨_, _, .inr ⟨od, st2.le.h _ _ nT g5⟩, rfl, e1.symm⟩, h2 u F2 H2 (Le.refl st2.ok) (rr_nrm e2)⟩
      · exact h2.elim
    · exact h1.elim
end
end Fw
namespace Fw
open PySem PySem.Spec PyProof.Rows L2
/-! ### {texts: texts}[k], three of them -/
def fLit3 (a1 b1 a2 b2 a3 b3 : List Nat) (fk : Env → O R) : Env → O R := fun es => (fk es).bind fun r => match keyD r.fz.dat with
  | some k => O.of ((kGet [.inr a1, .inr a2, .inr a3] [.str b1, .str b2, .str b3] k).map .val)
  | none => .no
theorem putK3 {u v w : V} {a1 a2 a3 : List Nat} (h12 : a1 ≠ a2) (h13 : a1 ≠ a3) (h23 : a2 ≠ a3) :
    mergeK [] [(kyOf (.inr a1), u), (kyOf (.inr a2), v), (kyOf (.inr a3), w)] = [(kyOf (.inr a1), u), (kyOf (.inr a2), v), (kyOf (.inr a3), w)] := by
  have n12 : kyOf (.inr a1) ≠ kyOf (.inr a2) := fun z => h12 (Sum.inr.inj (kyOf_inj z))
  have n13 : kyOf (.inr a1) ≠ kyOf (.inr a3) := fun z => h13 (Sum.inr.inj (kyOf_inj z))
  have n23 : kyOf (.inr a2) ≠ kyOf (.inr a3) := fun z => h23 (Sum.inr.inj (kyOf_inj z))
  simp [mergeK, putK, n12, n13, n23, Ne.symm n12, Ne.symm n13, Ne.symm n23]
section
variable {X : Cx} {T : Tb} {W : WX} {a k e : Expr} {fa fk f : Env → O R} {pos pd p1 p2 p3 q1 q2 q3 : Pos} {x1 x2 x3 y1 y2 y3 : Str} {i1 i2 i3 j1 j2 j3 : Nat}
theorem de_lit3 (a1 b1 a2 b2 a3 b3 : List Nat) (hu : X.A.units + 1 < cLine) (hk : DE X T W k fk) (hs : NoSl k := by intro _ _; rfl)
    (h1 : x1 = tx a1 := by decide +kernel) (h2 : x2 = tx a2 := by decide +kernel) (h3 : x3 = tx a3 := by decide +kernel)
    (g1 : y1 = tx b1 := by decide +kernel) (g2 : y2 = tx b2 := by decide +kernel) (g3 : y3 = tx b3 := by decide +kernel)
    (h12 : a1 ≠ a2 := by decide) (h13 : a1 ≠ a3 := by decide) (h23 : a2 ≠ a3 := by decide) :
    DE X T W (.Subscript (.Dict [some (.Constant (.str x1) i1 p1), some (.Constant (.str x2) i2 p2), some (.Constant (.str x3) i3 p3)] [.Constant (.str y1) j1 q1, .Constant (.str y2) j2 q2, .Constant (.str y3) j3 q3] pd) k pos)
      (fLit3 a1 b1 a2 b2 a3 b3 fk) := by
  subst h1 h2 h3 g1 g2 g3
  refine pe_weak (pe_dget hu (pe_disp (pps_cons pe_str pe_str (pps_cons pe_str pe_str (pps_cons pe_str pe_str pps_nil))) rfl rfl (by simp) (by simp)) hk hs) fun σ H Q ⟨F0, H0, F, es, st, h⟩ => ?_
  unfold fLit3 at h
  intro p hp
  refine ⟨upd_same, [(kyOf (.inr a1), .str (tx b1)), (kyOf (.inr a2), .str (tx b2)), (kyOf (.inr a3), .str (tx b3))], rfl, by simp, ?_⟩
  rw [putK3 h12 h13 h23]
  have eh : ∀ o : HO, upd (upd H p (.dK [])) p o = upd H p o := fun o => by
    funext b
    by_cases hb : b = p
    · rw [hb, upd_same, upd_same]
    · rw [upd_ne hb, upd_ne hb, upd_ne hb]
  rw [eh]
  have l := Le.newH st.ok (o := .dK [(kyOf (.inr a1), .str (tx b1)), (kyOf (.inr a2), .str (tx b2)), (kyOf (.inr a3), .str (tx b3))]) hp
  have st2 := st.step l
  have nT : p ∉ T := st.ok.nt hp
  refine ⟨F0, H0, F, es, st2, pr_seq st2 (h.step l fun _ _ _ _ q => q.back l) fun r v F2 H2 _ st3 l2 q2 h2 => ?_⟩
  split at h2
  · rename_i kk hkk
    cases hg : kGet [.inr a1, .inr a2, .inr a3] [.str b1, .str b2, .str b3] kk with
    | none => rw [hg] at h2; exact h2.elim
    | some d =>
      rw [hg] at h2
      have rr : RpL X.K F2 [.str b1, .str b2, .str b3] [.str (tx b1), .str (tx b2), .str (tx b3)] := RpL.cons (by rw [Rp]) (RpL.cons (by rw [Rp]) (RpL.cons (by rw [Rp]) RpL.nil))
      obtain ⟨u, e1, e2⟩ := (kGet_zip (ks := [.inr a1, .inr a2, .inr a3]) (k := kk) rr rfl).1 d hg
      have ev : v = kV (kyOf kk) := key_rp hkk (st3.rq q2)
      subst ev
      exact ⟨p, u, rfl, .inl ⟨_, _, .inl (l2.h p _ nT upd_same), rfl, e1.symm⟩, h2 u F2 H2 (Le.refl st3.ok) e2⟩
  · exact h2.elim
end
end Fw
namespace Fw
open PySem PySem.Spec PyProof.Rows L2
/-! ### objects that grow behind the fields of an object in the making -/
def plainS : Sl → Bool
  | .val _ => true
  | .brw _ => true
  | .no => true
  | _ => false
/-- new, not frozen, no table -/
def Raw (T : Tb) (H0 F : Hp) (p : Addr) : Prop := H0 p = none ∧ F p = none ∧ p ∉ T
section
variable {K : PySem.W.Frag} {T : Tb} {F0 H0 F H F' H' : Hp} {σ : L2.St} {es : Env} {p : Addr} {o : HO}
theorem Raw.step (h : Raw T H0 F p) (e : H p ≠ none) (l : Le T F H F' H') : Raw T H0 F' p := ⟨h.1, l.n p h.2.1 e, h.2.2⟩
theorem plain_at (h : es.all plainS = true) {j : Nat} {s : Sl} (e : es[j]? = some s) : plainS s = true := List.all_eq_true.mp h s (List.mem_iff_getElem?.mpr ⟨j, e⟩)
theorem StOk.raw (st : StOk K T F0 H0 F H σ es) (hn : es.all plainS = true) (r : Raw T H0 F p) : StOk K T F0 H0 F (upd H p o) σ es where
  ok0 := st.ok0
  le := st.le.mut r.1 r.2.1 r.2.2
  env := ⟨st.env.len, st.env.val, st.env.brw, fun i xs h => (nomatch (plain_at hn h)), fun i j xs ys q h => (nomatch (plain_at hn h)),
    fun i xss h => (nomatch (plain_at hn h)), ⟨fun i ks ds h => (nomatch (plain_at hn h)), fun i j ks ds ks' ds' q h => (nomatch (plain_at hn h))⟩⟩
/-- a dict by ints -/
def dOf (on : List Nat) (f : Nat → V) : List (Key × V) := on.map fun (s : Nat) => ((.inl (s : Int) : Key), f s)
theorem dOf_val {on : List Nat} {f : Nat → V} {s : Nat} (h : s ∈ on) : valV (dOf on f) (.inl (s : Int) : Key) = some (f s) := by
  induction on with
  | nil => cases h
  | cons a on ih =>
    unfold dOf at ih ⊢
    rw [List.map_cons]
    by_cases e : a = s
    · subst e; exact valV_pos rfl
    · rw [valV_neg (fun z => e (by have := Sum.inl.inj z; omega))]
      exact ih ((List.mem_cons.mp h).resolve_left fun z => e z.symm)
theorem dOf_put {on : List Nat} {f : Nat → V} {s : Nat} (h : s ∈ on) (v : V) : putK (dOf on f) (.inl (s : Int) : Key) v = dOf on fun k => if k = s then v else f k := by
  unfold putK
  rw [if_pos]
  · unfold dOf
    rw [List.map_map]
    apply List.map_congr_left
    intro a _
    show (if (Sum.inl (a : Int) : Key) = .inl (s : Int) then _ else _) = _
    by_cases e : a = s
    · subst e; simp
    · rw [if_neg (fun z => e (by have := Sum.inl.inj z; omega))]
      show _ = (_, if a = s then v else f a)
      rw [if_neg e]
  · rw [List.any_eq_true]
    exact ⟨(.inl (s : Int), f s), List.mem_map.mpr ⟨s, h, rfl⟩, by simp⟩
theorem dOf_len (on : List Nat) (f : Nat → V) : (dOf on f).length = on.length := by simp [dOf]
theorem dOf_zip (on : List Nat) (f : Nat → V) : dOf on f = ((on.map fun (s : Nat) => (.inl (s : Int) : DK)).map kyOf).zip (on.map f) := by
  unfold dOf
  induction on with
  | nil => rfl
  | cons a on ih => simp only [List.map_cons, List.zip_cons_cons, ih]; rfl
/-- the dicts of lists and of ints in the making -/
structure Grow (K : PySem.W.Frag) (T : Tb) (H0 F H : Hp) (on : List Nat) (ph pn : Addr) (pl : Nat → Addr) (Hv : Nat → List D) (Nr : Nat → Int) : Prop where
  rh : Raw T H0 F ph
  rn : Raw T H0 F pn
  rl : ∀ s ∈ on, Raw T H0 F (pl s)
  hh : H ph = some (.dK (dOf on fun s => .ref (pl s)))
  hn : H pn = some (.dK (dOf on fun s => .int (Nr s)))
  hl : ∀ s ∈ on, ∃ vs, H (pl s) = some (.lst vs) ∧ RpL K F (Hv s) vs
  inj : ∀ s ∈ on, ∀ t ∈ on, pl s = pl t → s = t
  ne : ph ≠ pn
variable {on : List Nat} {ph pn : Addr} {pl : Nat → Addr} {Hv : Nat → List D} {Nr : Nat → Int}
theorem Grow.step (g : Grow K T H0 F H on ph pn pl Hv Nr) (l : Le T F H F' H') : Grow K T H0 F' H' on ph pn pl Hv Nr where
  rh := g.rh.step (by rw [g.hh]; simp) l
  rn := g.rn.step (by rw [g.hn]; simp) l
  rl := fun s hs => (g.rl s hs).step (by obtain ⟨vs, e, _⟩ := g.hl s hs; rw [e]; simp) l
  hh := l.h _ _ g.rh.2.2 g.hh
  hn := l.h _ _ g.rn.2.2 g.hn
  hl := fun s hs => by
    obtain ⟨vs, e, r⟩ := g.hl s hs
    exact ⟨vs, l.h _ _ (g.rl s hs).2.2 e, r.mono l.f⟩
  inj := g.inj
  ne := g.ne
theorem Grow.app (g : Grow K T H0 F H on ph pn pl Hv Nr) {s : Nat} (hs : s ∈ on) {vs : List V} (e : H (pl s) = some (.lst vs)) {d : D} {v : V} (hv : Rp K F d v) :
    Grow K T H0 F (upd H (pl s) (.lst (vs ++ [v]))) on ph pn pl (fun k => if k = s then Hv k ++ [d] else Hv k) Nr where
  rh := g.rh
  rn := g.rn
  rl := g.rl
  hh := by rw [upd_ne (fun z => by rw [← z, g.hh] at e; cases e)]; exact g.hh
  hn := by rw [upd_ne (fun z => by rw [← z, g.hn] at e; cases e)]; exact g.hn
  hl := fun k hk => by
    obtain ⟨us, e2, r⟩ := g.hl k hk
    by_cases z : k = s
    · subst z
      rw [e] at e2; cases e2
      exact ⟨_, upd_same, by rw [if_pos rfl]; exact r.app (RpL.cons hv RpL.nil)⟩
    · refine ⟨us, by rw [upd_ne (fun y => z (g.inj k hk s hs y))]; exact e2, by rw [if_neg z]; exact r⟩
  inj := g.inj
  ne := g.ne
theorem Grow.put (g : Grow K T H0 F H on ph pn pl Hv Nr) {s : Nat} (hs : s ∈ on) (z : Int) :
    Grow K T H0 F (upd H pn (.dK (putK (dOf on fun s => .int (Nr s)) (.inl (s : Int)) (.int z)))) on ph pn pl Hv (fun k => if k = s then z else Nr k) where
  rh := g.rh
  rn := g.rn
  rl := g.rl
  hh := by rw [upd_ne g.ne]; exact g.hh
  hn := by
    rw [upd_same, dOf_put hs]
    congr 3
    funext k
    by_cases e : k = s <;> simp [e]
  hl := fun k hk => by
    obtain ⟨us, e2, r⟩ := g.hl k hk
    exact ⟨us, by rw [upd_ne (fun y => by rw [y, g.hn] at e2; cases e2)]; exact e2, r⟩
  inj := g.inj
  ne := g.ne
/-- all of a list of addresses frozen at once -/
def frzF (F H : Hp) (P : List Addr) : Hp := fun a => if a ∈ P then H a else F a
theorem frz_le {P : List Addr} (ok0 : Ok T F0 H0) (l : Le T F0 H0 F H) (hP : ∀ p ∈ P, Raw T H0 F p) : Le T F0 H0 (frzF F H P) H ∧ Sub F (frzF F H P) := by
  have sb : Sub F (frzF F H P) := fun a o e => by
    unfold frzF
    rw [if_neg (fun z => by rw [(hP a z).2.1] at e; cases e)]
    exact e
  refine ⟨⟨l.f.trans sb, l.h, fun a e n => ?_, ⟨fun a o e => ?_, fun q hq => (l.ok.tab q hq).keep sb rfl, fun q hq => ?_⟩⟩, sb⟩
  · unfold frzF
    rw [if_neg (fun z => n (hP a z).1)]
    exact l.n a e n
  · unfold frzF at e
    split at e
    · exact e
    · exact l.ok.sub a o e
  · unfold frzF
    rw [if_neg (fun z => (hP q z).2.2 hq)]
    exact l.ok.ntab q hq
end
/-! ### a dict made of a list of ints -/
section
variable {X : Cx} {T : Tb} {W : WX}
theorem dc_on {K : PySem.W.Frag} {F0 H0 F H : Hp} {v : Nat} {src : Env → O (List R)} {tv : TE} {σ : L2.St} {es : Env} {Q : VK} {on : List Nat} (st : StOk K T F0 H0 F H σ es) (hsrc : src es = .ok (on.map fun (s : Nat) => R.val (.int (s : Int)))) (hlen : on.length ≤ 90000) (hv : v < es.length) (hnd : on.Nodup)
    (J : Nat → Hp → Hp → List V → Prop) (hJ0 : ∀ F' H', Le T F H F' H' → J 0 F' H' [])
    (hJl : ∀ i F' H' F'' H'' zs, J i F' H' zs → Le T F' H' F'' H'' → J i F'' H'' zs)
    (hJu : ∀ i F' H' zs p o, J i F' H' zs → (H' p = none ∨ ∃ k, H' p = some (.dK k)) → J i F' (upd H' p o) zs)
    (htv : ∀ i σ' F' H' zs Q, J i F' H' zs → i < on.length → Le T F H F' H' → (∀ z H'', Le T F' H' F' H'' → J (i + 1) F' H'' (zs ++ [z]) → Q z H'') → tv σ' H' Q)
    (hQ : ∀ Dl F' H' zs, H Dl = none → StOk K T F0 H0 F' H' σ es → Le T F H F' H' → Raw T H0 F' Dl → zs.length = on.length → J on.length F' H' zs → H' Dl = some (.dK ((on.map fun (s : Nat) => ((.inl (s : Int)) : Key)).zip zs)) → Q (.ref Dl) H') :
    tDc (tI false K T W src) (gName v) (tT K T W0 fYes) (tD K T W0 (fVar v)) tv [v] σ H Q := by
  refine ⟨F0, H0, F, es, st, ?_⟩
  rw [hsrc]
  intro It F1 H1 l1 q1
  obtain ⟨G, Y, w, hG, hY⟩ := q1
  intro Dl hD
  have st1 := st.step l1
  have nT : Dl ∉ T := st1.ok.nt hD
  have h0D : H0 Dl = none := st1.h0 nT hD
  have hHD : H Dl = none := by
    cases e : H Dl with
    | none => rfl
    | some o => rw [l1.h Dl o nT e] at hD; cases hD
  let xs : List R := on.map fun (s : Nat) => R.val (.int (s : Int))
  have hxl : xs.length = on.length := List.length_map _
  refine walk_gen (B := fun Nx x H H' => gName v x (L2.wipe σ [v]) H' fun σ2 H2 => L2.wipe σ2 [v] = L2.wipe σ [v] ∧ tT K T W0 fYes σ2 H2 fun b H3 =>
      if b = true then tD K T W0 (fVar v) σ2 H3 fun y H4 => tv σ2 H4 fun z H5 => ∃ kvs k, y = kV k ∧ H5 Dl = some (.dK kvs) ∧ kvs.length < sizeLine ∧ Nx (upd H5 Dl (.dK (putK kvs k z))) else Nx H3) w
    (fun i H2 => ∃ F2 zs, Le T F1 H1 F2 H2 ∧ F2 Dl = none ∧ zs.length = i ∧ i ≤ on.length ∧ H2 Dl = some (.dK (((on.take i).map fun (s : Nat) => ((.inl (s : Int)) : Key)).zip zs)) ∧ J i F2 H2 zs)
    ⟨F1, [], Le.newH st1.ok hD, st1.ok.nf hD, rfl, Nat.zero_le _, by rw [upd_same]; simp, hJu _ _ _ _ _ _ (hJ0 _ _ l1) (.inl hD)⟩ ?_ ?_ ?_
  · intro i H2 hi ⟨F2, zs, l2, _⟩
    exact hG F2 H2 ⟨l2, st1.le.trans l2⟩
  · intro i x H2 H3 hi ⟨F2, zs, l2, hF, hz, hle, hH, hJ⟩ hy
    obtain ⟨F3, r, hx, l3, q3⟩ := hY i H2 x H3 F2 hi ⟨l2, st1.le.trans l2⟩ hy
    have hi' : i < on.length := by rw [← hxl]; exact hi
    have er : r = .val (.int ((on[i] : Nat) : Int)) := by
      have : xs[i]? = some r := hx
      rw [List.getElem?_map, List.getElem?_eq_getElem hi'] at this
      exact (Option.some.inj this).symm
    subst er
    replace q3 : Rp K F3 (.int ((on[i] : Nat) : Int)) x := q3
    rw [Rp] at q3
    subst q3
    have st3 : StOk K T F0 H0 F3 H3 (L2.wipe σ [v]) (wipeE es [v]) := ((st1.step l2).step l3).wipe [v]
    have hvw : v < (wipeE es [v]).length := by rw [wipeE_len]; exact hv
    have st4 := st3.set (i := v) (v := .int ((on[i] : Nat) : Int)) (s := .val (.int ((on[i] : Nat) : Int))) (by show Rp K F3 _ _; rw [Rp])
    refine ⟨?_, ?_⟩
    · apply List.ext_getElem?
      intro j
      rw [wipe_get, wipe_get]
      by_cases e : j = v
      · subst e
        have hl : (L2.wipe σ [j]).length = σ.length := wipe_length _ _
        have : j < σ.length := by rw [st.env.len]; exact hv
        rw [if_pos ⟨by simp, by simp [hl, this]⟩, if_pos ⟨by simp, this⟩]
      · rw [if_neg (fun z => e (by simpa using z.1)), if_neg (fun z => e (by simpa using z.1)), List.getElem?_set_ne (fun z => e z.symm), wipe_get, if_neg (fun z => e (by simpa using z.1))]
    · refine ⟨F0, H0, F3, _, st4, ?_⟩
      intro b' F4 H4 l4 eb
      subst eb
      rw [if_pos rfl]
      refine ⟨F0, H0, F4, _, st4.step l4, ?_⟩
      have ev : fVar v ((wipeE es [v]).set v (.val (.int ((on[i] : Nat) : Int)))) = .ok (.val (.int ((on[i] : Nat) : Int))) := by
        unfold fVar
        rw [List.getElem?_set_self hvw]
      rw [ev]
      intro y F5 H5 l5 q5
      replace q5 : Rp K F5 (.int ((on[i] : Nat) : Int)) y := q5
      rw [Rp] at q5
      subst q5
      have l25 : Le T F2 H2 F5 H5 := (l3.trans l4).trans l5
      refine htv i _ F5 H5 zs _ (hJl _ _ _ _ _ _ hJ l25) hi' ((l1.trans l2).trans l25) fun z H6 l6 hJ6 => ?_
      have l26 := l25.trans l6
      have hH6 := l26.h Dl _ nT hH
      have hF6 : F5 Dl = none := l26.n Dl hF (by rw [hH]; simp)
      refine ⟨_, .inl ((on[i] : Nat) : Int), rfl, hH6, ?_, F5, zs ++ [z], (l2.trans l26).mut hD hF6 nT, hF6, by simp [hz], hi', ?_, hJu _ _ _ _ _ _ hJ6 (.inr ⟨_, hH6⟩)⟩
      · rw [List.length_zip]
        exact Nat.lt_of_le_of_lt (Nat.min_le_right _ _) (szl (by omega))
      · rw [upd_same]
        have nv : valV (((on.take i).map fun (s : Nat) => ((.inl (s : Int)) : Key)).zip zs) (.inl ((on[i] : Nat) : Int) : Key) = none := by
          cases e : valV (((on.take i).map fun (s : Nat) => ((.inl (s : Int)) : Key)).zip zs) (.inl ((on[i] : Nat) : Int) : Key) with
          | none => rfl
          | some u =>
            have m := valV_mem e
            obtain ⟨m1, _⟩ := List.of_mem_zip m
            obtain ⟨s, hs, es'⟩ := List.mem_map.mp m1
            have e' : s = on[i] := by have := Sum.inl.inj es'; omega
            subst e'
            obtain ⟨j, hj, ej⟩ := List.mem_iff_getElem.mp hs
            rw [List.getElem_take] at ej
            have := (List.getElem_inj hnd).mp ej
            have := List.length_take_le i on
            omega
        rw [putK_new _ nv]
        have et : on.take (i + 1) = on.take i ++ [on[i]] := by rw [List.take_succ, List.getElem?_eq_getElem hi']; rfl
        rw [et, List.map_append, List.zip_append (by simp [hz]; omega)]
        rfl
  · intro H2 ⟨F2, zs, l2, hF, hz, _, hH, hJ⟩
    have l12 := l1.trans l2
    replace hz : zs.length = on.length := hz.trans hxl
    have e1 : (on.map fun (s : Nat) => R.val (.int (s : Int))).length = on.length := hxl
    rw [e1] at hH hJ
    refine hQ Dl F2 H2 zs hHD (st.step l12) l12 ⟨h0D, hF, nT⟩ hz hJ ?_
    rw [hH, List.take_length]
end
end Fw
/-! Steps of the data, and what is common to the laws' values. -/
namespace Fw
open PySem PySem.Spec PyProof.Rows L2
def Sg (s : List Nat) : Prop := ∀ c ∈ s, c = 48 ∨ c = 49 ∨ c = 45
theorem bit1 (n : Nat) : Builtin.bitAnd (n : Int) 1 = ((n % 2 : Nat) : Int) := by
  unfold Builtin.bitAnd
  simp [Nat.and_one_is_mod]
theorem shr_nat (n k : Nat) : (n : Int) / 2 ^ k = ((n / 2 ^ k : Nat) : Int) := by simp
def fin (o : Out) : O R := match o with
  | .nx _ => .ok (.val .non)
  | .rt r => .ok r
  | _ => .no
def sgn (n k : Nat) : Nat := if n / 2 ^ k % 2 = 1 then 49 else 48
theorem m_is_lit (n k : Nat) : run0 2 (gRet (fBin dEq (fBin dAnd (fBin dShr (fVar 0) (fVar 1)) (fC (.int 1))) (fC (.int 1)))) [.int n, .int k] = .ok (.val (.bl (decide (n / 2 ^ k % 2 = 1)))) := by
  simp [run0, startE, slotD, flat, gSeq, gSet, gIf, gRet, gRetV, gNext, gExpr, fBin, fVar, fC, fCall0, fTest, R.tst, fNot, fAnd, fOr, fAndV, fIf, fNil, fCons, fLst, fTup, fSl, fPart, fNoPart, fBi, fRg1, R.fz, R.dat, R.sto, stoL, nrm, dAdd, dSub, dMod, dDiv, dMulA, dMul, i2, modC, divC, mulC, shlC, shrC, dShl, dShr, dAnd, dIx, atR, dLen, lenD, dSl, O.of, bit1, dEq, shp, deq, ← shr_nat]
  rw [shr_nat, bit1]
  by_cases h : n / 2 ^ k % 2 = 1
  · simp [dEq, shp, deq, h]
  · have h0 : n / 2 ^ k % 2 = 0 := by omega
    simp [dEq, shp, deq, h0]
theorem m_sign_at {gl : List D → O R} (hl : ∀ n k : Nat, gl [.int n, .int k] = .ok (.val (.bl (decide (n / 2 ^ k % 2 = 1))))) (n k : Nat) : run0 2 (gRet (fIf (fTest (fCall0 gl (fCons (fVar 0) (fCons (fVar 1) fNil)))) (fC (.str [49])) (fC (.str [48])))) [.int n, .int k] = .ok (.val (.str [sgn n k])) := by
  simp [run0, startE, slotD, flat, gSeq, gSet, gIf, gRet, gRetV, gNext, gExpr, fBin, fVar, fC, fCall0, fTest, R.tst, fNot, fAnd, fOr, fAndV, fIf, fNil, fCons, fLst, fTup, fSl, fPart, fNoPart, fBi, fRg1, R.fz, R.dat, R.sto, stoL, nrm, dAdd, dSub, dMod, dDiv, dMulA, dMul, i2, modC, divC, mulC, shlC, shrC, dShl, dShr, dAnd, dIx, atR, dLen, lenD, dSl, O.of, hl, sgn]
  by_cases h : n / 2 ^ k % 2 = 1 <;> simp [h]
def okS (n k c : Nat) : Bool := decide (c = 45) || decide (c = sgn n k)
def agB (n : Nat) : Nat → List Nat → Bool
  | _, [] => true
  | k, c :: r => okS n k c && agB n (k + 1) r
theorem enum_loop {body : Fw.Env → Out} {t : List Nat} {n : Nat} (hb : ∀ (k c : Nat), (c = 48 ∨ c = 49 ∨ c = 45) → body [.val (.str t), .val (.int n), .val (.int k), .val (.str [c])] = if okS n k c = true then .nx [.val (.str t), .val (.int n), .val (.int k), .val (.str [c])] else .rt (.val (.bl false))) :
    ∀ (s : List Nat), Sg s → ∀ (k : Nat) (x y : Sl), (forL (.tp [2, 3]) body (enD k (signsD s)) [.val (.str t), .val (.int n), x, y]).seq (gRet (fC (.bl true))) = .rt (.val (.bl (agB n k s)))
  | [], _, k, x, y => rfl
  | c :: s, h, k, x, y => by
    have hc := h c (by simp)
    have ih := enum_loop hb s (fun d hd => h d (by simp [hd])) (k + 1) (.val (.int k)) (.val (.str [c]))
    have e1 : stTg (.tp [2, 3]) (R.val (.tup [.int (k : Int), .str [c]])) [.val (.str t), .val (.int n), x, y] = some [.val (.str t), .val (.int n), .val (.int k), .val (.str [c])] := rfl
    have hbb := hb k c hc
    show (forL (.tp [2, 3]) body (.val (.tup [.int (k : Int), .str [c]]) :: enD (k + 1) (signsD s)) [.val (.str t), .val (.int n), x, y]).seq _ = _
    rw [forL, e1]
    simp only [hbb]
    cases ho : okS n k c with
    | true =>
      simp only [if_true]
      rw [ih, agB, ho]
      simp
    | false =>
      rw [agB, ho]
      simp
theorem m_has {gs : List D → O R} (hgs : ∀ n k : Nat, gs [.int n, .int k] = .ok (.val (.str [sgn n k]))) (s : List Nat) (hs : Sg s) (n : Nat) : run0 4 (gSeq (gFor (fEnum true (fCons (fVar 0) fNil)) (.tp [2, 3]) (gIf (fAnd (fTest (fBin dNe (fVar 3) (fC (.str [45])))) (fTest (fBin dNe (fVar 3) (fCall0 gs (fCons (fVar 1) (fCons (fVar 2) fNil)))))) (gRet (fC (.bl false))) gNext)) (gRet (fC (.bl true)))) [.str s, .int n] = .ok (.val (.bl (agB n 0 s))) := by
  have h := enum_loop (t := s) (n := n) (body := gIf (fAnd (fTest (fBin dNe (fVar 3) (fC (.str [45])))) (fTest (fBin dNe (fVar 3) (fCall0 gs (fCons (fVar 1) (fCons (fVar 2) fNil)))))) (gRet (fC (.bl false))) gNext) (by
    intro k c hc
    have hsg : sgn n k = 48 ∨ sgn n k = 49 := by unfold sgn; split <;> simp
    rcases hc with rfl | rfl | rfl <;> rcases hsg with e | e <;> simp [run0, startE, slotD, flat, gSeq, gSet, gIf, gRet, gRetV, gNext, gExpr, fBin, fVar, fC, fCall0, fTest, R.tst, fNot, fAnd, fOr, fAndV, fIf, fNil, fCons, fLst, fTup, fSl, fPart, fNoPart, fBi, fRg1, R.fz, R.dat, R.sto, stoL, nrm, dAdd, dSub, dMod, dDiv, dMulA, dMul, i2, modC, divC, mulC, shlC, shrC, dShl, dShr, dAnd, dIx, atR, dLen, lenD, dSl, O.of, hgs, dNe, shp, deq, okS, e]) s hs 0 .no .no
  exact congrArg fin h
theorem m_agrees (s : List Nat) (hs : Sg s) (n : Nat) : run0 4 (gSeq (gFor (fEnum true (fCons (fVar 0) fNil)) (.tp [2, 3]) (gIf (fAnd (fTest (fBin dNe (fVar 3) (fC (.str [45])))) (fTest (fBin dNe (fBi dInt (fCons (fVar 3) fNil)) (fBin dAnd (fBin dShr (fVar 1) (fVar 2)) (fC (.int 1)))))) (gRet (fC (.bl false))) gNext)) (gRet (fC (.bl true)))) [.str s, .int n] = .ok (.val (.bl (agB n 0 s))) := by
  have h := enum_loop (t := s) (n := n) (body := gIf (fAnd (fTest (fBin dNe (fVar 3) (fC (.str [45])))) (fTest (fBin dNe (fBi dInt (fCons (fVar 3) fNil)) (fBin dAnd (fBin dShr (fVar 1) (fVar 2)) (fC (.int 1)))))) (gRet (fC (.bl false))) gNext) (by
    intro k c hc
    have hsg : (n / 2 ^ k % 2 = 1 ∧ sgn n k = 49) ∨ (n / 2 ^ k % 2 = 0 ∧ sgn n k = 48) := by unfold sgn; split <;> omega
    rcases hc with rfl | rfl | rfl <;> rcases hsg with ⟨e0, e⟩ | ⟨e0, e⟩ <;> simp [run0, startE, slotD, flat, gSeq, gSet, gIf, gRet, gRetV, gNext, gExpr, fBin, fVar, fC, fCall0, fTest, R.tst, fNot, fAnd, fOr, fAndV, fIf, fNil, fCons, fLst, fTup, fSl, fPart, fNoPart, fBi, fRg1, R.fz, R.dat, R.sto, stoL, nrm, dAdd, dSub, dMod, dDiv, dMulA, dMul, i2, modC, divC, mulC, shlC, shrC, dShl, dShr, dAnd, dIx, atR, dLen, lenD, dSl, O.of, dInt, numS, dNe, shp, deq, okS, e] <;> rw [shr_nat, bit1, e0] <;> simp) s hs 0 .no .no
  exact congrArg fin h
theorem mulC_r {i j : Int} (h1 : -(2 ^ 64) < j) (h2 : j < 2 ^ 64) : mulC i j = true := by simp only [mulC, decide_eq_true_eq]; exact Or.inr ⟨h1, h2⟩
theorem mulC_l {i j : Int} (h1 : -(2 ^ 64) < i) (h2 : i < 2 ^ 64) : mulC i j = true := by simp only [mulC, decide_eq_true_eq]; exact Or.inl ⟨h1, h2⟩
def spr (c k : Int) : Int := (c + 3) * (48271 + 2 * k * k + k) % 2147483647
theorem spr_lo (c k : Int) : 0 ≤ spr c k := by unfold spr; omega
theorem spr_hi (c k : Int) : spr c k < 2147483647 := by unfold spr; omega
theorem m_spread (c k : Int) (h0 : 0 ≤ k) (h1 : k < 100) : run0 2 (gRet (fBin dMod (fBin dMulA (fBin dAdd (fVar 0) (fC (.int 3))) (fBin dAdd (fBin dAdd (fC (.int 48271)) (fBin dMulA (fBin dMulA (fC (.int 2)) (fVar 1)) (fVar 1))) (fVar 1))) (fC (.int 2147483647)))) [.int c, .int k] = .ok (.val (.int (spr c k))) := by
  have m1 : mulC 2 k = true := mulC_l (by decide) (by decide)
  have m2 : mulC (2 * k) k = true := mulC_r (by omega) (by omega)
  have hk : 0 ≤ 2 * k * k ∧ 2 * k * k ≤ 20000 := by
    constructor
    · exact Int.mul_nonneg (by omega) h0
    · calc 2 * k * k ≤ 200 * 100 := Int.mul_le_mul (by omega) (by omega) h0 (by omega)
        _ = 20000 := by decide
  have m3 : mulC (c + 3) (48271 + 2 * k * k + k) = true := mulC_r (by omega) (by omega)
  simp only [run0, startE, slotD, flat, gRet, fBin, fVar, fC, R.fz, dAdd, dMulA, dMul, dMod, i2, modC, O.of, List.map, List.length, List.replicate, List.append, m1, m2, m3, if_true]
  simp [m1, m2, m3, spr]
theorem cut_take {α : Type} (s : List α) (k : Nat) : cutL s none (some (k : Int)) = s.take k := by
  unfold cutL
  rw [HT.sIx_nat, HT.sIx_none]
  simp [List.take_eq_take_iff]
theorem cut_drop {α : Type} (s : List α) (k : Nat) : cutL s (some (k : Int)) none = s.drop k := by
  unfold cutL
  rw [HT.sIx_nat, HT.sIx_none]
  by_cases h : k ≤ s.length
  · rw [Nat.min_eq_left h, List.take_of_length_le (by simp)]
  · rw [Nat.min_eq_right (by omega)]
    simp [List.drop_eq_nil_of_le (Nat.le_of_lt (Nat.lt_of_not_le h))]
theorem atI_nat {α : Type} (s : List α) (k : Nat) : atI s (k : Int) = s[k]? := by
  unfold atI ixN
  by_cases h : k < s.length
  · simp [h]
  · simp [h]
def put (s : List Nat) (k c : Nat) : List Nat := s.take k ++ [c] ++ s.drop (k + 1)
theorem put_len {s : List Nat} {k c : Nat} (h : k < s.length) : (put s k c).length = s.length := by
  simp [put]; omega
theorem put_sg {s : List Nat} {k c : Nat} (h : Sg s) (hc : c = 48 ∨ c = 49 ∨ c = 45) : Sg (put s k c) := by
  intro d hd
  simp only [put, List.mem_append, List.mem_singleton] at hd
  rcases hd with (hd | hd) | hd
  · exact h d (List.mem_of_mem_take hd)
  · subst hd; exact hc
  · exact h d (List.mem_of_mem_drop hd)
def Tm (n : Nat) (s : List Nat) : Prop := s.length = n ∧ Sg s
theorem of_nat {i : Int} (h : 0 ≤ i) : ∃ n : Nat, i = n := ⟨i.toNat, by omega⟩
theorem sign3 {i : Int} (h0 : 0 ≤ i) (h1 : i < 3) : ∃ c, atI [48, 49, 45] i = some c ∧ (c = 48 ∨ c = 49 ∨ c = 45) := by
  have : i = 0 ∨ i = 1 ∨ i = 2 := by omega
  rcases this with rfl | rfl | rfl
  · exact ⟨48, rfl, by simp⟩
  · exact ⟨49, rfl, by simp⟩
  · exact ⟨45, rfl, by simp⟩
theorem forL_rgA {t : Tg} {body : Fw.Env → Out} {n : Nat} (I : Nat → Fw.Env → Prop) (hb : ∀ i, i < n → ∀ es, I i es → ∃ e1, stTg t (.val (.int (i : Nat))) es = some e1 ∧ ∃ e2, body e1 = .nx e2 ∧ I (i + 1) e2) :
    ∀ (m k : Nat) (es : Fw.Env), k + m = n → I k es → ∃ e2, forL t body ((List.range' k m).map fun i => .val (.int (0 + (i : Nat)))) es = .nx e2 ∧ I n e2
  | 0, k, es, h, hi => by
    have : k = n := by omega
    subst this
    exact ⟨es, rfl, hi⟩
  | m + 1, k, es, h, hi => by
    obtain ⟨e1, h1, e2, h2, h3⟩ := hb k (by omega) es hi
    obtain ⟨e3, h4, h5⟩ := forL_rgA I hb m (k + 1) e2 (by omega) h3
    refine ⟨e3, ?_, h5⟩
    rw [List.range'_succ, List.map_cons, forL, Int.zero_add, h1]
    simp only [h2]
    exact h4
theorem forL_rg {t : Tg} {body : Fw.Env → Out} {n : Nat} (I : Nat → Fw.Env → Prop) (hb : ∀ i, i < n → ∀ es, I i es → ∃ e1, stTg t (.val (.int (i : Nat))) es = some e1 ∧ ∃ e2, body e1 = .nx e2 ∧ I (i + 1) e2)
    {es : Fw.Env} (h : I 0 es) : ∃ e2, forL t body (rgD 0 n) es = .nx e2 ∧ I n e2 := by
  have := forL_rgA I hb n 0 es (by omega) h
  rwa [← List.range_eq_range'] at this
theorem lcL_rgA {t : Tg} {cond : Fw.Env → O Bool} {elt : Fw.Env → O R} {es : Fw.Env} {n : Nat} (p : Nat → Bool) (f : Nat → D)
    (h : ∀ i, i < n → ∃ e1, stTg t (.val (.int (i : Nat))) es = some e1 ∧ cond e1 = .ok (p i) ∧ (p i = true → elt e1 = .ok (.val (f i)))) :
    ∀ (m k : Nat), k + m = n → lcL t cond elt es ((List.range' k m).map fun i => .val (.int (0 + (i : Nat)))) = .ok (((List.range' k m).filter p).map f)
  | 0, k, _ => rfl
  | m + 1, k, hk => by
    obtain ⟨e1, h1, h2, h3⟩ := h k (by omega)
    have ih := lcL_rgA p f h m (k + 1) (by omega)
    rw [List.range'_succ, List.map_cons, lcL, Int.zero_add, h1]
    simp only [h2, noX, O.bind_ok]
    cases hp : p k with
    | true =>
      rw [if_pos rfl, h3 hp]
      simp only [noX, O.bind_ok, R.fz, R.sto, ih]
      simp [hp]
    | false =>
      rw [if_neg (by simp), ih]
      simp [hp]
theorem lcL_rg {t : Tg} {cond : Fw.Env → O Bool} {elt : Fw.Env → O R} {es : Fw.Env} {n : Nat} (p : Nat → Bool) (f : Nat → D)
    (h : ∀ i, i < n → ∃ e1, stTg t (.val (.int (i : Nat))) es = some e1 ∧ cond e1 = .ok (p i) ∧ (p i = true → elt e1 = .ok (.val (f i)))) :
    lcL t cond elt es (rgD 0 n) = .ok (((List.range n).filter p).map f) := by
  have := lcL_rgA p f h n 0 (by omega)
  rwa [← List.range_eq_range'] at this
theorem add_s {s t : List Nat} (h : s.length + t.length ≤ 100000) : dAdd (.val (.str s)) (.val (.str t)) = some (.val (.str (s ++ t))) := if_pos h
theorem add_i (i j : Int) : dAdd (.val (.int i)) (.val (.int j)) = some (.val (.int (i + j))) := rfl
theorem mod_i {i j : Int} (h : 0 < j) : dMod (.val (.int i)) (.val (.int j)) = some (.val (.int (i % j))) := if_pos (decide_eq_true h)
theorem div_i {i j : Int} (h : 0 < j ∧ j < 1073741824) : dDiv (.val (.int i)) (.val (.int j)) = some (.val (.int (i / j))) := if_pos (decide_eq_true h)
theorem len_s {s : List Nat} (h : s.length ≤ 100000) : dLen [.val (.str s)] = some (.val (.int (s.length : Nat))) := by
  show (if s.length ≤ 100000 then some (s.length : Int) else none).map _ = _
  rw [if_pos h]; rfl
theorem sl_take {s : List Nat} {k : Nat} (h : s.length ≤ 100000) : dSl (.val (.str s)) none (some (k : Int)) = some (.val (.str (s.take k))) := by
  show (if s.length ≤ 100000 then some (R.val (D.str (cutL s none (some (k : Int))))) else none) = _
  rw [cut_take]; exact if_pos h
theorem sl_drop {s : List Nat} {k : Nat} (h : s.length ≤ 100000) : dSl (.val (.str s)) (some (k : Int)) none = some (.val (.str (s.drop k))) := by
  show (if s.length ≤ 100000 then some (R.val (D.str (cutL s (some (k : Int)) none))) else none) = _
  rw [cut_drop]; exact if_pos h
theorem sl_drop1 {s : List Nat} {k : Nat} (h : s.length ≤ 100000) : dSl (.val (.str s)) (some ((k : Int) + 1)) none = some (.val (.str (s.drop (k + 1)))) := by
  have e : (k : Int) + 1 = ((k + 1 : Nat) : Int) := by omega
  rw [e]; exact sl_drop h
theorem ix_s {s : List Nat} {i : Int} {c : Nat} (h : s.length ≤ 100000) (e : atI s i = some c) : dIx (.val (.str s)) (.val (.int i)) = some (.val (.str [c])) := by
  show (if s.length ≤ 100000 then (atI s i).map (fun c => R.val (.str [c])) else none) = _
  rw [e]
  exact if_pos h
theorem small {s : List Nat} {n : Nat} (h : s.length = n) (h2 : n ≤ 10) : s.length ≤ 100000 := Nat.le_trans (Nat.le_of_eq h) (Nat.le_trans h2 (by decide))
theorem le100k {n : Nat} (h2 : n ≤ 50) : n ≤ 100000 := Nat.le_trans h2 (by decide)
section
variable {es e2 : Fw.Env} {f fa fb : Fw.Env → O R} {g h : Fw.Env → Out} {d : R → R → Option R} {a b : D} {c : R} {i : Nat} {fr : Fw.Env → O (List R)} {rs : List R} {k : Bool} {tt : Fw.Env → O Bool}
theorem set_v {fz : Bool} (h : f es = .ok (.val a)) : gSet i fz f es = .nx (es.set i (.val a)) := by
  unfold gSet; rw [h]; cases fz <;> rfl
theorem set_n {xs : List D} (h : f es = .ok (.new xs)) : gSet i true f es = .nx (es.set i (.val (.lst xs))) := by
  unfold gSet; rw [h]; rfl
theorem set_own {xs : List D} (h : f es = .ok (.new xs)) : gSet i false f es = .nx (es.set i (.own xs)) := by
  unfold gSet; rw [h]; rfl
theorem seq_n (h1 : g es = .nx e2) : gSeq g h es = h e2 := by unfold gSeq; rw [h1]; rfl
theorem seq_r {r : R} (h1 : g es = .rt r) : gSeq g h es = .rt r := by unfold gSeq; rw [h1]; rfl
theorem if_o (h1 : tt es = .ok k) : gIf tt g h es = if k = true then g es else h es := by unfold gIf; rw [h1]; rfl
theorem if_t (h1 : tt es = .ok true) : gIf tt g h es = g es := by unfold gIf; rw [h1]; rfl
theorem if_f (h1 : tt es = .ok false) : gIf tt g gNext es = .nx es := by unfold gIf; rw [h1]; rfl
theorem bin_o (ha : fa es = .ok (.val a)) (hb : fb es = .ok (.val b)) (hc : d (.val a) (.val b) = some c) : fBin d fa fb es = .ok c := by
  unfold fBin; rw [ha, O.bind_ok, hb, O.bind_ok]
  show O.of (d (.val a) (.val b)) = _
  rw [hc]; rfl
theorem cons_o (ha : fa es = .ok (.val a)) (hr : fr es = .ok rs) : fCons fa fr es = .ok (.val a :: rs) := by
  unfold fCons; rw [ha, O.bind_ok, hr]; rfl
theorem nil_o : fNil es = .ok [] := rfl
theorem call_o {gg : List D → O R} (h1 : fr es = .ok rs) (hg : gg (rs.map R.dat) = .ok (.val a)) : fCall0 gg fr es = .ok (.val a) := by
  unfold fCall0; rw [h1, O.bind_ok, hg]
theorem call_n {gg : List D → O R} {xs : List D} (h1 : fr es = .ok rs) (hg : gg (rs.map R.dat) = .ok (.new xs)) : fCall0 gg fr es = .ok (.new xs) := by
  unfold fCall0; rw [h1, O.bind_ok, hg]
theorem bi_o {dd : List R → Option R} (h1 : fr es = .ok rs) (hg : dd rs = some c) : fBi dd fr es = .ok c := by
  unfold fBi; rw [h1, O.bind_ok, hg]; rfl
theorem test_o (h1 : f es = .ok (.val (.bl k))) : fTest f es = .ok k := by
  unfold fTest; rw [h1]; rfl
theorem ifv_o (h1 : tt es = .ok k) : fIf tt fa fb es = if k = true then fa es else fb es := by unfold fIf; rw [h1]; rfl
theorem ret_v (h1 : f es = .ok (.val a)) : gRet f es = .rt (.val a) := by unfold gRet; rw [h1]; rfl
theorem ret_n {xs : List D} (h1 : f es = .ok (.new xs)) : gRet f es = .rt (.new xs) := by unfold gRet; rw [h1]; rfl
theorem tup2 {x y : D} (ha : fa es = .ok (.val x)) (hb : fb es = .ok (.val y)) : fTup (fCons fa (fCons fb fNil)) es = .ok (.val (.tup [x, y])) := by
  unfold fTup; rw [cons_o ha (cons_o hb nil_o), O.bind_ok]; rfl
theorem slt {s : List Nat} {k : Nat} (ha : fa es = .ok (.val (.str s))) (hb : fb es = .ok (.val (.int k))) (h : s.length ≤ 100000) : fSl fa fNoPart (fPart fb) es = .ok (.val (.str (s.take k))) := by
  unfold fSl fNoPart fPart; rw [ha, O.bind_ok, O.bind_ok, hb, O.bind_ok, O.bind_ok]
  show O.of (dSl (.val (.str s)) none (some (k : Int))) = _
  rw [sl_take h]; rfl
theorem sld {s : List Nat} {k : Nat} (ha : fa es = .ok (.val (.str s))) (hb : fb es = .ok (.val (.int k))) (h : s.length ≤ 100000) : fSl fa (fPart fb) fNoPart es = .ok (.val (.str (s.drop k))) := by
  unfold fSl fNoPart fPart; rw [ha, O.bind_ok, hb, O.bind_ok, O.bind_ok, O.bind_ok]
  show O.of (dSl (.val (.str s)) (some (k : Int)) none) = _
  rw [sl_drop h]; rfl
theorem sld1 {s : List Nat} {k : Nat} (ha : fa es = .ok (.val (.str s))) (hb : fb es = .ok (.val (.int ((k : Int) + 1)))) (h : s.length ≤ 100000) : fSl fa (fPart fb) fNoPart es = .ok (.val (.str (s.drop (k + 1)))) := by
  unfold fSl fNoPart fPart; rw [ha, O.bind_ok, hb, O.bind_ok, O.bind_ok, O.bind_ok]
  show O.of (dSl (.val (.str s)) (some ((k : Int) + 1)) none) = _
  rw [sl_drop1 h]; rfl
theorem fc_o : fC a es = .ok (.val a) := rfl
theorem rg_o {n : Nat} (h : fa es = .ok (.val (.int n))) (hn : n ≤ 1000) : fRg1 (fCons fa fNil) es = .ok (rgD 0 n) := by
  unfold fRg1
  rw [cons_o h nil_o, O.bind_ok]
  show (if -(2 ^ 62) ≤ (n : Int) ∧ (n : Int) < 2 ^ 62 then _ else _) = _
  rw [if_pos (by omega)]; rfl
theorem for_o {src : Fw.Env → O (List R)} {t : Tg} {body : Fw.Env → Out} {xs : List R} (h : src es = .ok xs) : gFor src t body es = forL t body xs es := by unfold gFor; rw [h]; rfl
theorem eq_i (x y : Int) : dEq (.val (.int x)) (.val (.int y)) = some (.val (.bl (x == y))) := by
  simp [dEq, R.dat, shp, deq]
end
theorem join1 : ∀ cs : List Nat, joinS [] (cs.map fun c => [c]) = cs
  | [] => rfl
  | [c] => rfl
  | c :: e :: r => by
    have := join1 (e :: r)
    simp only [List.map_cons] at this ⊢
    rw [joinS, this]; rfl
theorem strs1 : ∀ cs : List Nat, strsOf (cs.map fun c => D.str [c]) = some (cs.map fun c => [c])
  | [] => rfl
  | c :: r => by
    rw [List.map_cons, strsOf, strs1 r]; rfl
theorem sum1 : ∀ cs : List Nat, ((cs.map fun c => [c]).map (·.length)).sum = cs.length
  | [] => rfl
  | c :: r => by
    have := sum1 r
    simp only [List.map_cons, List.sum_cons, List.length_cons, List.length_nil] at this ⊢
    omega
theorem join_eq {cs : List Nat} (h : cs.length ≤ 1000) : dJoin [] (.val (.lst (cs.map fun c => D.str [c]))) = some (.val (.str cs)) := by
  simp only [dJoin, R.dat, itmD, strs1, sum1, join1, List.length_map, List.length_nil, Nat.mul_zero, Nat.add_zero]
  exact if_pos (Nat.le_trans h (by decide))
section
variable {es e2 : Fw.Env} {f fa fb : Fw.Env → O R} {g h : Fw.Env → Out} {a b : D} {c : R} {i : Nat} {fr : Fw.Env → O (List R)} {rs : List R} {k k2 : Bool} {tt t2 : Fw.Env → O Bool}
theorem lc_o {src : Fw.Env → O (List R)} {vs : List Nat} {t : Tg} {cond : Fw.Env → O Bool} {elt : Fw.Env → O R} {n : Nat} {p : Nat → Bool} {f : Nat → D} (hs : src es = .ok (rgD 0 n)) (hn : n ≤ 1000)
    (h : ∀ i, i < n → ∃ e1, stTg t (.val (.int (i : Nat))) (wipeE es vs) = some e1 ∧ cond e1 = .ok (p i) ∧ (p i = true → elt e1 = .ok (.val (f i)))) : fLc src vs t cond elt es = .ok (.new (((List.range n).filter p).map f)) := by
  unfold fLc
  rw [hs, O.bind_ok, if_pos (by simp [rgD]; omega), lcL_rg p f h]; rfl
theorem shl_o {n : Nat} (h : n ≤ 10) : dShl (.val (.int 1)) (.val (.int n)) = some (.val (.int ((2 ^ n : Nat) : Int))) := by
  show (if shlC 1 (n : Int) = true then some (R.val (.int (1 * 2 ^ (n : Int).toNat))) else none) = _
  rw [if_pos (by simp only [shlC, decide_eq_true_eq]; exact ⟨by omega, by omega, by decide⟩), Int.toNat_natCast, Int.one_mul]
  simp
theorem len_o {s : List Nat} (h : fa es = .ok (.val (.str s))) (hl : s.length ≤ 100000) : fBi dLen (fCons fa fNil) es = .ok (.val (.int (s.length : Nat))) := bi_o (cons_o h nil_o) (len_s hl)
theorem or_f (h1 : tt es = .ok false) : fOr tt t2 es = t2 es := by unfold fOr; rw [h1]; rfl
theorem or_t (h1 : tt es = .ok true) : fOr tt t2 es = .ok true := by unfold fOr; rw [h1]; rfl
theorem not_o (h1 : tt es = .ok k) : fNot tt es = .ok (!k) := by unfold fNot; rw [h1]; rfl
theorem andv_t (h1 : fa es = .ok (.val (.bl true))) : fAndV fa fb es = fb es := by unfold fAndV; rw [h1]; rfl
end
theorem pow_le {n : Nat} (h : n ≤ 5) : 2 ^ n ≤ 32 := Nat.pow_le_pow_right (by decide) h
theorem isi_o (x : Bool) : dIsi [.val (.bl x), .val (.ty "bool")] = some (.val (.bl true)) := by
  simp [dIsi, R.dat, tyD, isiB]
theorem ne_b (x : Bool) : dNe (.val (.bl x)) (.val (.bl x)) = some (.val (.bl false)) := by
  cases x <;> rfl
theorem sets_plain (l : List Nat) : (l.map fun n => D.int (n : Nat)).all plainF = true := by
  rw [List.all_eq_true]
  intro d hd
  obtain ⟨n, _, rfl⟩ := List.mem_map.mp hd
  rfl
theorem deqL_ints : ∀ l : List Nat, deqL (l.map fun n => D.int (n : Nat)) (l.map fun n => D.int (n : Nat)) = true
  | [] => rfl
  | x :: l => by
    rw [List.map_cons, deqL, deqL_ints l]
    simp [deq]
theorem shp_s {s : List Nat} (h : Sg s) : shp 60 (.str s) = true := by
  show (s.all fun c => decide (c < 1114112)) = true
  rw [List.all_eq_true]
  intro c hc
  rcases h c hc with rfl | rfl | rfl <;> decide
theorem ne_s {s : List Nat} (h : Sg s) : dNe (.val (.str s)) (.val (.str s)) = some (.val (.bl false)) := by
  show (if shp 60 (.str s) && shp 60 (.str s) then some (R.val (.bl (!(s == s)))) else none) = _
  rw [shp_s h]; simp
theorem put_o {es : Fw.Env} {fs fk fk1 fc : Fw.Env → O R} {s : List Nat} {k c : Nat} (h1 : fs es = .ok (.val (.str s))) (h2 : fk es = .ok (.val (.int k))) (h3 : fk1 es = .ok (.val (.int ((k : Int) + 1)))) (h4 : fc es = .ok (.val (.str [c]))) (hl : s.length ≤ 5) :
    fBin dAdd (fBin dAdd (fSl fs fNoPart (fPart fk)) fc) (fSl fs (fPart fk1) fNoPart) es = .ok (.val (.str (put s k c))) := by
  have g1 : s.length ≤ 100000 := small rfl (by omega)
  exact bin_o (bin_o (slt h1 h2 g1) h4 (add_s (le100k (by simp; omega)))) (sld1 h1 h3 g1) (add_s (le100k (by simp; omega)))
def pb (c : Nat) : Bool := decide (c = 49) || (decide (c = 48) || decide (c = 45))
theorem nis_ty (m n : String) : dNis (.val (.ty m)) (.val (.ty n)) = some (.val (.bl (!decide (m = n)))) := rfl
theorem nrm_brw {x : D} (h : flat x = false) : nrm x = .brw x := by unfold nrm; rw [h]; rfl
theorem ne_i (x y : Int) : dNe (.val (.int x)) (.val (.int y)) = some (.val (.bl (!(x == y)))) := by
  simp [dNe, R.dat, shp, deq]
theorem all_pb {s : List Nat} (h : Sg s) : s.all pb = true := by
  rw [List.all_eq_true]
  intro c hc
  rcases h c hc with rfl | rfl | rfl <;> decide
theorem put_pb {s : List Nat} {k c : Nat} (hc : pb c = false) : (put s k c).all pb = false := by
  simp [put, hc]
theorem gD {s : List Nat} {i : Nat} (hi : i < s.length) : s.getD i 0 = s[i] := by simp [hi]
theorem getD_sg {s : List Nat} (h : Sg s) {i : Nat} (hi : i < s.length) : s.getD i 0 = 48 ∨ s.getD i 0 = 49 ∨ s.getD i 0 = 45 := by
  have e : s.getD i 0 = s[i] := by simp [hi]
  rw [e]; exact h _ (List.getElem_mem hi)
theorem at_o {s : List Nat} {i : Nat} (hi : i < s.length) : atI s (i : Int) = some (s.getD i 0) := by
  rw [atI_nat]; simp [hi]
theorem ne_one {a b : Nat} (ha : a = 48 ∨ a = 49 ∨ a = 45) (hb : b = 48 ∨ b = 49 ∨ b = 45) : dNe (.val (.str [a])) (.val (.str [b])) = some (.val (.bl (!([a] == [b])))) := by
  rcases ha with rfl | rfl | rfl <;> rcases hb with rfl | rfl | rfl <;> rfl
theorem eq_one {a b : Nat} (ha : a = 48 ∨ a = 49 ∨ a = 45) (hb : b = 48 ∨ b = 49 ∨ b = 45) : dEq (.val (.str [a])) (.val (.str [b])) = some (.val (.bl ([a] == [b]))) := by
  rcases ha with rfl | rfl | rfl <;> rcases hb with rfl | rfl | rfl <;> rfl
theorem len_l {es : Fw.Env} {fa : Fw.Env → O R} {xs : List D} (h : fa es = .ok (.val (.lst xs))) : fBi dLen (fCons fa fNil) es = .ok (.val (.int (xs.length : Nat))) := bi_o (cons_o h nil_o) rfl
theorem ix_l {es : Fw.Env} {fa fb : Fw.Env → O R} {u : Nat} {r : List D} (h : fa es = .ok (.val (.lst (.int u :: r)))) (h2 : fb es = .ok (.val (.int 0))) : fBin dIx fa fb es = .ok (.val (.int u)) := bin_o h h2 (by
  show (atI (D.int (u : Nat) :: r) ((0 : Nat) : Int)).map R.val = _
  rw [atI_nat]; rfl)
theorem bin_g {es : Fw.Env} {fa fb : Fw.Env → O R} {d : R → R → Option R} {ra rb c : R} (ha : fa es = .ok ra) (hb : fb es = .ok rb) (hc : d ra.fz rb.fz = some c) : fBin d fa fb es = .ok c := by
  unfold fBin; rw [ha, O.bind_ok, hb, O.bind_ok, hc]; rfl
theorem lst2 {es : Fw.Env} {fa fb : Fw.Env → O R} {x y : D} (ha : fa es = .ok (.val x)) (hb : fb es = .ok (.val y)) : fLst (fCons fa (fCons fb fNil)) es = .ok (.new [x, y]) := by
  unfold fLst; rw [cons_o ha (cons_o hb nil_o), O.bind_ok]; rfl
theorem cons_n {es : Fw.Env} {fa : Fw.Env → O R} {fr : Fw.Env → O (List R)} {xs : List D} {rs : List R} (ha : fa es = .ok (.new xs)) (hr : fr es = .ok rs) : fCons fa fr es = .ok (.val (.lst xs) :: rs) := by
  unfold fCons; rw [ha, O.bind_ok, hr]; rfl
theorem lst_o {es : Fw.Env} {fr : Fw.Env → O (List R)} {rs : List R} {ds : List D} (h : fr es = .ok rs) (h2 : stoL rs = some ds) (h3 : ds.length ≤ 50) : fLst fr es = .ok (.new ds) := by
  unfold fLst; rw [h, O.bind_ok, h2]
  exact if_pos (le100k h3)
theorem tup1 {es : Fw.Env} {fa : Fw.Env → O R} {x : D} (h : fa es = .ok (.val x)) : fTup (fCons fa fNil) es = .ok (.val (.tup [x])) := by
  unfold fTup; rw [cons_o h nil_o, O.bind_ok]; rfl
theorem isb_t : dIs (.val (.bl true)) (.val (.bl true)) = some (.val (.bl true)) := rfl
theorem isb_f : dIs (.val (.bl false)) (.val (.bl false)) = some (.val (.bl true)) := rfl
theorem put_sg45 {s : List Nat} {k : Nat} (h : Sg s) : Sg (put s k 45) := put_sg h (by simp)
theorem forL_en {t : Tg} {body : Fw.Env → Out} (I : Fw.Env → Prop) (hb : ∀ (k : Nat) (c : Int) (es : Fw.Env), I es → ∃ e1, stTg t (.val (.tup [.int (k : Int), .int c])) es = some e1 ∧ ∃ e2, body e1 = .nx e2 ∧ I e2) :
    ∀ (cs : List Int) (k : Nat) (es : Fw.Env), I es → ∃ e2, forL t body (enD k (cs.map D.int)) es = .nx e2 ∧ I e2
  | [], k, es, h => ⟨es, rfl, h⟩
  | c :: cs, k, es, h => by
    obtain ⟨e1, h1, e2, h2, h3⟩ := hb k c es h
    obtain ⟨e3, h4, h5⟩ := forL_en I hb cs (k + 1) e2 h3
    refine ⟨e3, ?_, h5⟩
    show forL t body (.val (.tup [.int (k : Int), .int c]) :: enD (k + 1) (cs.map D.int)) es = _
    rw [forL, h1]
    simp only [h2]
    exact h4
theorem asg_v {es e2 : Fw.Env} {f : Fw.Env → O R} {t : Tg} {d : D} (h : f es = .ok (.val d)) (h2 : stTg t (.val d) es = some e2) : gAsg t f es = .nx e2 := by
  unfold gAsg; rw [h]
  show (match stTg t (R.fz (.val d)) es with | some es' => Out.nx es' | none => .no) = _
  show (match stTg t (.val d) es with | some es' => Out.nx es' | none => .no) = _
  rw [h2]
theorem flat_ints (ns : List Int) : (ns.map D.int).all flat = true := by
  rw [List.all_eq_true]
  intro d hd
  obtain ⟨n, _, rfl⟩ := List.mem_map.mp hd
  rfl
end Fw
namespace K01.N
open PySem PySem.Spec PyProof.Rows L2 Fw
def topS (i : Nat) : Stmt := PySem.Challenge.pw_fewterms_k01_terms.main.body.getD i (.Pass ⟨0, 0, 0, 0⟩)
abbrev s_law_joined : Stmt := topS 22
abbrev N_law_joined : List Str := ["_law_one", "_law_other", "_law_unlike", "_law_lamp"]
abbrev P_law_joined : List Str := ["_law_one", "_law_other"]
theorem sc_law_joined : FnScope N_law_joined P_law_joined (defScope s_law_joined) := ⟨rfl, rfl, rfl, by decide +kernel, rfl, by decide +kernel, by decide +kernel⟩
abbrev s_law_spread : Stmt := topS 18
abbrev N_law_spread : List Str := ["_law_cell", "_law_k"]
abbrev P_law_spread : List Str := ["_law_cell", "_law_k"]
theorem sc_law_spread : FnScope N_law_spread P_law_spread (defScope s_law_spread) := ⟨rfl, rfl, rfl, by decide +kernel, rfl, by decide +kernel, by decide +kernel⟩
abbrev s_law_bent : Stmt := topS 20
abbrev N_law_bent : List Str := ["_law_term", "_law_draw_here", "_law_turn", "_law_more", "_law_at"]
abbrev P_law_bent : List Str := ["_law_term", "_law_draw_here"]
theorem sc_law_bent : FnScope N_law_bent P_law_bent (defScope s_law_bent) := ⟨rfl, rfl, rfl, by decide +kernel, rfl, by decide +kernel, by decide +kernel⟩
abbrev s_law_pair : Stmt := topS 21
abbrev N_law_pair : List Str := ["_law_cell", "_law_k", "_law_draw_here", "_law_left", "_law_many", "_law_term", "_law_signs", "_law_place", "_law_lamp"]
abbrev P_law_pair : List Str := ["_law_cell", "_law_k"]
theorem sc_law_pair : FnScope N_law_pair P_law_pair (defScope s_law_pair) := ⟨rfl, rfl, rfl, by decide +kernel, rfl, by decide +kernel, by decide +kernel⟩
abbrev s_law_agrees : Stmt := topS 19
abbrev N_law_agrees : List Str := ["_law_term", "_law_one", "_law_lamp", "_law_sign"]
abbrev P_law_agrees : List Str := ["_law_term", "_law_one"]
theorem sc_law_agrees : FnScope N_law_agrees P_law_agrees (defScope s_law_agrees) := ⟨rfl, rfl, rfl, by decide +kernel, rfl, by decide +kernel, by decide +kernel⟩
abbrev s_law_odd : Stmt := topS 23
abbrev N_law_odd : List Str := ["_law_term", "_law_draw_here", "_law_at", "_law_some"]
abbrev P_law_odd : List Str := ["_law_term", "_law_draw_here"]
theorem sc_law_odd : FnScope N_law_odd P_law_odd (defScope s_law_odd) := ⟨rfl, rfl, rfl, by decide +kernel, rfl, by decide +kernel, by decide +kernel⟩
abbrev s_freed : Stmt := topS 14
abbrev N_freed : List Str := ["term", "lamp"]
abbrev P_freed : List Str := ["term", "lamp"]
theorem sc_freed : FnScope N_freed P_freed (defScope s_freed) := ⟨rfl, rfl, rfl, by decide +kernel, rfl, by decide +kernel, by decide +kernel⟩
abbrev s_is_lit : Stmt := topS 1
abbrev N_is_lit : List Str := ["setting", "lamp"]
abbrev P_is_lit : List Str := ["setting", "lamp"]
theorem sc_is_lit : FnScope N_is_lit P_is_lit (defScope s_is_lit) := ⟨rfl, rfl, rfl, by decide +kernel, rfl, by decide +kernel, by decide +kernel⟩
abbrev s_sign_at : Stmt := topS 10
abbrev N_sign_at : List Str := ["setting", "lamp"]
abbrev P_sign_at : List Str := ["setting", "lamp"]
theorem sc_sign_at : FnScope N_sign_at P_sign_at (defScope s_sign_at) := ⟨rfl, rfl, rfl, by decide +kernel, rfl, by decide +kernel, by decide +kernel⟩
abbrev s_has : Stmt := topS 11
abbrev N_has : List Str := ["term", "setting", "lamp", "sign"]
abbrev P_has : List Str := ["term", "setting"]
theorem sc_has : FnScope N_has P_has (defScope s_has) := ⟨rfl, rfl, rfl, by decide +kernel, rfl, by decide +kernel, by decide +kernel⟩
abbrev s_is_term : Stmt := topS 9
abbrev N_is_term : List Str := ["thing", "many"]
abbrev P_is_term : List Str := ["thing", "many"]
theorem sc_is_term : FnScope N_is_term P_is_term (defScope s_is_term) := ⟨rfl, rfl, rfl, by decide +kernel, rfl, by decide +kernel, by decide +kernel⟩
abbrev s_mask_had : Stmt := topS 12
abbrev N_mask_had : List Str := ["term", "mask", "lamp", "sign", "lit"]
abbrev P_mask_had : List Str := ["term"]
theorem sc_mask_had : FnScope N_mask_had P_mask_had (defScope s_mask_had) := ⟨rfl, rfl, rfl, by decide +kernel, rfl, by decide +kernel, by decide +kernel⟩
abbrev s_settings_in : Stmt := topS 3
abbrev N_settings_in : List Str := ["mask", "setting"]
abbrev P_settings_in : List Str := ["mask"]
theorem sc_settings_in : FnScope N_settings_in P_settings_in (defScope s_settings_in) := ⟨rfl, rfl, rfl, by decide +kernel, rfl, by decide +kernel, by decide +kernel⟩
abbrev s_settings_of : Stmt := topS 13
abbrev N_settings_of : List Str := ["term"]
abbrev P_settings_of : List Str := ["term"]
theorem sc_settings_of : FnScope N_settings_of P_settings_of (defScope s_settings_of) := ⟨rfl, rfl, rfl, by decide +kernel, rfl, by decide +kernel, by decide +kernel⟩
abbrev s_law_term_right : Stmt := topS 24
abbrev N_law_term_right : List Str := ["_law_term", "_law_draw_here", "_law_one", "_law_settings", "_law_found", "_law_turn", "_law_lamp"]
abbrev P_law_term_right : List Str := ["_law_term", "_law_draw_here"]
theorem sc_law_term_right : FnScope N_law_term_right P_law_term_right (defScope s_law_term_right) := ⟨rfl, rfl, rfl, by decide +kernel, rfl, by decide +kernel, by decide +kernel⟩
abbrev s_laid : Stmt := topS 15
abbrev N_laid : List Str := ["one", "other", "unlike", "at", "lamp"]
abbrev P_laid : List Str := ["one", "other"]
theorem sc_laid : FnScope N_laid P_laid (defScope s_laid) := ⟨rfl, rfl, rfl, by decide +kernel, rfl, by decide +kernel, by decide +kernel⟩
abbrev s_law : Stmt := topS 25
abbrev N_law : List Str := ["_law_script", "_law_k", "_law_cell", "_law_draw_here", "_law_term", "_law_other", "_law_due"]
abbrev P_law : List Str := ["_law_script"]
theorem sc_law : FnScope N_law P_law (defScope s_law) := ⟨rfl, rfl, rfl, by decide +kernel, rfl, by decide +kernel, by decide +kernel⟩
end K01.N
namespace K01
open PySem PySem.Spec PyProof.Rows L2 Fw
/- slots: 0 _law_one, 1 _law_other, 2 _law_unlike, 3 _law_lamp -/
def b_law_joined : Fw.Env → Out := (gSeq (gSet 2 true (fLc (fRg1 (fCons (fBi dLen (fCons (fVar 0) fNil)) fNil)) [3] (.nm 3) (fTest (fBin dNe (fBin dIx (fVar 0) (fVar 3)) (fBin dIx (fVar 1) (fVar 3)))) (fVar 3)))
    (gSeq (gIf (fOr (fTest (fBin dNe (fBi dLen (fCons (fVar 2) fNil)) (fC (.int 1)))) (fTest (fBin dNe (fBi dSortedL (fCons (fLst (fCons (fBin dIx (fVar 0) (fBin dIx (fVar 2) (fC (.int 0)))) (fCons (fBin dIx (fVar 1) (fBin dIx (fVar 2) (fC (.int 0)))) fNil))) fNil)) (fLst (fCons (fC (.str [48])) (fCons (fC (.str [49])) fNil)))))) (gRet (fC .non)) gNext)
    (gRet (fBin dAdd (fBin dAdd (fSl (fVar 0) fNoPart (fPart (fBin dIx (fVar 2) (fC (.int 0))))) (fC (.str [45]))) (fSl (fVar 0) (fPart (fBin dAdd (fBin dIx (fVar 2) (fC (.int 0))) (fC (.int 1)))) fNoPart)))))
def g_law_joined : List D → O R := run0 4 (b_law_joined)
/- slots: 0 _law_cell, 1 _law_k -/
def b_law_spread : Fw.Env → Out := (gRet (fBin dMod (fBin dMulA (fBin dAdd (fVar 0) (fC (.int 3))) (fBin dAdd (fBin dAdd (fC (.int 48271)) (fBin dMulA (fBin dMulA (fC (.int 2)) (fVar 1)) (fVar 1))) (fVar 1))) (fC (.int 2147483647))))
def g_law_spread : List D → O R := run0 2 (b_law_spread)
/- slots: 0 _law_term, 1 _law_draw_here, 2 _law_turn, 3 _law_more, 4 _law_at -/
def b_law_bent : Fw.Env → Out := (gSeq (gFor (fRg1 (fCons (fBin dMod (fVar 1) (fC (.int 3))) fNil)) (.nm 2) (gSeq (gSet 3 true (fCall0 (g_law_spread) (fCons (fVar 1) (fCons (fVar 2) fNil))))
    (gSeq (gSet 4 true (fBin dMod (fVar 3) (fBi dLen (fCons (fVar 0) fNil))))
    (gSet 0 true (fBin dAdd (fBin dAdd (fSl (fVar 0) fNoPart (fPart (fVar 4))) (fBin dIx (fC (.str [48, 49, 45])) (fBin dMod (fBin dDiv (fVar 3) (fC (.int 7))) (fC (.int 3))))) (fSl (fVar 0) (fPart (fBin dAdd (fVar 4) (fC (.int 1)))) fNoPart))))))
    (gRetV 0))
def g_law_bent : List D → O R := run0 5 (b_law_bent)
/- slots: 0 _law_cell, 1 _law_k, 2 _law_draw_here, 3 _law_left, 4 _law_many, 5 _law_term, 6 _law_signs, 7 _law_place, 8 _law_lamp -/
def b_law_pair : Fw.Env → Out := (gSeq (gSet 2 true (fCall0 (g_law_spread) (fCons (fVar 0) (fCons (fVar 1) fNil))))
    (gSeq (gSet 3 true (fIf (fTest (fBin dEq (fBin dMod (fVar 0) (fC (.int 2))) (fC (.int 1)))) (fBin dDiv (fVar 0) (fC (.int 2))) (fVar 2)))
    (gSeq (gSet 4 true (fBin dAdd (fC (.int 1)) (fBin dMod (fVar 3) (fC (.int 5)))))
    (gSeq (gIf (fTest (fBin dEq (fBin dMod (fVar 0) (fC (.int 2))) (fC (.int 0)))) (gSeq (gSet 5 true (fM1 dJoin (fC (.str [])) (fLc (fRg1 (fCons (fVar 4) fNil)) [8] (.nm 8) fYes (fBin dIx (fC (.str [48, 49, 45])) (fBin dMod (fBin dDiv (fCall0 (g_law_spread) (fCons (fVar 2) (fCons (fVar 8) fNil))) (fC (.int 9))) (fC (.int 3)))))))
    (gRet (fTup (fCons (fVar 5) (fCons (fCall0 (g_law_bent) (fCons (fVar 5) (fCons (fBin dDiv (fVar 2) (fC (.int 11))) fNil))) fNil))))) gNext)
    (gSeq (gSet 3 true (fBin dDiv (fVar 3) (fC (.int 5))))
    (gSeq (gSet 6 true (fC (.str [])))
    (gSeq (gFor (fRg1 (fCons (fBin dMulA (fC (.int 2)) (fVar 4)) fNil)) (.nm 7) (gSeq (gSet 6 true (fBin dAdd (fVar 6) (fBin dIx (fC (.str [48, 49, 45])) (fBin dMod (fVar 3) (fC (.int 3))))))
    (gSet 3 true (fBin dDiv (fVar 3) (fC (.int 3))))))
    (gRet (fTup (fCons (fSl (fVar 6) fNoPart (fPart (fVar 4))) (fCons (fSl (fVar 6) (fPart (fVar 4)) fNoPart) fNil)))))))))))
def g_law_pair : List D → O R := run0 9 (b_law_pair)
/- slots: 0 _law_term, 1 _law_one, 2 _law_lamp, 3 _law_sign -/
def b_law_agrees : Fw.Env → Out := (gSeq (gFor (fEnum true (fCons (fVar 0) fNil)) (.tp [2, 3]) (gIf (fAnd (fTest (fBin dNe (fVar 3) (fC (.str [45])))) (fTest (fBin dNe (fBi dInt (fCons (fVar 3) fNil)) (fBin dAnd (fBin dShr (fVar 1) (fVar 2)) (fC (.int 1)))))) (gRet (fC (.bl false))) gNext))
    (gRet (fC (.bl true))))
def g_law_agrees : List D → O R := run0 4 (b_law_agrees)
/- slots: 0 _law_term, 1 _law_draw_here, 2 _law_at, 3 _law_some -/
def b_law_odd : Fw.Env → Out := (gSeq (gSet 2 true (fBin dMod (fVar 1) (fBi dLen (fCons (fVar 0) fNil))))
    (gSeq (gSet 3 true (fLst (fCons (fBin dAdd (fVar 0) (fC (.str [48]))) (fCons (fSl (fVar 0) (fPart (fC (.int 1))) fNoPart) (fCons (fBin dAdd (fBin dAdd (fSl (fVar 0) fNoPart (fPart (fVar 2))) (fC (.str [50]))) (fSl (fVar 0) (fPart (fBin dAdd (fVar 2) (fC (.int 1)))) fNoPart)) (fCons (fBin dAdd (fBin dAdd (fSl (fVar 0) fNoPart (fPart (fVar 2))) (fC (.str [32]))) (fSl (fVar 0) (fPart (fBin dAdd (fVar 2) (fC (.int 1)))) fNoPart)) (fCons (fC .non) (fCons (fC (.int 0)) (fCons (fLst (fCons (fVar 0) fNil)) fNil)))))))))
    (gRet (fBin dIx (fBin dAdd (fVar 3) (fLst (fCons (fBi dList (fCons (fVar 0) fNil)) (fCons (fC (.bl true)) (fCons (fBin dAdd (fVar 0) (fC (.str [10]))) (fCons (fC (.str [])) (fCons (fTup (fCons (fVar 0) fNil)) (fCons (fBin dAdd (fBin dAdd (fSl (fVar 0) fNoPart (fPart (fVar 2))) (fC (.str [111]))) (fSl (fVar 0) (fPart (fBin dAdd (fVar 2) (fC (.int 1)))) fNoPart)) fNil)))))))) (fBin dMod (fBin dDiv (fVar 1) (fC (.int 5))) (fC (.int 13)))))))
def g_law_odd : List D → O R := run0 4 (b_law_odd)
/- slots: 0 term, 1 lamp -/
def b_freed : Fw.Env → Out := (gRet (fBin dAdd (fBin dAdd (fSl (fVar 0) fNoPart (fPart (fVar 1))) (fC (.str [45]))) (fSl (fVar 0) (fPart (fBin dAdd (fVar 1) (fC (.int 1)))) fNoPart)))
def g_freed : List D → O R := run0 2 (b_freed)
/- slots: 0 setting, 1 lamp -/
def b_is_lit : Fw.Env → Out := (gRet (fBin dEq (fBin dAnd (fBin dShr (fVar 0) (fVar 1)) (fC (.int 1))) (fC (.int 1))))
def g_is_lit : List D → O R := run0 2 (b_is_lit)
/- slots: 0 setting, 1 lamp -/
def b_sign_at : Fw.Env → Out := (gRet (fIf (fTest (fCall0 (g_is_lit) (fCons (fVar 0) (fCons (fVar 1) fNil)))) (fC (.str [49])) (fC (.str [48]))))
def g_sign_at : List D → O R := run0 2 (b_sign_at)
/- slots: 0 term, 1 setting, 2 lamp, 3 sign -/
def b_has : Fw.Env → Out := (gSeq (gFor (fEnum true (fCons (fVar 0) fNil)) (.tp [2, 3]) (gIf (fAnd (fTest (fBin dNe (fVar 3) (fC (.str [45])))) (fTest (fBin dNe (fVar 3) (fCall0 (g_sign_at) (fCons (fVar 1) (fCons (fVar 2) fNil)))))) (gRet (fC (.bl false))) gNext))
    (gRet (fC (.bl true))))
def g_has : List D → O R := run0 4 (b_has)
/- slots: 0 thing, 1 many -/
def b_is_term : Fw.Env → Out := (gSeq (gIf (fOr (fTest (fBin dNis (fBi dType (fCons (fVar 0) fNil)) (fC (.ty "str")))) (fTest (fBin dNe (fBi dLen (fCons (fVar 0) fNil)) (fVar 1)))) (gRet (fC (.bl false))) gNext)
    (gRet (fAllG (inT [45, 48, 49]) (fVar 0))))
def g_is_term : List D → O R := run0 2 (b_is_term)
/- slots: 0 many -/
def b_all_settings : Fw.Env → Out := (gRet (fLRg1 (fBin dShl (fC (.int 1)) (fVar 0))))
def g_all_settings : List D → O R := run0 1 (b_all_settings)
/- slots: 0 term, 1 setting -/
def b_settings_of : Fw.Env → Out := (gRet (fLc (fIt false (fCall0 (g_all_settings) (fCons (fBi dLen (fCons (fVar 0) fNil)) fNil))) [1] (.nm 1) (fTest (fCall0 (g_has) (fCons (fVar 0) (fCons (fVar 1) fNil)))) (fVar 1)))
def g_settings_of : List D → O R := run0 2 (b_settings_of)
/- slots: 0 _law_term, 1 _law_draw_here, 2 _law_one, 3 _law_settings, 4 _law_found, 5 _law_turn, 6 _law_lamp -/
def b_law_term_right : Fw.Env → Out := (gSeq (gSet 3 true (fLc (fRg1 (fCons (fBin dShl (fC (.int 1)) (fBi dLen (fCons (fVar 0) fNil))) fNil)) [2] (.nm 2) (fTest (fCall0 (g_law_agrees) (fCons (fVar 0) (fCons (fVar 2) fNil)))) (fVar 2)))
    (gSeq (gFor (fRg1 (fCons (fBin dShl (fC (.int 1)) (fBi dLen (fCons (fVar 0) fNil))) fNil)) (.nm 2) (gSeq (gSet 4 false (fCall0 (g_has) (fCons (fVar 0) (fCons (fVar 2) fNil))))
    (gIf (fOr (fNot (fTest (fBi dIsi (fCons (fVar 4) (fCons (fC (.ty "bool")) fNil))))) (fTest (fBin dNe (fVar 4) (fBin dIn (fVar 2) (fVar 3))))) (gRet (fC (.bl false))) gNext)))
    (gSeq (gFor (fRg1 (fCons (fC (.int 2)) fNil)) (.nm 5) (gSeq (gSet 4 false (fCall0 (g_settings_of) (fCons (fVar 0) fNil)))
    (gSeq (gIf (fTest (fBin dNe (fVar 4) (fVar 3))) (gRet (fC (.bl false))) gNext)
    (gApp 4 (fC .non)))))
    (gSeq (gFor (fRg1 (fCons (fBi dLen (fCons (fVar 0) fNil)) fNil)) (.nm 6) (gIf (fTest (fBin dNe (fCall0 (g_freed) (fCons (fVar 0) (fCons (fVar 6) fNil))) (fBin dAdd (fBin dAdd (fSl (fVar 0) fNoPart (fPart (fVar 6))) (fC (.str [45]))) (fSl (fVar 0) (fPart (fBin dAdd (fVar 6) (fC (.int 1)))) fNoPart)))) (gRet (fC (.bl false))) gNext))
    (gRet (fAndV (fBin dIs (fCall0 (g_is_term) (fCons (fVar 0) (fCons (fBi dLen (fCons (fVar 0) fNil)) fNil))) (fC (.bl true))) (fBin dIs (fCall0 (g_is_term) (fCons (fCall0 (g_law_odd) (fCons (fVar 0) (fCons (fVar 1) fNil))) (fCons (fBi dLen (fCons (fVar 0) fNil)) fNil))) (fC (.bl false)))))))))
def g_law_term_right : List D → O R := run0 7 (b_law_term_right)
/- slots: 0 one, 1 other, 2 unlike, 3 at, 4 lamp -/
def b_laid : Fw.Env → Out := (gSeq (gIf (fTest (fBin dNe (fBi dLen (fCons (fVar 0) fNil)) (fBi dLen (fCons (fVar 1) fNil)))) (gRet (fC .non)) gNext)
    (gSeq (gSet 2 true (fLc (fRg1 (fCons (fBi dLen (fCons (fVar 0) fNil)) fNil)) [4] (.nm 4) (fTest (fBin dNe (fBin dIx (fVar 0) (fVar 4)) (fBin dIx (fVar 1) (fVar 4)))) (fVar 4)))
    (gSeq (gIf (fTest (fBin dNe (fBi dLen (fCons (fVar 2) fNil)) (fC (.int 1)))) (gRet (fC .non)) gNext)
    (gSeq (gSet 3 true (fBin dIx (fVar 2) (fC (.int 0))))
    (gSeq (gIf (fOr (fTest (fBin dEq (fBin dIx (fVar 0) (fVar 3)) (fC (.str [45])))) (fTest (fBin dEq (fBin dIx (fVar 1) (fVar 3)) (fC (.str [45]))))) (gRet (fC .non)) gNext)
    (gRet (fCall0 (g_freed) (fCons (fVar 0) (fCons (fVar 3) fNil)))))))))
def g_laid : List D → O R := run0 5 (b_laid)
/- slots: 0 _law_script, 1 _law_k, 2 _law_cell, 3 _law_draw_here, 4 _law_term, 5 _law_other, 6 _law_due -/
def b_law : Fw.Env → Out := (gSeq (gFor (fEnum true (fCons (fBin dAdd (fVar 0) (fLst (fCons (fC (.int 0)) fNil))) fNil)) (.tp [1, 2]) (gSeq (gSet 3 true (fCall0 (g_law_spread) (fCons (fVar 2) (fCons (fBin dMod (fVar 1) (fC (.int 60))) fNil))))
    (gSeq (gAsg (.tp [4, 5]) (fCall0 (g_law_pair) (fCons (fVar 2) (fCons (fBin dMod (fVar 1) (fC (.int 60))) fNil))))
    (gSeq (gIf (fOr (fNot (fTest (fCall0 (g_law_term_right) (fCons (fVar 4) (fCons (fBin dDiv (fVar 3) (fC (.int 7))) fNil))))) (fNot (fTest (fCall0 (g_law_term_right) (fCons (fVar 5) (fCons (fBin dDiv (fVar 3) (fC (.int 13))) fNil)))))) (gRet (fC (.bl false))) gNext)
    (gSeq (gSet 6 true (fCall0 (g_law_joined) (fCons (fVar 4) (fCons (fVar 5) fNil))))
    (gIf (fOr (fTest (fBin dNe (fCall0 (g_laid) (fCons (fVar 4) (fCons (fVar 5) fNil))) (fVar 6))) (fTest (fBin dNe (fCall0 (g_laid) (fCons (fVar 5) (fCons (fVar 4) fNil))) (fVar 6)))) (gRet (fC (.bl false))) gNext))))))
    (gRet (fC (.bl true))))
def g_law : List D → O R := run0 7 (b_law)
end K01
namespace Fw
open PySem PySem.Spec PyProof.Rows L2
/-! ### sorted of a tuple of ints -/
section
variable {pr : Program} {wo : World} {Ar : Around} {Ex : Value → Shared → Prop} {sh : Shared}
/-- the heap behind the copy -/
def copyH (g : Heap) (us : List Value) : Heap := (g.push (seqObj "list" #[] 0)).update g.objs.size (Obj.mapSeq (· ++ us.toArray))
theorem coll_tup {tp : Addr} {us : List Value} {R : List Value → Shared → Prop} (ht : IsTup sh.heap tp us.toArray) (hz : us.length ≤ sizeLine) (hR : R us { sh with heap := copyH sh.heap us }) :
    wpAny (model pr wo) Ar (collect (.ref tp)) R Ex sh := by
  obtain ⟨ob, e1, e2, k, e3⟩ := ht
  have e1' : (sh.heap.push (seqObj "list" #[] 0)).get? tp = some ob := Heap.get?_push_of_some _ e1
  have enw : (sh.heap.push (seqObj "list" #[] 0)).get? sh.heap.objs.size = some (seqObj "list" #[] 0) := Heap.get?_push_size _ rfl
  unfold collect
  refine wpAny_bind (wpAny_runValue (codeAny_builtin entry_proto_collect' ?_)); show wpAny _ _ (newList [] >>= fun nl => again (.builtin "list.__iadd__" ⟨[nl, .ref tp], []⟩)) _ _ sh
  refine wpAny_bind (wpAny_newList (wpAny_pure ⟨Code.quiet_builtin _ (by decide +kernel), codeAny_builtin entry_list_iadd' ?_⟩)); show wpAny _ _ (Builtin.List.listExtendWith (.ref sh.heap.objs.size) (.ref tp) (.ref sh.heap.objs.size)) _ _ { sh with heap := sh.heap.push (seqObj "list" #[] 0) }
  unfold Builtin.List.listExtendWith
  refine wpAny_bind (wpAny_typeOf (T := "tuple") ⟨ob, e1', e2⟩ ?_)
  rw [if_pos (by simp)]
  refine wpAny_bind (listItems_at e1' e3 (wpAny_bind (listItems_at enw rfl ?_)))
  rw [if_neg (by simp)]
  refine wpAny_bind (listUpdate_at enw rfl (wpAny_pure ?_) (Nat.zero_le _) (by show (#[] ++ us.toArray).size ≤ sizeLine + 1; simp; omega))
  show wpAny (model pr wo) Ar (load sh.heap.objs.size >>= fun o => match o.data with
    | .seq xs _ => pure xs.toList
    | _ => unsupported "internal:collect") R Ex { sh with heap := copyH sh.heap us }
  refine wpAny_bind (wpAny_load (get?_update_seq enw _) ?_)
  have ee : ((#[] : Array Value) ++ us.toArray).toList = us := by simp
  show wpAny _ _ (pure ((#[] : Array Value) ++ us.toArray).toList) R Ex _
  rw [ee]; exact wpAny_pure hR
theorem srt_tup {tp : Addr} {us : List Value} {ns : List Int} {R : Value → Shared → Prop} (ht : IsTup sh.heap tp us.toArray) (hI : IntsAre us ns) (hz : us.length < 64)
    (hR : ∀ (out : Array Value) (ns' : List Int), IntsAre out.toList ns' → ns'.Perm ns → ns'.Pairwise (· ≤ ·) → R (.ref (sh.heap.objs.size + 1)) { sh with heap := sortedAll sh.heap us out }) :
    wpAny (model pr wo) Ar (call (.builtin "sorted") [.ref tp]) R Ex sh := by
  have zz : us.length ≤ sizeLine := by rw [sizeLine_eq]; omega
  refine Calls.call_function_entry kind_sorted plain_sorted entry_sorted (args_sorted1 _) ?_
  unfold Builtin.«sorted»
  refine wpAny_bind (m := checkCount "sorted" 1 1 _) (wpAny_pure (wpAny_bind (coll_tup ht zz (wpAny_bind (wpAny_newList ?_)))))
  have sz : (copyH sh.heap us).objs.size = sh.heap.objs.size + 1 := by unfold copyH; rw [Heap.size_update, size_push']
  have at1 : ((copyH sh.heap us).push (seqObj "list" us.toArray 0)).get? (sh.heap.objs.size + 1) = some (seqObj "list" us.toArray 0) := by rw [← sz]; exact Heap.get?_push_size _ rfl
  show wpAny _ _ _ _ _ { sh with heap := (copyH sh.heap us).push (seqObj "list" us.toArray 0) }
  rw [sz]
  refine wpAny_bind (wpAny_holding (wpAny_call_entry slot_list_sort ⟨_, at1, rfl⟩ entry_list_sort (list_sort_tree at1 hI hz fun out ns' b1 b2 b3 => ⟨_, rfl, wpAny_pure ⟨_, rfl, hR out ns' b1 b2 b3⟩⟩) (args_list_sort _)))
end
def rSrtT (K : PySem.W.Frag) : List V → Hp → VK → Prop := fun vs H Q => ∃ (t : Addr) (l : List Int), vs = [V.ref t] ∧ SqT K H t (l.map V.int) ∧ l.length < 64 ∧ ∀ (l' : List Int) (p : Addr), l'.Perm l → l'.Pairwise (· ≤ ·) → H p = none → Q (.ref p) (upd H p (.lst (l'.map V.int)))
theorem cr_srtT {X : Cx} : CallR X (.builtin "sorted") (rSrtT X.K) := by
  intro pins s σ H vs us Q I r h
  obtain ⟨t, l, rfl, hs, hz, q⟩ := h
  obtain ⟨its, rv, ht, _⟩ := I.tuple hs
  have hi := rv.ints
  rw [Vals.ref1 r]
  refine srt_tup ht hi (by rw [hi.length]; exact hz) fun out l' b1 b2 b3 => ?_
  obtain ⟨ep, he⟩ := sortedAll_at s.heap its out
  have hl : (l'.map V.int).length ≤ sizeLine := by rw [List.length_map, b2.length_eq]; exact small64 hz
  refine ⟨.ref _, upd H (s.heap.objs.size + 1) (.lst (l'.map V.int)), ?_, rfl, q l' _ b2 b3 (I.hok.fresh (Nat.le_succ _))⟩
  exact I.laid (t' := s.toks) (fun _ _ => sortedAll_old) (Nat.le_succ _) ⟨hl, out.toList, ep, vals_of_ints b1, he⟩
def tupOf : D → Option (List D)
  | .tup xs => some xs
  | _ => none
def dSrtT : List R → Option R
  | [r] => match tupOf r.dat with
    | some xs => match intsOf xs with
      | some ns => if ns.length < 64 then some (.new ((sortI ns).map .int)) else none
      | none => none
    | none => none
  | _ => none
theorem cd_srtT {K : PySem.W.Frag} {T : Tb} : CallD K T (rSrtT K) dSrtT := fun H0 F H vs rs c Q ok up q h k => by
  unfold dSrtT at h
  split at h
  · rename_i r
    obtain ⟨v, rfl, q1⟩ := rql1 q
    have z := q1.toH ok up
    split at h
    · rename_i xs e
      have ed : r.dat = .tup xs := by
        unfold tupOf at e
        split at e
        · rename_i ys ey; cases e; exact ey
        · cases e
      rw [ed, Rp] at z
      obtain ⟨p, vs, rfl, h1, h2⟩ := z
      split at h
      · rename_i ns en
        split at h
        · rename_i hn
          cases h
          rw [ints_rp h2 en] at h1
          refine ⟨p, ns, rfl, h1, hn, fun l' a hp hs hl => ?_⟩
          rw [sortI_uniq hp hs]
          exact k _ F _ (Le.newH ok hl) (rr_lst ok hl (rpl_ints _))
        · cases h
      · cases h
    · cases h
  · cases h
end Fw
/-! ### {n:b}, s.strip(t), s.count(t) -/
namespace Fw
open PySem PySem.Spec PyProof.Rows L2
def bSpec : Builtin.Float.FormatSpec := { align := 62, type := some 98 }
theorem bSpec_ok : Builtin.Float.parseFormatSpec [98] "int" 62 = .ok bSpec := by first | rfl | decide | kernel_rfl
def binS (i : Int) : List Nat := (Nat.toDigits 2 i.natAbs).map Char.toNat
theorem binS_field {i : Int} : intField' bSpec false [] (binS i) [] 4 = tx (binS i) := by
  have hd : (binS i).isEmpty = false := by
    have := tDigits_len_ge 2 i.natAbs
    unfold binS
    cases h : Nat.toDigits 2 i.natAbs with
    | nil => rw [h] at this; simp at this
    | cons _ _ => rfl
  unfold intField' tx bSpec
  simp only [hd]
  have e : (-1 - 0 - ((binS i).length : Int)).toNat = 0 := by omega
  simp [e]
  try omega
theorem field_bin {prog : Program} {w : World} {A : Around} {E : Value → Shared → Prop} {s : Shared} {a : Int} {t : Tok} {Q : Value → Shared → Prop} (h0 : 0 ≤ a) (hl : (binS a).length ≤ 100000)
    (h : Q (.str (tx (binS a)) (s.toks + 1)) { s with toks := s.toks + 1 + 1 }) : wpAny (model prog w) A (formatField (.int a t) (tx [98])) Q E s := by
  have hsz : (tx (binS a)).length ≤ sizeLine := by rw [tx_len]; exact sz hl
  show wpAny _ _ (holding [.int a t] (pyFormat (.int a t) (tx [98]))) Q E s
  refine wpAny_holding ?_
  unfold pyFormat
  refine wpAny_bind (wpAny_mkStr ?_ (by decide))
  refine wpAny_bind (m := callSpecial? (.int a t) (Str.ofString "__format__") [.str (tx [98]) s.toks]) (wpAny_callSpecial?_slot (name := Str.ofString "__format__") (typeIs_int _ a t) slot_int_format ?_)
  refine wpAny_call (codeAny_call_builtin slot_int_format.plain entry_int_format (slot_int_format.check _ _ _ _ _ _ _ _ (typeIs_int _ a t) (args_int_format _ _) ?_))
  have hne : ((tx [98]).length == 0) = false := rfl
  have hasc : (((tx [98]).cps.toList.drop 1).any (· ≥ 128) || ((tx [98]).cps.getD 0 0 ≥ 128 && !([60, 62, 61, 94] : List Nat).contains ((tx [98]).cps.getD 1 0))) = false := rfl
  have hp : Builtin.Float.parseFormatSpec (tx [98]).cps.toList "int" 62 = .ok bSpec := bSpec_ok
  unfold Builtin.«int.__format__»
  simp only [selfAndOne, noKeywords, Builtin.Int.intOfSelf, asInt?, asStr?, List.isEmpty_nil, if_true, pure_bind, bind_pure, bind_assoc, hne, hasc, Bool.false_eq_true, if_false,
    show (Value.str (tx [98]) s.toks == Value.none) = false from rfl]
  refine wpAny_bind (wpAny_typeNameOf (T := "str") (typeIs_str _ _ _) (by decide) fun _ => ?_)
  first | refine wpAny_bind (wpAny_typeNameOfCut_int ?_) | refine wpAny_bind (wpAny_typeNameOf_int ?_)
  have hty : bSpec.type.getD (if (tx [98]).cps.back? == some 0 then 0 else 100) = 98 := rfl
  simp only [hp, hty]
  rw [if_pos (by decide)]
  have hneg : decide (a < 0) = false := decide_eq_false (by omega)
  have key : ∀ (g : Str) (Q2 : Fin → Shared → Prop) (E2 : Value → Shared → Prop) (s2 : Shared), g = tx (binS a) → (Q2 (.done (.ret (.str (tx (binS a)) s2.toks))) { s2 with toks := s2.toks + 1 }) → wpAny (model prog w) A.in1 (retStr g) Q2 E2 s2 := fun g Q2 E2 s2 e hq => by
    subst e
    unfold retStr
    exact wpAny_bind (wpAny_mkStr (wpAny_pure hq) hsz)
  refine key _ _ _ _ ?_ ?_
  · rw [hneg, ← binS_field]
    rfl
  · exact wpAny_bind (wpAny_isInstance (typeIs_str _ _ _) isSubtype_str_str (wpAny_pure h))
def bS (i : Int) : List Nat := if i < 0 then [] else binS i
def dFmtB : R → Option R
  | .val (.int i) => if 0 ≤ i ∧ (binS i).length ≤ 100000 then some (.val (.str (binS i))) else none
  | _ => none
def fFmtB (f : Env → O R) : Env → O R := fun es => (f es).bind fun r => O.of (dFmtB r.fz)
def tFmtB (te : TE) : TE := fun σ H Q => te σ H fun x H1 => ∃ i : Int, x = .int i ∧ 0 ≤ i ∧ (binS i).length ≤ 100000 ∧ Q (.str (tx (binS i))) H1
section
variable {X : Cx} {T : Tb} {W : WX} {e o : Expr} {f fo fe : Env → O R} {pos p2 p3 apos : Pos} {k : Nat}
theorem pe_fmtB {te : TE} {spec : Expr} (he : PE X e te) (hs : PE X spec (tC (.str (tx [98])))) : PE X (.FormattedValue e (-1) (some spec) pos) (tFmtB te) := by
  refine ⟨fun pins s σ H Q I h => ?_⟩
  refine wpAny_FormattedValue_spec (thn (he.run pins s σ H _ I h) fun v s1 hv => ?_)
  obtain ⟨x, H1, I1, r1, i, rfl, h0, hl, q⟩ := hv
  obtain ⟨t, rfl⟩ := r1
  refine thn (hs.run pins s1 σ H1 (fun y H2 => y = .str (tx [98]) ∧ Q (.str (tx (binS i))) H2) I1 ⟨rfl, q⟩) fun u s2 hu => ?_
  obtain ⟨y, H2, I2, r2, rfl, q2⟩ := hu
  obtain ⟨t2, rfl⟩ := r2
  exact ⟨tx [98], t2, rfl, field_bin h0 hl ⟨.str (tx (binS i)), H2, I2.tok _, ⟨_, rfl⟩, q2⟩⟩
theorem de_fmtB {x : Str} {j : Nat} (he : DE X T W e f) (hx : x = tx [98] := by decide +kernel) : DE X T W (.JoinedStr [.FormattedValue e (-1) (some (.JoinedStr [.Constant (.str x) j apos] p2)) p3] pos) (fFmtB f) := by
  subst hx
  refine pe_weak (pe_joined1 (pe_fmtB he (pe_joined1 pe_str))) fun σ H Q ⟨F0, H0, F, es, st, h⟩ => ⟨F0, H0, F, es, st, pr_seq st h fun r v F1 H1 _ st1 l1 q1 h1 => ?_⟩
  cases hd : dFmtB r.fz with
  | none => rw [hd] at h1; exact h1.elim
  | some c =>
    rw [hd] at h1
    unfold dFmtB at hd
    split at hd
    · rename_i i hi
      split at hd
      · rename_i hl
        cases hd
        rw [hi] at q1
        have ev : v = .int i := rq_int q1
        subst ev
        exact ⟨i, rfl, hl.1, hl.2, h1 _ F1 H1 (Le.refl st1.ok) (by rw [Rr, Rp])⟩
      · cases hd
    · cases hd
/-! ### s.count(c) -/
def dCount (z : List Nat) (b : R) : Option R := match b with
  | .val (.str [c]) => some (.val (.int ((z.filter fun x => x == c).length : Nat)))
  | _ => none
theorem cnt_len (c : Nat) : ∀ z : List Nat, PyProof.Rows.cnt c z = ((z.filter fun x => x == c).length : Nat)
  | [] => rfl
  | n :: z => by
    rw [PyProof.Rows.cnt_cons, cnt_len c z, List.filter_cons]
    by_cases h : n = c
    · subst h; simp; omega
    · have h2 : (n == c) = false := by simp [h]
      rw [h2, if_neg h]; simp
theorem de_count (ho : DE X T W o fo) (he : DE X T W e fe) (hs : starEach [e] X.env = [(false, eval e X.env)] := by rfl) (hbase : attributeBase o "count" X.env (eval o X.env) = eval o X.env := by rfl) (hline : (apos.endLine == pos.line) = true := by rfl) :
    DE X T W (.Call (.Attribute o "count" apos) [e] [] pos) (fM1 dCount fo fe) :=
  pe_weak (pe_m1 PySem.F.slot_str_count PySem.F.type_str_count mt_count ho he hs hbase hline) fun σ H Q h => m1_weak (fun H0 F H z y b c Q ok up q hd k => by
    unfold dCount at hd
    split at hd
    · rename_i d
      cases hd
      have ev : y = .str (tx [d]) := rq_str q
      subst ev
      refine ⟨tx z, tx [d], rfl, rfl, ?_⟩
      have e : Txt.count (tx z) (tx [d]) = ((z.filter fun x => x == d).length : Nat) := by
        show Txt.count (tx z) ⟨#[d]⟩ = _
        rw [count_cnt, ← cnt_len]
        simp [tx]
      rw [e]
      exact k _ F H (Le.refl ok) (by rw [Rr, Rp])
    · cases hd) h
/-! ### s.strip(t) -/
def dStrip (z : List Nat) (b : R) : Option R := match b with
  | .val (.str s) => if z.length ≤ 100000 then some (.val (.str (Txt.stripChars (tx z) (tx s)).cps.toList)) else none
  | _ => none
theorem tx_cps (x : Str) : tx x.cps.toList = x := by simp [tx]
theorem de_strip (ho : DE X T W o fo) (he : DE X T W e fe) (hs : starEach [e] X.env = [(false, eval e X.env)] := by rfl) (hbase : attributeBase o "strip" X.env (eval o X.env) = eval o X.env := by rfl) (hline : (apos.endLine == pos.line) = true := by rfl) :
    DE X T W (.Call (.Attribute o "strip" apos) [e] [] pos) (fM1 dStrip fo fe) :=
  pe_weak (pe_m1 PySem.F.slot_str_strip PySem.F.type_str_strip mt_stripChars ho he hs hbase hline) fun σ H Q h => m1_weak (fun H0 F H z y b c Q ok up q hd k => by
    unfold dStrip at hd
    split at hd
    · rename_i d
      split at hd
      · rename_i hl
        cases hd
        have ev : y = .str (tx d) := rq_str q
        subst ev
        exact ⟨tx z, tx d, rfl, rfl, by rw [tx_len]; exact sz hl, k _ F H (Le.refl ok) (by rw [Rr, Rp, tx_cps])⟩
      · cases hd
    · cases hd) h
end
theorem tw_self {p : Nat → Bool} : ∀ {z : List Nat}, z.takeWhile p = z ↔ ∀ x ∈ z, p x = true
  | [] => by simp
  | a :: z => by
    have ih := tw_self (p := p) (z := z)
    rw [List.takeWhile_cons]
    by_cases h : p a = true
    · rw [if_pos h]; simp [ih, h]
    · rw [if_neg h]; simp [h]
theorem strip_nil (z s : List Nat) : ((Txt.stripChars (tx z) (tx s)).cps.toList = []) ↔ z.all (fun c => decide (c ∈ s)) = true := by
  have g : (tx s).cps.contains = fun c => decide (c ∈ s) := by
    funext c
    simp [tx]
  have hz : (tx z).cps.toList = z := tx_list z
  unfold Txt.stripChars Txt.stripBy stripSame stripped stripHi stripLo
  rw [g]
  simp only [hz, if_true, tx_len]
  generalize hp : (fun c => decide (c ∈ s)) = p
  by_cases ha : z.all p = true
  · have t1 : z.takeWhile p = z := by
      rw [tw_self]
      exact fun x hx => List.all_eq_true.mp ha x hx
    rw [t1]
    simp only [List.drop_length, List.reverse_nil, List.takeWhile_nil, List.length_nil, Nat.sub_zero, beq_self_eq_true, Bool.and_true, ha, iff_true]
    split
    · rename_i h
      have : z.length = 0 := by simpa using h
      have : z = [] := List.length_eq_zero_iff.mp this
      subst this; rfl
    · simp [Builtin.Str.strSub]
  · have ha' : z.all p = false := by simpa using ha
    rw [ha']
    simp only [Bool.false_eq_true, iff_false]
    -- the first sign that stays
    have hlt : (z.takeWhile p).length < z.length := by
      have hle := (List.takeWhile_prefix (p := p) (l := z)).length_le
      rcases Nat.lt_or_ge (z.takeWhile p).length z.length with h | h
      · exact h
      · have e : z.takeWhile p = z := (List.takeWhile_prefix p).eq_of_length (by omega)
        rw [tw_self] at e
        exact absurd (List.all_eq_true.mpr e) ha
    have hnz : z ≠ [] := by intro e; subst e; simp at hlt
    have hdr : ∃ c r, z.drop (z.takeWhile p).length = c :: r ∧ p c = false := by
      have e1 : z.drop (z.takeWhile p).length = z.dropWhile p := by
        have := List.takeWhile_append_dropWhile (p := p) (l := z)
        conv => lhs; rw [← this]
        conv => lhs; arg 1; rw [this]
        rw [List.drop_left']
        rfl
      cases hd : z.dropWhile p with
      | nil =>
        rw [hd] at e1
        have := congrArg List.length e1
        simp at this
        omega
      | cons c r =>
        refine ⟨c, r, by rw [e1, hd], ?_⟩
        have := List.head?_dropWhile_not p z
        rw [hd] at this
        simpa using this
    obtain ⟨c, r, e1, e2⟩ := hdr
    rw [e1]
    have hk : ((c :: r).reverse.takeWhile p).length < (c :: r).length := by
      have hle := (List.takeWhile_prefix (p := p) (l := (c :: r).reverse)).length_le
      rw [List.length_reverse] at hle
      rcases Nat.lt_or_ge ((c :: r).reverse.takeWhile p).length (c :: r).length with h | h
      · exact h
      · have e : (c :: r).reverse.takeWhile p = (c :: r).reverse := (List.takeWhile_prefix p).eq_of_length (by rw [List.length_reverse]; omega)
        rw [tw_self] at e
        have := e c (by simp)
        rw [e2] at this
        cases this
    have hl : (c :: r).length = z.length - (z.takeWhile p).length := by rw [← e1, List.length_drop]
    split
    · rw [hz]; exact hnz
    · intro e
      have := congrArg List.length e
      simp only [Builtin.Str.strSub, Array.toList_extract, List.length_nil] at this
      rw [hz] at this
      simp only [List.extract_eq_take_drop, List.length_take, List.length_drop] at this
      omega
end Fw
/-! ### enumerate(reversed(t)), t a tuple -/
namespace Fw
open PySem PySem.Spec PyProof.Rows L2 RT
section
variable {prog : Program} {w : World} {A : Around} {E : Value → Shared → Prop} {s : Shared}
theorem nextOf_rt_item {it t : Addr} {i : Nat} {items : Array Value} {x : Value} {Q : Value → Shared → Prop} (hit : IsRt s.heap it t (i : Int)) (ht : IsTup s.heap t items) (hx : items[i]? = some x) (hsz : items.size ≤ sizeLine)
    (hQ : ∀ h', IsRt h' it t ((i : Int) - 1) → Heap.SameBut it s.heap h' → Q x { s with heap := h', toks := s.toks + 1 }) : wpAny (model prog w) A (Builtin.SmallTypes.nextOf (.ref it)) Q E s := by
  obtain ⟨o, ho, hc, hd⟩ := id hit
  have hi : i < items.size := (Array.getElem?_eq_some_iff.mp hx).1
  have hT : s.TypeIs (.ref t) "tuple" := IsTup.typeOf' ht
  rw [sizeLine_eq] at hsz
  unfold Builtin.SmallTypes.nextOf
  refine wpAny_bind (wpAny_callSpecial?_slot (name := Str.ofString "__next__") hit.typeIs slot_rt_next
    (wpAny_call_entry slot_rt_next hit.typeIs entry_rt_next ?_ (args_rt_next _)))
  unfold Builtin.«reversed.__next__»
  refine wpAny_bind (wpAny_of_eq (a := (Value.ref it, [])) rfl ?_)
  try dsimp only
  refine wpAny_bind (wpAny_field ho hd (x := .ref t) rfl ?_)
  try dsimp only
  refine wpAny_bind (wpAny_field ho hd (x := rawInt (i : Int)) rfl ?_)
  show wpAny _ _ (if (i : Int) < 0 then _ else _) _ _ s
  rw [if_neg (by omega)]
  try dsimp only
  refine wpAny_bind (wpAny_specialOf hT get_tuple ?_)
  try dsimp only
  try rw [if_neg (by decide)]
  try dsimp only
  refine wpAny_bind (wpAny_mkInt ?_)
  refine wpAny_bind (wpAny_attempt ?_)
  have fin : seqIndex? (i : Int) items.size = some i := seqIndex_of (by omega) (by omega)
  refine PyProof.Rows.getItem_tuple (s := { s with toks := s.toks + 1 }) ht (by omega) (by omega) fin hx ?_
  try dsimp only
  refine wpAny_bind (wpAny_field (s := { s with toks := s.toks + 1 }) ho hd (x := rawInt (i : Int)) rfl ?_)
  try dsimp only
  refine wpAny_bind (wpAny_setField (s := { s with toks := s.toks + 1 }) ho hd (by simp) ?_)
  first
  | refine wpAny_pure ⟨x, rfl, wpAny_pure (hQ _ ?_ (Heap.SameBut.update ..))⟩
  | refine wpAny_bind (wpAny_pure (wpAny_pure ⟨x, rfl, wpAny_pure (hQ _ ?_ (Heap.SameBut.update ..))⟩))
  exact ⟨_, Heap.get?_update_self _ ho (Obj.isFreed_of_fields (Obj.data_mapFields hd _)), (Obj.cls_mapFields ..).trans hc, by
    rw [Obj.data_mapFields hd]; simp⟩
theorem nextOf_rt_end {it t : Addr} {Q : Value → Shared → Prop} (hh : A.handled = none) (hit : IsRt s.heap it t (-1))
    (hE : ∀ h' e, Heap.ExtBut it s.heap h' → (∃ o, h'.get? e = some o ∧ o.cls = .type "StopIteration") → E (.ref e) { s with heap := h' }) : wpAny (model prog w) A (Builtin.SmallTypes.nextOf (.ref it)) Q E s := by
  obtain ⟨o, ho, hc, hd⟩ := id hit
  unfold Builtin.SmallTypes.nextOf
  refine wpAny_bind (wpAny_callSpecial?_slot (name := Str.ofString "__next__") hit.typeIs slot_rt_next
    (wpAny_call_entry slot_rt_next hit.typeIs entry_rt_next ?_ (args_rt_next _)))
  unfold Builtin.«reversed.__next__»
  refine wpAny_bind (wpAny_of_eq (a := (Value.ref it, [])) rfl ?_)
  try dsimp only
  refine wpAny_bind (wpAny_field ho hd (x := .ref t) rfl ?_)
  try dsimp only
  refine wpAny_bind (wpAny_field ho hd (x := rawInt (-1)) rfl ?_)
  show wpAny _ _ (if (-1 : Int) < 0 then _ else _) _ _ s
  rw [if_pos (by decide)]
  try dsimp only
  refine wpAny_bind (wpAny_rule ?_)
  refine wpAny_bind ?_
  wp_delta
  refine wpAny_bind (wpAny_setField ho hd (by simp) ?_)
  have ho2 := Heap.get?_update_self (Obj.mapFields (·.setIfInBounds 1 (rawInt (-1)))) ho (Obj.isFreed_of_fields (Obj.data_mapFields hd _))
  refine wpAny_setField (s := { s with heap := s.heap.update it (Obj.mapFields (·.setIfInBounds 1 (rawInt (-1)))) }) ho2 (Obj.data_mapFields hd _) (by simp) ?_
  try dsimp only
  first
  | show wpAny _ _ (newExc (.type "StopIteration") [] >>= _) _ _ _
  | (refine wpAny_bind ?_; show wpAny _ _ (newExc (.type "StopIteration") [] >>= _) _ _ _)
  | (refine wpAny_bind ?_; wp_delta; show wpAny _ _ (newExc (.type "StopIteration") [] >>= _) _ _ _)
  refine wpAny_bind ?_
  simp only [newExc, newTuple]
  refine wpAny_bind (wpAny_newObj_type ?_ (by size_fits))
  refine wpAny_bind (m := firstArgMember _ _) (wpAny_of_eq (a := Value.none) (by first | rfl | (simp only [firstArgMember]; rfl)) ?_)
  refine wpAny_newObj_type ?_ (by size_fits)
  simp only [raiseNew]
  refine wpAny_bind (wpAny_handled ?_)
  first | rw [show A.in1.handled = none from hh] | rw [hh]
  refine wpAny_bind (wpAny_pure (wpAny_throw ?_))
  refine hE _ _ ?_ ⟨_, Heap.get?_push_size _ rfl, rfl⟩
  refine ((?_ : Heap.ExtBut it s.heap _).push _).push _
  exact fun b ob hb e => (Heap.get?_update_other _ _ (Ne.symm hb)).trans ((Heap.get?_update_other _ _ (Ne.symm hb)).trans e)
theorem draws_rt (hh : A.handled = none) (it t : Addr) (hne : t ≠ it) (items : Array Value) (hsz : items.size ≤ sizeLine) :
    Draws prog w A it [it, t] items.size (fun i v => items[items.size - 1 - i]? = some v) (fun i h => i ≤ items.size ∧ IsRt h it t ((items.size : Int) - 1 - (i : Nat)) ∧ IsTup h t items) where
  live := fun _ _ st => let ⟨o, ho, _⟩ := st.2.1; ⟨o, ho⟩
  frame := fun _ _ _ st hk => by
    obtain ⟨o, h1, h2⟩ := st.2.2
    exact ⟨st.1, st.2.1.at fun o e => hk it (by simp) o e, ⟨o, hk t (by simp) o h1, h2⟩⟩
  item := fun i s Q E hi st hQ => by
    obtain ⟨hle, hit, ht⟩ := st
    have e1 : (items.size : Int) - 1 - (i : Nat) = ((items.size - 1 - i : Nat) : Int) := by omega
    rw [e1] at hit
    have hlt : items.size - 1 - i < items.size := by omega
    refine nextOf_rt_item hit ht (x := items[items.size - 1 - i]) (by simp [hlt]) hsz fun h' hit' hs' => ?_
    refine hQ _ h' _ (by simp [hlt]) ⟨hi, ?_, ?_⟩ hs'
    · have e2 : (items.size : Int) - 1 - ((i + 1 : Nat) : Int) = ((items.size - 1 - i : Nat) : Int) - 1 := by omega
      rw [e2]; exact hit'
    · obtain ⟨o, h1, h2⟩ := ht
      exact ⟨o, (hs'.2 t hne).trans h1, h2⟩
  done := fun s Q E st hE => by
    obtain ⟨_, hit, ht⟩ := st
    have e1 : (items.size : Int) - 1 - (items.size : Nat) = -1 := by omega
    rw [e1] at hit
    exact nextOf_rt_end hh hit hE
theorem meets_enumerate_newI (it t : Addr) (i : Int) :
    Meets (Builtin.«enumerate.__new__» ⟨[.type "enumerate", .ref it], []⟩) (fun _ R s => IsRt s.heap it t i ∧
      R (.ok (.ret (.ref s.heap.objs.size)))
        { s with heap := s.heap.push { cls := .type "enumerate", data := .fields #[.none, .bool false, .ref it, rawInt 0, .none, .none] } }) :=
  .of_wp fun prog w A R s h => by
    obtain ⟨hp, g, d, tk, os⟩ := s; obtain ⟨hl, h⟩ := h
    have hsub := sub_enumerate
    have q1 : ∀ {A' : Around} {E : Value → Shared → Prop} {Q : Value → Shared → Prop}, Q (.ref it) ⟨hp, g, d, tk, os⟩ → wpAny (model prog w) A' (pyIter (.ref it)) Q E ⟨hp, g, d, tk, os⟩ :=
      fun q => iter_rt (s := ⟨hp, g, d, tk, os⟩) hl q
    wp_walk using q1
    refine wpAny_stack_any fun st => wpAny_pure ?_
    split
    · rename_i c _ _ _ _ _
      cases (c == Value.type "enumerate")
      · wp_walk using q1
        exact ⟨_, rfl, h⟩
      · wp_walk using q1
        exact ⟨_, rfl, h⟩
    · wp_walk using q1
      exact ⟨_, rfl, h⟩
theorem call_enumerate_rt {it t : Addr} {i : Int} {Q : Value → Shared → Prop} (hit : IsRt s.heap it t i)
    (h : ∀ h', IsEnum h' s.heap.objs.size it 0 .none → h'.objs.size = s.heap.objs.size + 1 →
      (∀ b o, s.heap.get? b = some o → h'.get? b = some o) → Q (.ref s.heap.objs.size) { s with heap := h' }) :
    wpAny (model prog w) A (call (.type "enumerate") [.ref it]) Q E s := by
  refine callType_new F.called_enumerate (by decide) (F.typeCall_enumerate_1 _) (F.newCall_enumerate_1 _) (fun obj => F.args_object_init_2 obj _) F.entry_enumerate_new
    (meets_enumerate_newI it t i) ⟨hit, ?_⟩
  have he : IsEnum (s.heap.push { cls := .type "enumerate", data := .fields #[.none, .bool false, .ref it, rawInt 0, .none, .none] }) s.heap.objs.size it 0 .none := by
    exact Heap.get?_push_size s.heap (o := { cls := .type "enumerate", data := .fields #[.none, .bool false, .ref it, rawInt 0, .none, .none] }) rfl
  refine ⟨⟨_, he, rfl⟩, h _ he (Heap.size_push ..) fun b o x => Heap.get?_push_of_some _ x⟩
end
end Fw
namespace Fw
open PySem PySem.Spec PyProof.Rows L2 RT
def IteR (K : PySem.W.Frag) (a : Addr) (n : Nat) : It :=
  ⟨fun i H => i < n ∧ ∃ (xs : List V) (x : V), SqT K H a xs ∧ xs.length = n ∧ xs[n - 1 - i]? = some x,
   fun i H v H' => ∃ T x, v = .ref T ∧ H T = none ∧ H' = upd H T (.tup [.int (i : Nat), x]) ∧ ∀ xs, SqT K H a xs → xs[n - 1 - i]? = some x, fun i H => i = n ∧ ∃ xs : List V, SqT K H a xs ∧ xs.length = n⟩
theorem walk_enumR {K : PySem.W.Frag} {a : Addr} {xs : List V} : Walk (IteR K a xs.length) xs.length (fun H => SqT K H a xs) (YPair (fun i => some (.int (i : Nat))) (fun i => xs[xs.length - 1 - i]?)) where
  goes := fun i H h q => ⟨h, xs, xs[xs.length - 1 - i]'(by omega), q, rfl, by simp⟩
  stops := fun H q => ⟨rfl, xs, q, rfl⟩
  yields := fun i H x H' h q ⟨T, u, e1, e2, e3, e4⟩ => ⟨T, _, u, e1, e2, e3, rfl, e4 xs q⟩
theorem turn_enumR {P : Program} {w : World} {K : PySem.W.Frag} {elts : List Expr} {kk : Nat} {tpos : Pos} (a e it : Addr) (n : Nat) :
    Turn P w K (.Tuple elts kk tpos) (IteR K a n) [e, it] e (fun i h => (∃ old, IsEnum h e it ((i : Nat) : Int) old) ∧ (i ≤ n ∧ IsRt h it a ((n : Int) - 1 - (i : Nat))) ∧ e ≠ it) where
  mem := by simp
  obj := fun i h st b hb => by
    obtain ⟨⟨old, he⟩, ⟨_, o, ho, hc, hd⟩, _⟩ := st
    rcases List.mem_cons.mp hb with q | q
    · subst q; exact ⟨_, he, fun v q => nomatch q⟩
    · have q2 : b = it := by simpa using q
      subst q2; exact ⟨o, ho, fun v q => by rw [hd] at q; cases q⟩
  keep := fun i h h' st k => by
    obtain ⟨⟨old, he⟩, ⟨hi, o, ho, hr⟩, hne⟩ := st
    exact ⟨⟨old, k e (by simp) _ he⟩, ⟨hi, o, k it (by simp) _ ho, hr⟩, hne⟩
  item := by
    intro X hP hw hK hc i pins s σ H E I hf st hg
    subst hP hw hK
    obtain ⟨⟨old, he⟩, ⟨hle, hit⟩, hne⟩ := st
    obtain ⟨hlt, xs, x, hq, hxl, hx⟩ := hg
    obtain ⟨its, rv, p, hz⟩ := I.tuple hq
    have hl : its.toArray.size = n := by rw [List.size_toArray, ← rv.length, hxl]
    have hz' : its.toArray.size ≤ sizeLine := by rw [hl, ← hxl]; exact hz
    have hh : X.A.in1.handled = none := I.ok.hd hc
    have hel : e < s.heap.objs.size := Heap.lt_size he
    have hil : it < s.heap.objs.size := by obtain ⟨_, q, _⟩ := hit; exact Heap.lt_size q
    have nai : a ≠ it := fun z => by
      obtain ⟨o, h1, h2, _⟩ := p
      obtain ⟨o', g1, g2, _⟩ := hit
      rw [z, g1] at h1; cases h1; rw [g2] at h2; simp at h2
    have nea : e ≠ a := fun z => by
      obtain ⟨o, h1, h2, _⟩ := p
      have h3 := he
      rw [z] at h3
      have h4 := h3.symm.trans h1
      cases h4; simp at h2
    have hst : i ≤ its.toArray.size ∧ IsRt s.heap it a ((its.toArray.size : Int) - 1 - (i : Nat)) ∧ IsTup s.heap a its.toArray := ⟨by omega, by rw [hl]; exact hit, p⟩
    refine wpAny_pyNext_enum_itemD (draws_rt hh it a nai its.toArray hz') he hst (by omega) hne (by simp [hne, nea]) fun u h' tk hu ho hit' hT hsz hk => ?_
    obtain ⟨_, hit', _⟩ := hit'
    rw [hl] at hu hit'
    obtain ⟨v, hv, rv'⟩ : ∃ v, xs[n - 1 - i]? = some v ∧ RelV v u := by
      obtain ⟨u', e1, e2⟩ := rv.get hx
      have : u = u' := by
        have e3 : its[n - 1 - i]? = some u := by simpa using hu
        rw [e1] at e3; exact (Option.some.inj e3).symm
      exact ⟨x, hx, by rw [this]; exact e2⟩
    refine ⟨_, rfl, wpAny_letOwnedTupleGo_enum (s := { s with heap := h', toks := tk + 1 }) ho fun h2 he2 sb => ?_⟩
    have hT2 : h2.get? s.heap.objs.size = some { cls := .type "tuple", data := .seq #[.int i tk, u] } := (sb.2 _ (Nat.ne_of_gt hel)).trans hT
    have new : ObjOk X.prog X.w (upd H s.heap.objs.size (.tup [.int (i : Nat), v])) h2 s.heap.objs.size (.tup [.int (i : Nat), v]) :=
      ⟨by show 2 ≤ sizeLine; decide, [.int i tk, u], .cons ⟨_, rfl⟩ (.cons rv' .nil), ⟨_, hT2, rfl, _, rfl⟩⟩
    have I1 : Inv X pins σ (upd H s.heap.objs.size (.tup [.int (i : Nat), v])) { s with heap := h2, toks := tk + 1 } :=
      I.turnedNew (ch := [e, it]) (fun b ob hb q => (sb.2 b (fun z => hb (by simp [z]))).trans (hk b ob (fun z => hb (by simp [z])) (fun z => hb (by simp [z])) q)) hf (Nat.le_refl _) new
    refine ⟨.ref s.heap.objs.size, _, I1, rfl, ⟨_, v, rfl, I.hok.fresh (Nat.le_refl _), rfl, fun ys hy => by rw [I.tuple_inj hy hq]; exact hv⟩, ⟨⟨u, ?_⟩, ⟨by omega, ?_⟩, hne⟩, fun b hb => ?_⟩
    · have e1 : ((i + 1 : Nat) : Int) = (i : Int) + 1 := by omega
      rw [e1]; exact he2
    · obtain ⟨o, g1, g2⟩ := hit'
      exact ⟨o, (sb.2 it (Ne.symm hne)).trans g1, g2⟩
    · have hlt : b < s.heap.objs.size := by
        rcases List.mem_cons.mp hb with q | q
        · rw [q]; exact hel
        · have q2 : b = it := by simpa using q
          rw [q2]; exact hil
      rw [upd_ne (Nat.ne_of_lt hlt)]
      exact (hf b hb).1
  done := by
    intro X hP hw hK hc i pins s σ H E I hf st hg
    subst hP hw hK
    obtain ⟨⟨old, he⟩, ⟨hle, hit⟩, hne⟩ := st
    obtain ⟨hi, xs, hq, hxl⟩ := hg
    subst hi
    obtain ⟨its, rv, p, hz⟩ := I.tuple hq
    have hl : its.toArray.size = i := by rw [List.size_toArray, ← rv.length, hxl]
    have hz' : its.toArray.size ≤ sizeLine := by rw [hl, ← hxl]; exact hz
    have hh : X.A.in1.handled = none := I.ok.hd hc
    have nai : a ≠ it := fun z => by
      obtain ⟨o, h1, h2, _⟩ := p
      obtain ⟨o', g1, g2, _⟩ := hit
      rw [z, g1] at h1; cases h1; rw [g2] at h2; simp at h2
    have hst : its.toArray.size ≤ its.toArray.size ∧ IsRt s.heap it a ((its.toArray.size : Int) - 1 - (its.toArray.size : Nat)) ∧ IsTup s.heap a its.toArray := ⟨Nat.le_refl _, by rw [hl]; exact hit, p⟩
    obtain ⟨f0, f1, f2, f3, f4, f5⟩ := hf it (by simp)
    have he' : IsEnum s.heap e it ((its.toArray.size : Nat) : Int) old := by rw [hl]; exact he
    exact wpAny_pyNext_enum_endD (draws_rt hh it a nai its.toArray hz') he' hst fun h' eb => ⟨rfl, I.turned (t' := s.toks) (fun b o hb q => eb b o hb q) f0 f1 f3 f4 f5⟩
  self := fun A i s Q E st h => let ⟨⟨_, he⟩, _⟩ := st; wpAny_pyIter_enum he h
def iEnumR (K : PySem.W.Frag) (te : TE) : TI := fun σ H R => te σ H fun v H1 => ∃ (a : Addr) (xs : List V), v = .ref a ∧ SqT K H1 a xs ∧ R (IteR K a xs.length) H1
theorem pi_enumR {X : Cx} {e : Expr} {te : TE} {p pos p2 pos2 tpos : Pos} {elts : List Expr} {kk : Nat} (hg : Gl X "enumerate") (hm : X.mg "enumerate" = none) (hg2 : Gl X "reversed") (hm2 : X.mg "reversed" = none) (he : PE X e te)
    (hs : starEach [e] X.env = (false, eval e X.env) :: starEach [] X.env := by rfl)
    (hs2 : starEach [.Call (.Name "reversed" p2) [e] [] pos2] X.env = (false, eval (.Call (.Name "reversed" p2) [e] [] pos2) X.env) :: starEach [] X.env := by rfl) :
    PI X (.Tuple elts kk tpos) (.Call (.Name "enumerate" p) [.Call (.Name "reversed" p2) [e] [] pos2] [] pos) (iEnumR X.K te) := by
  refine ⟨fun pins s σ H R I h => ?_⟩
  refine Call_ (ld_blt I hg hm boot_enumerate (PyProof.Rows.callWith_type1 (args_cons (Call_ (ld_blt I hg2 hm2 PyProof.Rows.boot_reversed (PyProof.Rows.callWith_type1 (args_cons (thn (he.run pins s σ H _ I h) fun u s1 ⟨v, H1, I1, r1, q1⟩ => args_nil ?_) hs) hs rfl))) hs2) hs2 rfl))
  obtain ⟨a, xs, ev, hq, q⟩ := q1
  subst ev
  obtain rfl : u = Value.ref a := r1
  obtain ⟨its, rv, p', hz⟩ := I1.tuple hq
  have hl := rv.length
  have hn := line63
  refine call_reversed_tup p' (fun A E Q k => len_tuple p' (by simp only [List.size_toArray] <;> omega) k) (args_nil ?_)
  have hit : IsRt (s1.heap.push (rtObj a ((its.toArray.size : Int) - 1))) s1.heap.objs.size a ((its.toArray.size : Int) - 1) := ⟨_, Heap.get?_push_size _ rfl, rfl, rfl⟩
  refine call_enumerate_rt (s := { s1 with heap := s1.heap.push (rtObj a ((its.toArray.size : Int) - 1)), toks := s1.toks + 1 + 1 }) hit fun h' he' hsz hk => wpAny_pyIter_enum he' ?_
  have hz1 : (s1.heap.push (rtObj a ((its.toArray.size : Int) - 1))).objs.size = s1.heap.objs.size + 1 := Heap.size_push ..
  have hk2 : ∀ b o, s1.heap.get? b = some o → h'.get? b = some o := fun b o z => hk b o (Heap.get?_push_of_some _ z)
  have I2 : Inv X pins σ H1 { s1 with heap := h', toks := s1.toks + 1 + 1 } := I1.kept (t' := s1.toks + 1 + 1) hk2
  have hin : ∀ b : Addr, b ∈ [s1.heap.objs.size + 1, s1.heap.objs.size] → s1.heap.objs.size ≤ b := fun b hb => by
    rcases List.mem_cons.mp hb with q | q
    · rw [q]; exact Nat.le_succ _
    · have q2 : b = s1.heap.objs.size := by simpa using q
      rw [q2]; exact Nat.le_refl _
  rw [hz1] at he'
  have hit2 : IsRt h' s1.heap.objs.size a ((xs.length : Int) - 1 - ((0 : Nat) : Int)) := by
    have e1 : ((its.toArray.size : Int) - 1) = (xs.length : Int) - 1 - ((0 : Nat) : Int) := by simp only [List.size_toArray]; omega
    rw [← e1]
    exact hit.at fun o z => hk _ o z
  refine ⟨s1.heap.objs.size + 1, [s1.heap.objs.size + 1, s1.heap.objs.size], _, IteR X.K a xs.length, H1, ?_, I2, turn_enumR a (s1.heap.objs.size + 1) s1.heap.objs.size xs.length, ⟨⟨.none, he'⟩, ⟨Nat.zero_le _, hit2⟩, Nat.succ_ne_self _⟩, fun b hb => I1.fpOk (hin b hb) (I1.hok.fresh (hin b hb)), q⟩
  rw [hz1]
/-! ### on data -/
theorem rev_at {α : Type} {xs : List α} {i : Nat} (h : i < xs.length) : xs.reverse[i]? = xs[xs.length - 1 - i]? := List.getElem?_reverse h
section
variable {X : Cx} {T : Tb} {W : WX} {fz : Bool}
theorem src_enumR {K : PySem.W.Frag} {F0 H0 F' H' : Hp} {a : Addr} {xs : List D} {vs : List V} (hs : SqT K F' a vs) (r : RpL K F' xs vs) :
    Src K T H0 (Sta T fz F0 H0 F' H') (enD 0 xs.reverse) (IteR K a vs.length) := by
  have hl := r.len
  refine ⟨fun H => SqT K H a vs, YPair (fun i => some (.int (i : Nat))) (fun i => vs[vs.length - 1 - i]?), by rw [enD_len, List.length_reverse, hl]; exact walk_enumR, fun F2 H2 s => s.2.ok.sub.t (s.f.t hs), fun i H2 x H3 F2 hi s ⟨p, u, w, e1, e2, e3, e4, e5⟩ => ?_⟩
  subst e1 e3
  cases e4
  obtain ⟨d, h1, h2⟩ := (r.mono s.f).getV e5
  obtain ⟨l, q⟩ := pair_step (H0 := H0) (i := i) s.2.ok e2 h2
  rw [enD_len, List.length_reverse] at hi
  have h3 : xs.reverse[i]? = some d := by rw [rev_at hi, hl]; exact h1
  exact ⟨_, _, by rw [enD_at 0 _ i d h3, Nat.zero_add], l, q⟩
def fEnumR (fa : Env → O R) : Env → O (List R) := fun es => (fa es).bind fun r => match r.fz with
  | .val (.tup xs) => .ok (enD 0 xs.reverse)
  | _ => .no
theorem pr_seqI {K : PySem.W.Frag} {F0 H0 F H : Hp} {σ : L2.St} {es : Env} {α β : Type} {rel rel' : Hp → Hp → β → α → Prop} {Q : β → Hp → Prop} {Q' : VK} {o : O R} {g : R → O α} (st : StOk K T F0 H0 F H σ es) (h : PO K T W F H σ rel Q (o.bind g))
    (hr : ∀ F1 H1, Le T F H F1 H1 → ∀ F' H' v a, rel' F' H' v a → rel F' H' v a)
    (k : ∀ a v F1 H1, o = .ok a → StOk K T F0 H0 F1 H1 σ es → Le T F H F1 H1 → Rq K T H0 F1 H1 v a.fz → PO K T W F1 H1 σ rel' Q (g a) → Q' v H1) : PO K T W F H σ (Rr K T H0 H) Q' o := po_seq st h hr k
theorem di_enumR {e : Expr} {fa : Env → O R} {p pos p2 pos2 tpos : Pos} {elts : List Expr} {kk : Nat} (hm : X.mg "enumerate" = none) (hm2 : X.mg "reversed" = none) (ha : DE X T W e fa) (hg : Gl X "enumerate" := by rfl) (hg2 : Gl X "reversed" := by rfl)
    (hs : starEach [e] X.env = (false, eval e X.env) :: starEach [] X.env := by rfl)
    (hs2 : starEach [.Call (.Name "reversed" p2) [e] [] pos2] X.env = (false, eval (.Call (.Name "reversed" p2) [e] [] pos2) X.env) :: starEach [] X.env := by rfl) :
    DI fz X T W (.Tuple elts kk tpos) (.Call (.Name "enumerate" p) [.Call (.Name "reversed" p2) [e] [] pos2] [] pos) (fEnumR fa) :=
  pi_weak (pi_enumR hg hm hg2 hm2 ha hs hs2) fun σ H Rk ⟨F0, H0, F, es, st, h⟩ => ⟨F0, H0, F, es, st, po_seq (rel' := fun F' H' (J : It) xs => Src X.K T H0 (Sta T fz F0 H0 F' H') xs J) st h (fun _ _ _ _ _ _ _ z => z) fun r v F1 H1 _ st1 l1 q1 h1 => by
    split at h1
    · rename_i xs hr
      rw [hr, Rq, Rp] at q1
      obtain ⟨a, vs, rfl, h2, h3⟩ := q1
      exact ⟨a, vs, rfl, st1.ok.sub.t h2, h1 _ F1 H1 (Le.refl st1.ok) (src_enumR h2 h3)⟩
    · exact h1.elim⟩
/-- reversed(t) -/
theorem walk_revT {K : PySem.W.Frag} {a : Addr} {xs : List V} : Walk (ItvT K a xs.length) xs.length (fun H => SqT K H a xs) (YAt xs.reverse) where
  goes := fun i H h q => ⟨h, xs, xs[xs.length - 1 - i]'(by omega), q, by simp⟩
  stops := fun H q => Nat.le_refl _
  yields := fun i H x H' h q ⟨e1, e2⟩ => ⟨e1, by rw [rev_at h]; exact e2 xs q⟩
def rvR : R → Option (List R)
  | .val (.tup xs) => some (xs.reverse.map .val)
  | .brw (.tup xs) => some (xs.reverse.map nrm)
  | _ => none
def fRvT (fa : Env → O R) : Env → O (List R) := fun es => (fa es).bind fun r => O.of (rvR r.fz)
theorem src_rvT {K : PySem.W.Frag} {F0 H0 F' H' : Hp} {a : Addr} {xs : List D} {vs : List V} (hs : SqT K F' a vs) (r : RpL K F' xs vs) : Src K T H0 (Sta T fz F0 H0 F' H') (xs.reverse.map .val) (ItvT K a vs.length) := by
  refine ⟨fun H => SqT K H a vs, YAt vs.reverse, by rw [List.length_map, List.length_reverse, r.len]; exact walk_revT, fun F2 H2 s => s.2.ok.sub.t (s.f.t hs), fun i H2 x H3 F2 hi s ⟨e, y⟩ => ?_⟩
  subst e
  obtain ⟨rr, h1, h2⟩ := val_at (T := T) (r.mono s.f).rev y (H0 := H0) (H3 := H3)
  exact ⟨F2, rr, h1, Le.refl s.2.ok, h2⟩
theorem src_rvB {K : PySem.W.Frag} {F0 H0 F' H' : Hp} {a : Addr} {xs : List D} {vs : List V} (ok0 : Ok T F0 H0) (hs : SqT K H0 a vs) (r : RpL K H0 xs vs) : Src K T H0 (Sta T fz F0 H0 F' H') (xs.reverse.map nrm) (ItvT K a vs.length) := by
  refine ⟨fun H => SqT K H a vs, YAt vs.reverse, by rw [List.length_map, List.length_reverse, r.len]; exact walk_revT, fun F2 H2 s => s.2.t ok0.odd hs, fun i H2 x H3 F2 hi s ⟨e, y⟩ => ?_⟩
  subst e
  obtain ⟨rr, h1, h2⟩ := nrm_at (T := T) (F2 := F2) (H3 := H3) r.rev y
  exact ⟨F2, rr, h1, Le.refl s.2.ok, h2⟩
theorem di_rvT {tg e : Expr} {fa : Env → O R} {p pos : Pos} (hm : X.mg "reversed" = none) (ha : DE X T W e fa) (hg : Gl X "reversed" := by rfl) (hs : starEach [e] X.env = (false, eval e X.env) :: starEach [] X.env := by rfl) :
    DI fz X T W tg (.Call (.Name "reversed" p) [e] [] pos) (fRvT fa) :=
  pi_weak (pi_revA hg hm ha hs) fun σ H Rk ⟨F0, H0, F, es, st, h⟩ => ⟨F0, H0, F, es, st, po_seq (rel' := fun F' H' (J : It) xs => Src X.K T H0 (Sta T fz F0 H0 F' H') xs J) st h (fun _ _ _ _ _ _ _ z => z) fun r v F1 H1 _ st1 l1 q1 h1 => by
    cases hr : rvR r.fz with
    | none => rw [hr] at h1; exact h1.elim
    | some xs =>
      rw [hr] at h1
      generalize r.fz = r' at q1 hr
      unfold rvR at hr
      split at hr
      · cases hr
        rw [Rq, Rp] at q1
        obtain ⟨a, vs, rfl, h2, h3⟩ := q1
        exact ⟨a, vs, rfl, .inr ⟨st1.ok.sub.t h2, h1 _ F1 H1 (Le.refl st1.ok) (src_rvT h2 h3)⟩⟩
      · cases hr
        rw [Rq, Rp] at q1
        obtain ⟨a, vs, rfl, h2, h3⟩ := q1
        exact ⟨a, vs, rfl, .inr ⟨st1.up.t h2, h1 _ F1 H1 (Le.refl st1.ok) (src_rvB st1.ok0 h2 h3)⟩⟩
      · cases hr⟩
/-- t[a:b], t a tuple that stands -/
def fSlT (fa : Env → O R) (lo hi : Env → O (Option Int)) : Env → O R := fun es => (fa es).bind fun r => (lo es).bind fun l => (hi es).bind fun h => match r.fz with
  | .val (.tup xs) => .ok (.val (.tup (cutL xs l h)))
  | _ => .no
theorem de_sliceT {e : Expr} {fa : Env → O R} {p2 pos : Pos} {lo hi : Option Expr} {fl fh : Env → O (Option Int)} (ha : DE X T W e fa) (hl : DO X T W lo fl) (hh : DO X T W hi fh) : DE X T W (.Subscript e (.Slice lo hi none p2) pos) (fSlT fa fl fh) :=
  pe_weak (pe_slice sl_tupA ha hl hh) fun σ H Q ⟨F0, H0, F, es, st, h⟩ => by
    refine ⟨F0, H0, F, es, st, pr_seq st h fun r v F1 H1 _ st1 l1 q1 h1 => ?_⟩
    refine ⟨F0, H0, F1, es, st1, po_part st1 h1 fun lo F2 H2 _ st2 l2 h2 => ?_⟩
    refine ⟨F0, H0, F2, es, st2, po_part st2 h2 fun hi F3 H3 _ st3 l3 h3 => ?_⟩
    have q := (q1.step l2).step l3
    split at h3
    · rename_i xs hr
      rw [hr, Rq, Rp] at q
      obtain ⟨a, vs, rfl, g2, g3⟩ := q
      refine ⟨a, vs, rfl, st3.ok.sub.t g2, fun hw => ?_, fun hw p hp => ?_⟩
      · have e : cutL xs lo hi = xs := by
          unfold cutL
          rw [g3.len, hw.1, hw.2, List.drop_zero, Nat.sub_zero, ← g3.len, List.take_length]
        refine h3 _ F3 H3 (Le.refl st3.ok) ?_
        rw [e, Rr, Rp]
        exact ⟨a, vs, rfl, g2, g3⟩
      · exact h3 _ _ _ (Le.new st3.ok hp) (rp_tup (st3.ok.nf hp) (cutL_rp g3 lo hi))
    · exact h3.elim
end
end Fw
namespace Fw
open PySem PySem.Spec PyProof.Rows L2
/-! ### methods whose arguments are kept -/
def fMethF (c : Addr) (m : Str) (g : List D → O R) (fo : Env → O R) (fr : Env → O (List R)) : Env → O R := fun es => (fo es).bind fun r => match r.fz with
  | .val d => if insOf c m d = true then (fr es).bind (fun rs => if rs.all isVal = true then (match g (d :: rs.map R.dat) with
    | .ok (.val d) => .ok (.val d)
    | .ok (.new xs) => .ok (.new xs)
    | _ => .no) else .no) else .no
  | _ => .no
section
variable {X : Cx} {T : Tb} {W : WX} {m : Str} {pos apos : Pos} {e o : Expr} {es : List Expr} {fo : Env → O R} {fr : Env → O (List R)} {g : List D → O R} {c f : Addr} {fd : FuncData} {ps : List Str} {k n : Nat} {CX : CXT}
theorem methF_weak {σ : L2.St} {H : Hp} {Q : VK} (hn : ∀ es rs, fr es = .ok rs → rs.length + 1 = n) (h : tD X.K T W (fMethF c m g fo fr) σ H Q) : tMethE c m (spDF X.K T n g) (WE W) (tD X.K T W fo) (tDA X.K T W fr) σ H Q := by
  obtain ⟨F0, H0, F, es, st, h⟩ := h
  refine ⟨F0, H0, F, es, st, pr_seq st h fun r v F1 H1 _ st1 l1 q1 h1 => ?_⟩
  split at h1
  · rename_i d hr
    rw [hr] at q1
    have rv0 : Rp X.K F1 d v := q1
    split at h1
    · rename_i hi
      have rv : Rp X.K H1 d v := rv0.mono st1.ok.sub
      obtain ⟨a, dx, fs, rfl, g1, g2⟩ := insOf_ok hi rv
      refine ⟨a, dx, fs, rfl, g1, g2, F0, H0, F1, es, st1, pa_seq st1 h1 fun rs vs F2 H2 hrs st2 l2 q2 h2 => ?_⟩
      split at h2
      · rename_i hv
        refine ⟨F2, d :: rs.map R.dat, ?_, st2.ok, RpL.cons (rv0.mono l2.f) (rqlAll hv q2), ?_⟩
        · rw [List.length_cons, ← q2.len]; exact hn es rs hrs
        · cases hg : g (d :: rs.map R.dat) with
          | no => rw [hg] at h2; exact h2
          | exc c fs => rw [hg] at h2; exact h2.elim
          | ok r =>
            rw [hg] at h2
            cases r with
            | val d => exact fun v F' H' l q => h2 v F' H' l q
            | new xs => exact fun v F' H' l q => h2 v F' H' l q
            | brw d => exact h2
            | bor xs => exact h2
      · exact h2.elim
    · exact h1.elim
  · exact h1.elim
theorem de_methF {pl : Sem Bool} (ho : DE X T W o fo) (hc : Cls X.K c) (hm : Meth X.K c m f) (F : FnOk X.prog X.w X.K X.mg X.base CX k f fd ps (spDF X.K T n g)) (hr : Room k X.A) (hb : Binds X.K fd ps []) (hx : ∀ σ, PassesAt CX X σ (WE W σ)) (ha : DA X T W (e :: es) fr) (hn : ∀ es rs, fr es = .ok rs → rs.length + 1 = n)
    (hst : starEach (e :: es) X.env = (false, eval e X.env) :: starEach es X.env := by rfl) (hpl : (backTo pos (starEach es X.env)).any (·.1) = false := by rfl)
    (ht : eval (.Call (.Attribute o m apos) (e :: es) [] pos) X.env = (do let ov ← eval o X.env; standAt apos.atName; let (f, first) ← holding [ov] (getMethod ov m pl); callWith pos f first (backTo pos (starEach (e :: es) X.env)) (backToKw pos (keywordEach [] X.env))) := by rfl) :
    DE X T W (.Call (.Attribute o m apos) (e :: es) [] pos) (fMethF c m g fo fr) := pe_weak (pe_methE (pl := pl) ho hc hm F hr hb hx ha hst hpl ht) fun σ H Q h => methF_weak hn h
theorem de_methF0 {pl : Sem Bool} (ho : DE X T W o fo) (hc : Cls X.K c) (hm : Meth X.K c m f) (F : FnOk X.prog X.w X.K X.mg X.base CX k f fd ps (spDF X.K T 1 g)) (hr : Room k X.A) (hb : Binds X.K fd ps []) (hx : ∀ σ, PassesAt CX X σ (WE W σ))
    (ht : eval (.Call (.Attribute o m apos) [] [] pos) X.env = (do let ov ← eval o X.env; standAt apos.atName; let (f, first) ← holding [ov] (getMethod ov m pl); callWith pos f first (backTo pos (starEach [] X.env)) (backToKw pos (keywordEach [] X.env))) := by rfl) :
    DE X T W (.Call (.Attribute o m apos) [] [] pos) (fMethF c m g fo fNil) := pe_weak (pe_methE0 (pl := pl) ho hc hm F hr hb hx ht) fun σ H Q h => by
  obtain ⟨F0, H0, F, es, st, h⟩ := methF_weak (fr := fNil) (n := 1) (fun es rs e => by cases e; rfl) h
  refine ⟨F0, H0, F, es, st, ?_⟩
  cases ho : fo es with
  | no => rw [ho] at h; exact h
  | exc c fs => rw [ho] at h; exact h
  | ok r =>
    rw [ho] at h
    intro v F' H' l q
    obtain ⟨a, dx, fs, e1, e2, e3, F1, H1, F2, es1, st1, h2⟩ := h v F' H' l q
    exact ⟨a, dx, fs, e1, e2, e3, h2 [] F2 H' (Le.refl st1.ok) rfl⟩
end
/-! ### a tuple of the module -/
section
variable {X : Cx} {T : Tb} {W : WX}
theorem de_gtup {d : D} {x : Str} {pos : Pos} (h : ∃ a, X.mg x = some (.ref a) ∧ ∀ F, Rp X.K F d (.ref a)) (hg : Gl X x := by rfl) (hd : (x == ("__debug__" : Str)) = false := by decide) : DE X T W (.Name x pos) (fC d) := by
  obtain ⟨a, hm, hr⟩ := h
  exact de_glob hg hm (v := .ref a) rfl hr hd
/-- great shifts to the left -/
def shwC (i j : Int) : Bool := decide (0 ≤ j ∧ j ≤ 1000 ∧ i.natAbs < 2 ^ 2000)
def dShlW := i2 shwC fun i j => .int (i * 2 ^ j.toNat)
end
section
variable {K : PySem.W.Frag}
theorem od_shlW {T : Tb} : OpD K T (rI CShl fun i j => .int (i * 2 ^ j.toNat)) dShlW := opd_I (fun i j h => by
  obtain ⟨h0, h1, h2⟩ := of_decide_eq_true h
  obtain ⟨n, rfl⟩ := Int.eq_ofNat_of_zero_le h0
  exact shl_ok h2 (by omega)) fun _ _ _ => by rw [Rp]
theorem sqT_of {F : Hp} {a : Addr} {oc : Value} {od : Option Addr} {its : Array Value} {n : Nat} {sl : Array (Option Value)} {vs : List V} (h : K.lookup a = some ⟨oc, od, .seq its n, sl⟩) (hc : oc = .type "tuple") (hz : its.size ≤ sizeLine) (hv : Vals vs its.toList) : SqT K F a vs :=
  .inr ⟨_, its, n, h, hc, rfl, hz, hv⟩
theorem rp_tup2 {F : Hp} {a : Addr} {oc : Value} {od : Option Addr} {x y : Int} {t u : Tok} {n : Nat} {sl : Array (Option Value)} (h : K.lookup a = some ⟨oc, od, .seq #[.int x t, .int y u] n, sl⟩) (hc : oc = .type "tuple") : Rp K F (.tup [.int x, .int y]) (.ref a) := by
  rw [Rp]
  exact ⟨a, [.int x, .int y], rfl, sqT_of h hc (show (2 : Nat) ≤ sizeLine by decide) (.cons ⟨_, rfl⟩ (.cons ⟨_, rfl⟩ .nil)), RpL.cons (by rw [Rp]) (RpL.cons (by rw [Rp]) RpL.nil)⟩
theorem rp_tupN {F : Hp} {a : Addr} {oc : Value} {od : Option Addr} {its : Array Value} {n : Nat} {sl : Array (Option Value)} {vs : List V} {ds : List D} (h : K.lookup a = some ⟨oc, od, .seq its n, sl⟩) (hc : oc = .type "tuple") (hz : its.size ≤ sizeLine) (hv : Vals vs its.toList) (hr : RpL K F ds vs) : Rp K F (.tup ds) (.ref a) := by
  rw [Rp]
  exact ⟨a, vs, rfl, sqT_of h hc hz hv, hr⟩
end
end Fw
namespace Fw
open PySem PySem.Spec PyProof.Rows L2
open PySem.W (AllAlike Sortable dataLe EachIs alike alikeAll)
/-! ### sorted(xs, reverse=True), pairs of a whole number and a text -/
def rSortRD (K : PySem.W.Frag) : List V → List V → Hp → VK → Prop := fun vs zs H Q => ∃ (a : Addr) (ps : List (PyData × V)), vs = [V.ref a] ∧ zs = [.bl true] ∧ SqL K H a (ps.map (·.2)) ∧ (∀ q ∈ ps, Dp K H q.2 q.1) ∧ AllAlike (ps.map (·.1)) ∧ Sortable (ps.map (·.1)) ∧
  ps.length ≤ 100000 ∧ (∀ q ∈ ps, q.1.depth ≤ 60) ∧ ∀ p, H p = none → Q (.ref p) (upd H p (.lst ((ps.mergeSort (dataLe true (·.1))).map (·.2))))
theorem each_of {X : Cx} {pins : List (Addr × Obj)} {σ : L2.St} {H : Hp} {s : Shared} (I : Inv X pins σ H s) : ∀ {ps : List (PyData × V)} {its : List Value}, Vals (ps.map (·.2)) its → (∀ q ∈ ps, Dp X.K H q.2 q.1) →
    EachIs (fun v (b : PyData × V) => RelV b.2 v) its ps ∧ EachIs (fun v (b : PyData × V) => ∃ as, Reads s.heap v b.1 as) its ps
  | [], its, rv, _ => by cases rv; exact ⟨.nil, .nil⟩
  | q :: ps, its, rv, h => by
    rw [List.map_cons] at rv
    cases rv with
    | cons r rv =>
      obtain ⟨h1, h2⟩ := each_of I rv fun q hq => h q (List.mem_cons_of_mem _ hq)
      obtain ⟨as, hr⟩ := Dp.reads I _ _ _ (h q List.mem_cons_self) r
      exact ⟨.cons r h1, .cons ⟨as, hr⟩ h2⟩
theorem vals_each : ∀ {ps : List (PyData × V)} {out : List Value}, EachIs (fun v (b : PyData × V) => RelV b.2 v) out ps → Vals (ps.map (·.2)) out
  | [], out, h => by cases h; exact .nil
  | q :: ps, out, h => by
    cases h with
    | cons r t => exact .cons r (vals_each t)
theorem cr_sortRD {X : Cx} (hu : X.A.units + 64 < cLine) : CallRK X (.builtin "sorted") [Str.ofString "reverse"] (rSortRD X.K) := by
  intro pins s σ H vs zs us ws Q I r rz h
  obtain ⟨a, ps, rfl, rfl, hs, hd, hal, hk, hn, hdep, q⟩ := h
  obtain ⟨its, rv, hl, hz⟩ := I.list hs
  rw [Vals.ref1 r]
  obtain ⟨w1, rfl, e1⟩ := vals1 rz
  obtain rfl : w1 = Value.bool true := e1
  obtain ⟨e1, e2⟩ := each_of I rv hd
  refine PySem.W.sorted_rev_data (enc := (·.1)) hl.isList e1 e2 hal hk (sz hn) (fun b hb => ?_) fun out ho eo => ?_
  · have := hdep b hb
    omega
  · obtain ⟨ep, he'⟩ := PyProof.Rows.sortedAll_at s.heap its out.toArray
    have hv := vals_each eo
    have hlen : ((ps.mergeSort (dataLe true (·.1))).map (·.2)).length ≤ sizeLine := by
      rw [List.length_map, List.length_mergeSort]; exact sz hn
    exact ⟨.ref _, upd H (s.heap.objs.size + 1) (.lst _), I.laid (t' := s.toks) (fun _ _ => PyProof.Rows.sortedAll_old) (Nat.le_succ _) ⟨hlen, _, ep, hv, he'⟩, rfl, q _ (I.hok.fresh (Nat.le_succ _))⟩
def isPair : D → Bool
  | .tup [.int _, .str _] => true
  | _ => false
def leD (a b : D) : Bool := dataLe true py a b
def dSortR (r : R) : Option R := match r with
  | .val (.lst xs) => if xs.all isPair = true ∧ xs.all (shp 60) = true ∧ xs.length ≤ 90000 then some (.new (xs.mergeSort leD)) else none
  | _ => none
def fSortR (fa : Env → O R) : Env → O R := fun es => (fa es).bind fun r => O.of (dSortR r.fz)
theorem isPair_ok {d : D} (h : isPair d = true) : ∃ i s, d = .tup [.int i, .str s] := by
  unfold isPair at h
  split at h
  · exact ⟨_, _, rfl⟩
  · cases h
theorem pair_depth (i : Int) (s : List Nat) : (py (.tup [.int i, .str s])).depth ≤ 60 := by
  simp [py, pyL, PyData.depth, PyData.depthAll]
theorem pairs_alike (i j : Int) (s t : List Nat) : alike (py (.tup [.int i, .str s])) (py (.tup [.int j, .str t])) = true := by
  simp [py, pyL, alike, alikeAll]
/-- the data beside the values -/
def zipD : List D → List V → List (D × V)
  | d :: ds, v :: vs => (d, v) :: zipD ds vs
  | _, _ => []
theorem zipD_fst {K : PySem.W.Frag} {F : Hp} : ∀ {ds : List D} {vs : List V}, RpL K F ds vs → (zipD ds vs).map (·.1) = ds ∧ (zipD ds vs).map (·.2) = vs ∧ ∀ q ∈ zipD ds vs, Rp K F q.1 q.2
  | [], vs, h => by rw [RpL] at h; subst h; exact ⟨rfl, rfl, fun q hq => by cases hq⟩
  | d :: ds, vs, h => by
    rw [RpL] at h
    obtain ⟨v, r, rfl, h1, h2⟩ := h
    obtain ⟨e1, e2, e3⟩ := zipD_fst h2
    refine ⟨by simp [zipD, e1], by simp [zipD, e2], fun q hq => ?_⟩
    rcases List.mem_cons.mp hq with z | z
    · subst z; exact h1
    · exact e3 q z
theorem rpl_zip {K : PySem.W.Frag} {F : Hp} : ∀ {qs : List (D × V)}, (∀ q ∈ qs, Rp K F q.1 q.2) → RpL K F (qs.map (·.1)) (qs.map (·.2))
  | [], _ => RpL.nil
  | q :: qs, h => RpL.cons (h q List.mem_cons_self) (rpl_zip fun r hr => h r (List.mem_cons_of_mem _ hr))
section
variable {X : Cx} {T : Tb} {W : WX} {e : Expr} {fa : Env → O R} {p p2 pos kpos : Pos} {j : Nat}
theorem de_sortR (hu : X.A.units + 64 < cLine) (hm : X.mg "sorted" = none) (ha : DE X T W e fa) (hg : Gl X "sorted" := by rfl)
    (hs : starEach [e] X.env = (false, eval e X.env) :: starEach [] X.env := by rfl)
    (he : backTo pos (starEach [e] X.env) = (false, eval e X.env) :: backTo pos (starEach [] X.env) := by rfl) (hpl : (backTo pos (starEach [e] X.env)).any (·.1) = false := by rfl)
    (hall : (backToKw pos (keywordEach [⟨some (Str.ofString "reverse"), .Constant (.bool true) j p2, kpos⟩] X.env)).all (·.1.isSome) = true := by rfl) (hnone : (backToKw pos (keywordEach [⟨some (Str.ofString "reverse"), .Constant (.bool true) j p2, kpos⟩] X.env)).any (·.1.isNone) = false := by rfl)
    (hks : (backToKw pos (keywordEach [⟨some (Str.ofString "reverse"), .Constant (.bool true) j p2, kpos⟩] X.env)).filterMap (·.1) = [Str.ofString "reverse"] := by rfl) :
    DE X T W (.Call (.Name "sorted" p) [e] [⟨some (Str.ofString "reverse"), .Constant (.bool true) j p2, kpos⟩] pos) (fSortR fa) :=
  pe_weak (pe_callBK (cr_sortRD hu) hg hm boot_sorted (pa_cons ha pa_nil hs) (pk_cons pe_bl pk_nil) (he := he) (hpl := hpl) (hall := hall) (hnone := hnone) (hks := hks)) fun σ H Q ⟨F0, H0, F, es, st, h⟩ => by
    refine ⟨F0, H0, F, es, st, pr_seq st h fun r v F1 H1 _ st1 l1 q1 h1 => ?_⟩
    cases hd : dSortR r.fz with
    | none => rw [hd] at h1; exact h1.elim
    | some c =>
      rw [hd] at h1
      generalize r.fz = r' at hd q1
      unfold dSortR at hd
      split at hd
      · rename_i xs
        split at hd
        · rename_i hc
          obtain ⟨c1, c2, c3⟩ := hc
          cases hd
          rw [Rq, Rp] at q1
          obtain ⟨a, vs, rfl, g1, g2⟩ := q1
          obtain ⟨e1, e2, e3⟩ := zipD_fst g2
          have hpr : ∀ q ∈ zipD xs vs, isPair q.1 = true := fun q hq => List.all_eq_true.mp c1 _ (by rw [← e1]; exact List.mem_map.mpr ⟨q, hq, rfl⟩)
          have hsh : ∀ q ∈ zipD xs vs, shp 60 q.1 = true := fun q hq => List.all_eq_true.mp c2 _ (by rw [← e1]; exact List.mem_map.mpr ⟨q, hq, rfl⟩)
          refine ⟨a, (zipD xs vs).map fun q => (py q.1, q.2), rfl, rfl, ?_, fun q hq => ?_, fun d hd' d' hd2 => ?_, .inl fun d hd' => ?_, ?_, fun q hq => ?_, fun p hp => ?_⟩
          · rw [List.map_map]
            have : ((fun (x : PyData × V) => x.2) ∘ fun (q : D × V) => (py q.1, q.2)) = fun q => q.2 := rfl
            rw [this, e2]; exact st1.ok.sub.l g1
          · obtain ⟨q0, h0, rfl⟩ := List.mem_map.mp hq
            exact rp_dp 60 q0.1 (hsh q0 h0) ((e3 q0 h0).mono st1.ok.sub)
          · rw [List.map_map] at hd' hd2
            obtain ⟨q0, h0, rfl⟩ := List.mem_map.mp hd'
            obtain ⟨q2, h2, rfl⟩ := List.mem_map.mp hd2
            obtain ⟨i, s, z⟩ := isPair_ok (hpr q0 h0)
            obtain ⟨i2, s2, z2⟩ := isPair_ok (hpr q2 h2)
            show alike (py q0.1) (py q2.1) = true
            rw [z, z2]; exact pairs_alike _ _ _ _
          · rw [List.map_map] at hd'
            obtain ⟨q0, h0, rfl⟩ := List.mem_map.mp hd'
            obtain ⟨i, s, z⟩ := isPair_ok (hpr q0 h0)
            refine ⟨.int i, [.str (tx s)], ?_⟩
            show py q0.1 = _
            rw [z]; simp [py, pyL]
          · rw [List.length_map]
            have : (zipD xs vs).length = xs.length := by
              have := congrArg List.length e1
              simpa using this
            omega
          · obtain ⟨q0, h0, rfl⟩ := List.mem_map.mp hq
            obtain ⟨i, s, z⟩ := isPair_ok (hpr q0 h0)
            show (py q0.1).depth ≤ 60
            rw [z]; exact pair_depth _ _
          · have m1 : (((zipD xs vs).map fun q => (py q.1, q.2)).mergeSort (dataLe true (·.1))) = ((zipD xs vs).mergeSort fun q r => leD q.1 r.1).map fun q => (py q.1, q.2) := by
              exact (List.map_mergeSort (r := fun q r => leD q.1 r.1) (s := dataLe true (·.1)) (f := fun (q : D × V) => (py q.1, q.2)) (l := zipD xs vs) fun q _ r _ => rfl).symm
            have m2 : ((zipD xs vs).mergeSort fun q r => leD q.1 r.1).map (·.1) = xs.mergeSort leD := by
              rw [List.map_mergeSort (s := leD) fun q _ r _ => rfl, e1]
            rw [m1, List.map_map]
            have hr : RpL X.K F1 (xs.mergeSort leD) (((zipD xs vs).mergeSort fun q r => leD q.1 r.1).map (·.2)) := by
              rw [← m2]
              exact rpl_zip fun q hq => e3 q (List.mem_mergeSort.mp hq)
            exact h1 _ F1 _ (Le.newH st1.ok hp) (rr_lst st1.ok hp hr)
        · cases hd
      · cases hd
end
end Fw
namespace K01.N
open PySem PySem.Spec PyProof.Rows L2 Fw
noncomputable section
/- slots: 0 thing, 1 many -/
def b_is_term : Fw.Env → Out := (gSeq (gIf (fOr (fTest (fBin dNis (fBi dType (fCons (fVar 0) fNil)) (fC (.ty "str")))) (fTest (fBin dNe (fBi dLen (fCons (fVar 0) fNil)) (fVar 1)))) (gRet (fC (.bl false))) gNext)
    (gRet (fBin dEq (fM1 dStrip (fVar 0) (fC (.str [45, 48, 49]))) (fC (.str [])))))
def g_is_term : List D → O R := run0 2 (b_is_term)
/- slots: 0 term, 1 mask, 2 lamp, 3 sign, 4 lit -/
def b_mask_had : Fw.Env → Out := (gSeq (gSet 1 true (fC (.int 1)))
    (gSeq (gFor (fEnum true (fCons (fVar 0) fNil)) (.tp [2, 3]) (gSeq (gSet 4 true (fBin dShl (fVar 1) (fBin dShl (fC (.int 1)) (fVar 2))))
    (gIf (fTest (fBin dEq (fVar 3) (fC (.str [49])))) (gSet 1 true (fVar 4)) (gIf (fTest (fBin dEq (fVar 3) (fC (.str [45])))) (gSet 1 true (fBin dOr (fVar 1) (fVar 4))) gNext))))
    (gRetV 1)))
def g_mask_had : List D → O R := run0 5 (b_mask_had)
/- slots: 0 mask, 1 setting -/
def b_settings_in : Fw.Env → Out := (gRet (fLc (fRg1 (fCons (fBits (fVar 0)) fNil)) [1] (.nm 1) (fTest (fBin dEq (fBin dAnd (fBin dShr (fVar 0) (fVar 1)) (fC (.int 1))) (fC (.int 1)))) (fVar 1)))
def g_settings_in : List D → O R := run0 2 (b_settings_in)
/- slots: 0 term -/
def b_settings_of : Fw.Env → Out := (gRet (fCall0 (g_settings_in) (fCons (fCall0 (g_mask_had) (fCons (fVar 0) fNil)) fNil)))
def g_settings_of : List D → O R := run0 1 (b_settings_of)
/- slots: 0 _law_term, 1 _law_draw_here, 2 _law_one, 3 _law_settings, 4 _law_found, 5 _law_turn, 6 _law_lamp -/
def b_law_term_right : Fw.Env → Out := (gSeq (gSet 3 true (fLc (fRg1 (fCons (fBin dShl (fC (.int 1)) (fBi dLen (fCons (fVar 0) fNil))) fNil)) [2] (.nm 2) (fTest (fCall0 (g_law_agrees) (fCons (fVar 0) (fCons (fVar 2) fNil)))) (fVar 2)))
    (gSeq (gFor (fRg1 (fCons (fBin dShl (fC (.int 1)) (fBi dLen (fCons (fVar 0) fNil))) fNil)) (.nm 2) (gSeq (gSet 4 false (fCall0 (g_has) (fCons (fVar 0) (fCons (fVar 2) fNil))))
    (gIf (fOr (fNot (fTest (fBi dIsi (fCons (fVar 4) (fCons (fC (.ty "bool")) fNil))))) (fTest (fBin dNe (fVar 4) (fBin dIn (fVar 2) (fVar 3))))) (gRet (fC (.bl false))) gNext)))
    (gSeq (gFor (fRg1 (fCons (fC (.int 2)) fNil)) (.nm 5) (gSeq (gSet 4 false (fCall0 (g_settings_of) (fCons (fVar 0) fNil)))
    (gSeq (gIf (fTest (fBin dNe (fVar 4) (fVar 3))) (gRet (fC (.bl false))) gNext)
    (gApp 4 (fC .non)))))
    (gSeq (gFor (fRg1 (fCons (fBi dLen (fCons (fVar 0) fNil)) fNil)) (.nm 6) (gIf (fTest (fBin dNe (fCall0 (g_freed) (fCons (fVar 0) (fCons (fVar 6) fNil))) (fBin dAdd (fBin dAdd (fSl (fVar 0) fNoPart (fPart (fVar 6))) (fC (.str [45]))) (fSl (fVar 0) (fPart (fBin dAdd (fVar 6) (fC (.int 1)))) fNoPart)))) (gRet (fC (.bl false))) gNext))
    (gRet (fAndV (fBin dIs (fCall0 (g_is_term) (fCons (fVar 0) (fCons (fBi dLen (fCons (fVar 0) fNil)) fNil))) (fC (.bl true))) (fBin dIs (fCall0 (g_is_term) (fCons (fCall0 (g_law_odd) (fCons (fVar 0) (fCons (fVar 1) fNil))) (fCons (fBi dLen (fCons (fVar 0) fNil)) fNil))) (fC (.bl false)))))))))
def g_law_term_right : List D → O R := run0 7 (b_law_term_right)
/- slots: 0 _law_script, 1 _law_k, 2 _law_cell, 3 _law_draw_here, 4 _law_term, 5 _law_other, 6 _law_due -/
def b_law : Fw.Env → Out := (gSeq (gFor (fEnum true (fCons (fBin dAdd (fVar 0) (fLst (fCons (fC (.int 0)) fNil))) fNil)) (.tp [1, 2]) (gSeq (gSet 3 true (fCall0 (g_law_spread) (fCons (fVar 2) (fCons (fBin dMod (fVar 1) (fC (.int 60))) fNil))))
    (gSeq (gAsg (.tp [4, 5]) (fCall0 (g_law_pair) (fCons (fVar 2) (fCons (fBin dMod (fVar 1) (fC (.int 60))) fNil))))
    (gSeq (gIf (fOr (fNot (fTest (fCall0 (g_law_term_right) (fCons (fVar 4) (fCons (fBin dDiv (fVar 3) (fC (.int 7))) fNil))))) (fNot (fTest (fCall0 (g_law_term_right) (fCons (fVar 5) (fCons (fBin dDiv (fVar 3) (fC (.int 13))) fNil)))))) (gRet (fC (.bl false))) gNext)
    (gSeq (gSet 6 true (fCall0 (g_law_joined) (fCons (fVar 4) (fCons (fVar 5) fNil))))
    (gIf (fOr (fTest (fBin dNe (fCall0 (g_laid) (fCons (fVar 4) (fCons (fVar 5) fNil))) (fVar 6))) (fTest (fBin dNe (fCall0 (g_laid) (fCons (fVar 5) (fCons (fVar 4) fNil))) (fVar 6)))) (gRet (fC (.bl false))) gNext))))))
    (gRet (fC (.bl true))))
def g_law : List D → O R := run0 7 (b_law)
end
end K01.N
namespace K01.N
open PySem PySem.Spec PyProof.Rows L2 Fw
section
variable {P : Program} {w : World} {K : PySem.W.Frag} {mg : Str → Option Value} {base : Heap} {T : Tb}
theorem ok_law_joined {f_law_joined : Addr} {fd_law_joined : FuncData} (D_law_joined : Def K mg "_law_joined" s_law_joined P_law_joined f_law_joined fd_law_joined) (z_len : mg "len" = none) (z_range : mg "range" = none) (z_sorted : mg "sorted" = none) :
    FnOk P w K mg base CX0 1 f_law_joined fd_law_joined P_law_joined (spD K T 2 (g_law_joined)) :=
  def_ok0 D_law_joined sc_law_joined (b_law_joined) fun cdv A outer s H E hr =>
      (dss_cons (ds_setLc (i := 2) (fz := true) (own := [("_law_lamp", 3)]) (t := (.nm 3)) sc_law_joined.nd (di_range1 z_range (da_cons (de_bi call_len cd_len z_len boot_len (da_cons (de_var 0) da_nil)) da_nil)) (blkOk_by (N := N_law_joined) (sc := defScope s_law_joined) (by decide +kernel)) (fun _ _ _ _ _ => (pgN 3 sc_law_joined.nd)) (fun _ _ _ _ _ => (dts_one (dt_cmp (op_neD (hq hr)) od_ne (de_ix ix_seq od_ix (de_var 0) (de_var 3)) (de_ix ix_seq od_ix (de_var 1) (de_var 3))))) (fun _ _ _ _ _ => (de_var 3)))
      (dss_cons (ds_if (dt_w (dw_or (dt_cmp (op_neD (hq hr)) od_ne (de_bi call_len cd_len z_len boot_len (da_cons (de_var 2) da_nil)) de_int) (dw_or1 (dt_cmp (op_neD (hq hr)) od_ne (de_bi cr_sortedA cd_sorted z_sorted boot_sorted (da_cons (de_lst (da_cons (de_ix ix_seq od_ix (de_var 0) (de_ix ix_seq od_ix (de_var 2) de_int)) (da_cons (de_ix ix_seq od_ix (de_var 1) (de_ix ix_seq od_ix (de_var 2) de_int)) da_nil))) da_nil)) (de_lst (da_cons (de_str [48]) (da_cons (de_str [49]) da_nil))))))) (dss_one (ds_ret de_non)) dss_nil)
      (dss_one (ds_ret (de_bin op_addA od_add (de_bin op_addA od_add (de_slice (de_var 0) do_none (do_some (de_ix ix_seq od_ix (de_var 2) de_int))) (de_str [45])) (de_slice (de_var 0) (do_some (de_bin op_addA od_add (de_ix ix_seq od_ix (de_var 2) de_int) de_int)) do_none))))))
theorem ok_law_spread {f_law_spread : Addr} {fd_law_spread : FuncData} (D_law_spread : Def K mg "_law_spread" s_law_spread P_law_spread f_law_spread fd_law_spread) :
    FnOk P w K mg base CX0 1 f_law_spread fd_law_spread P_law_spread (spD K T 2 (g_law_spread)) :=
  def_ok0 D_law_spread sc_law_spread (b_law_spread) fun cdv A outer s H E hr =>
      (dss_one (ds_ret (de_bin op_mod od_mod (de_bin op_mulA od_mulA (de_bin op_addA od_add (de_var 0) de_int) (de_bin op_addA od_add (de_bin op_addA od_add de_int (de_bin op_mulA od_mulA (de_bin op_mulA od_mulA de_int (de_var 1)) (de_var 1))) (de_var 1))) de_int)))
theorem ok_law_bent {f_law_bent : Addr} {fd_law_bent : FuncData} (D_law_bent : Def K mg "_law_bent" s_law_bent P_law_bent f_law_bent fd_law_bent) {f_law_spread : Addr} {fd_law_spread : FuncData} (D_law_spread : Def K mg "_law_spread" s_law_spread P_law_spread f_law_spread fd_law_spread) (G_law_spread : FnOk P w K mg base CX0 1 f_law_spread fd_law_spread P_law_spread (spD K T 2 (g_law_spread))) (z_len : mg "len" = none) (z_range : mg "range" = none) :
    FnOk P w K mg base CX0 2 f_law_bent fd_law_bent P_law_bent (spD K T 2 (g_law_bent)) :=
  def_ok0 D_law_bent sc_law_bent (b_law_bent) fun cdv A outer s H E hr =>
      (dss_cons (ds_for (t := (.nm 2)) (di_range1 z_range (da_cons (de_bin op_mod od_mod (de_var 1) de_int) da_nil)) (pgN 2 sc_law_bent.nd) (dss_cons (ds_set (i := 3) (fz := true) sc_law_bent.nd (de_call G_law_spread pass0 (hr.mono (by decide)) D_law_spread.at_ D_law_spread.fn.kp D_law_spread.bd (da_cons (de_var 1) (da_cons (de_var 2) da_nil)) (fCons_len (fCons_len fNil_len))))
      (dss_cons (ds_set (i := 4) (fz := true) sc_law_bent.nd (de_bin op_mod od_mod (de_var 3) (de_bi call_len cd_len z_len boot_len (da_cons (de_var 0) da_nil))))
      (dss_one (ds_set (i := 0) (fz := true) sc_law_bent.nd (de_bin op_addA od_add (de_bin op_addA od_add (de_slice (de_var 0) do_none (do_some (de_var 4))) (de_ix ix_seq od_ix (de_str [48, 49, 45]) (de_bin op_mod od_mod (de_bin op_fdiv od_div (de_var 3) de_int) de_int))) (de_slice (de_var 0) (do_some (de_bin op_addA od_add (de_var 4) de_int)) do_none)))))) PassesOwn.never)
      (dss_one (ds_retV 0)))
theorem ok_law_pair {f_law_pair : Addr} {fd_law_pair : FuncData} (D_law_pair : Def K mg "_law_pair" s_law_pair P_law_pair f_law_pair fd_law_pair) {f_law_bent : Addr} {fd_law_bent : FuncData} (D_law_bent : Def K mg "_law_bent" s_law_bent P_law_bent f_law_bent fd_law_bent) {f_law_spread : Addr} {fd_law_spread : FuncData} (D_law_spread : Def K mg "_law_spread" s_law_spread P_law_spread f_law_spread fd_law_spread) (G_law_bent : FnOk P w K mg base CX0 2 f_law_bent fd_law_bent P_law_bent (spD K T 2 (g_law_bent))) (G_law_spread : FnOk P w K mg base CX0 1 f_law_spread fd_law_spread P_law_spread (spD K T 2 (g_law_spread))) (z_range : mg "range" = none) :
    FnOk P w K mg base CX0 3 f_law_pair fd_law_pair P_law_pair (spD K T 2 (g_law_pair)) :=
  def_ok0 D_law_pair sc_law_pair (b_law_pair) fun cdv A outer s H E hr =>
      (dss_cons (ds_set (i := 2) (fz := true) sc_law_pair.nd (de_call G_law_spread pass0 (hr.mono (by decide)) D_law_spread.at_ D_law_spread.fn.kp D_law_spread.bd (da_cons (de_var 0) (da_cons (de_var 1) da_nil)) (fCons_len (fCons_len fNil_len))))
      (dss_cons (ds_set (i := 3) (fz := true) sc_law_pair.nd (de_if (dt_cmp (op_eqD (hq hr)) od_eq (de_bin op_mod od_mod (de_var 0) de_int) de_int) (de_bin op_fdiv od_div (de_var 0) de_int) (de_var 2)))
      (dss_cons (ds_set (i := 4) (fz := true) sc_law_pair.nd (de_bin op_addA od_add de_int (de_bin op_mod od_mod (de_var 3) de_int)))
      (dss_cons (ds_if (dt_cmp (op_eqD (hq hr)) od_eq (de_bin op_mod od_mod (de_var 0) de_int) de_int) (dss_cons (ds_set (i := 5) (fz := true) sc_law_pair.nd (de_join (de_str []) (de_lc (own := [("_law_lamp", 8)]) (t := (.nm 8)) sc_law_pair.nd (di_range1 z_range (da_cons (de_var 4) da_nil)) (blkOk_by (N := N_law_pair) (sc := defScope s_law_pair) (by decide +kernel)) (fun _ _ _ _ _ => (pgN 8 sc_law_pair.nd)) (fun _ _ _ _ _ => dts_nil) (fun _ _ _ _ _ => (de_ix ix_seq od_ix (de_str [48, 49, 45]) (de_bin op_mod od_mod (de_bin op_fdiv od_div (de_call G_law_spread pass0 (hr.mono (by decide)) D_law_spread.at_ D_law_spread.fn.kp D_law_spread.bd (da_cons (de_var 2) (da_cons (de_var 8) da_nil)) (fCons_len (fCons_len fNil_len))) de_int) de_int))))))
      (dss_one (ds_ret (de_tup (da_cons (de_var 5) (da_cons (de_call G_law_bent pass0 (hr.mono (by decide)) D_law_bent.at_ D_law_bent.fn.kp D_law_bent.bd (da_cons (de_var 5) (da_cons (de_bin op_fdiv od_div (de_var 2) de_int) da_nil)) (fCons_len (fCons_len fNil_len))) da_nil)))))) dss_nil)
      (dss_cons (ds_set (i := 3) (fz := true) sc_law_pair.nd (de_bin op_fdiv od_div (de_var 3) de_int))
      (dss_cons (ds_set (i := 6) (fz := true) sc_law_pair.nd (de_str []))
      (dss_cons (ds_for (t := (.nm 7)) (di_range1 z_range (da_cons (de_bin op_mulA od_mulA de_int (de_var 4)) da_nil)) (pgN 7 sc_law_pair.nd) (dss_cons (ds_set (i := 6) (fz := true) sc_law_pair.nd (de_bin op_addA od_add (de_var 6) (de_ix ix_seq od_ix (de_str [48, 49, 45]) (de_bin op_mod od_mod (de_var 3) de_int))))
      (dss_one (ds_set (i := 3) (fz := true) sc_law_pair.nd (de_bin op_fdiv od_div (de_var 3) de_int)))) PassesOwn.never)
      (dss_one (ds_ret (de_tup (da_cons (de_slice (de_var 6) do_none (do_some (de_var 4))) (da_cons (de_slice (de_var 6) (do_some (de_var 4)) do_none) da_nil))))))))))))
theorem ok_law_agrees {f_law_agrees : Addr} {fd_law_agrees : FuncData} (D_law_agrees : Def K mg "_law_agrees" s_law_agrees P_law_agrees f_law_agrees fd_law_agrees) (z_enumerate : mg "enumerate" = none) (z_int : mg "int" = none) :
    FnOk P w K mg base CX0 1 f_law_agrees fd_law_agrees P_law_agrees (spD K T 2 (g_law_agrees)) :=
  def_ok0 D_law_agrees sc_law_agrees (b_law_agrees) fun cdv A outer s H E hr =>
      (dss_cons (ds_for (t := (.tp [2, 3])) (di_enum z_enumerate (da_cons (de_var 0) da_nil)) (pgT (pgs1 (pgN 2 sc_law_agrees.nd) (pgs1 (pgN 3 sc_law_agrees.nd) pgs0))) (dss_one (ds_if (dt_w (dw_and (dt_cmp (op_neD (hq hr)) od_ne (de_var 3) (de_str [45])) (dw_and1 (dt_cmp (op_neD (hq hr)) od_ne (de_biT call_intA cd_int z_int boot_int (da_cons (de_var 3) da_nil)) (de_bin op_and od_and (de_bin op_shr od_shr (de_var 1) (de_var 2)) de_int))))) (dss_one (ds_ret de_bl)) dss_nil)) PassesOwn.never)
      (dss_one (ds_ret de_bl)))
theorem ok_law_odd {f_law_odd : Addr} {fd_law_odd : FuncData} (D_law_odd : Def K mg "_law_odd" s_law_odd P_law_odd f_law_odd fd_law_odd) (z_len : mg "len" = none) (z_list : mg "list" = none) :
    FnOk P w K mg base CX0 1 f_law_odd fd_law_odd P_law_odd (spD K T 2 (g_law_odd)) :=
  def_ok0 D_law_odd sc_law_odd (b_law_odd) fun cdv A outer s H E hr =>
      (dss_cons (ds_set (i := 2) (fz := true) sc_law_odd.nd (de_bin op_mod od_mod (de_var 1) (de_bi call_len cd_len z_len boot_len (da_cons (de_var 0) da_nil))))
      (dss_cons (ds_set (i := 3) (fz := true) sc_law_odd.nd (de_lst (da_cons (de_bin op_addA od_add (de_var 0) (de_str [48])) (da_cons (de_slice (de_var 0) (do_some de_int) do_none) (da_cons (de_bin op_addA od_add (de_bin op_addA od_add (de_slice (de_var 0) do_none (do_some (de_var 2))) (de_str [50])) (de_slice (de_var 0) (do_some (de_bin op_addA od_add (de_var 2) de_int)) do_none)) (da_cons (de_bin op_addA od_add (de_bin op_addA od_add (de_slice (de_var 0) do_none (do_some (de_var 2))) (de_str [32])) (de_slice (de_var 0) (do_some (de_bin op_addA od_add (de_var 2) de_int)) do_none)) (da_cons de_non (da_cons de_int (da_cons (de_lst (da_cons (de_var 0) da_nil)) da_nil)))))))))
      (dss_one (ds_ret (de_ix ix_seq od_ix (de_bin op_addA od_add (de_var 3) (de_lst (da_cons (de_biT (call_listA rfl) cd_list z_list boot_list (da_cons (de_var 0) da_nil)) (da_cons de_bl (da_cons (de_bin op_addA od_add (de_var 0) (de_str [10])) (da_cons (de_str []) (da_cons (de_tup (da_cons (de_var 0) da_nil)) (da_cons (de_bin op_addA od_add (de_bin op_addA od_add (de_slice (de_var 0) do_none (do_some (de_var 2))) (de_str [111])) (de_slice (de_var 0) (do_some (de_bin op_addA od_add (de_var 2) de_int)) do_none)) da_nil)))))))) (de_bin op_mod od_mod (de_bin op_fdiv od_div (de_var 1) de_int) de_int))))))
theorem ok_freed {f_freed : Addr} {fd_freed : FuncData} (D_freed : Def K mg "freed" s_freed P_freed f_freed fd_freed) (c_EITHER : ∃ t, mg "EITHER" = some (.str (tx [45]) t)) :
    FnOk P w K mg base CX0 1 f_freed fd_freed P_freed (spD K T 2 (g_freed)) :=
  def_ok0 D_freed sc_freed (b_freed) fun cdv A outer s H E hr =>
      (dss_one (ds_ret (de_bin op_addA od_add (de_bin op_addA od_add (de_slice (de_var 0) do_none (do_some (de_var 1))) (de_gstr [45] c_EITHER)) (de_slice (de_var 0) (do_some (de_bin op_addA od_add (de_var 1) de_int)) do_none))))
theorem ok_is_lit {f_is_lit : Addr} {fd_is_lit : FuncData} (D_is_lit : Def K mg "is_lit" s_is_lit P_is_lit f_is_lit fd_is_lit) :
    FnOk P w K mg base CX0 1 f_is_lit fd_is_lit P_is_lit (spD K T 2 (g_is_lit)) :=
  def_ok0 D_is_lit sc_is_lit (b_is_lit) fun cdv A outer s H E hr =>
      (dss_one (ds_ret (de_cmp (op_eqD (hq hr)) od_eq (de_bin op_and od_and (de_bin op_shr od_shr (de_var 0) (de_var 1)) de_int) de_int)))
theorem ok_sign_at {f_sign_at : Addr} {fd_sign_at : FuncData} (D_sign_at : Def K mg "sign_at" s_sign_at P_sign_at f_sign_at fd_sign_at) {f_is_lit : Addr} {fd_is_lit : FuncData} (D_is_lit : Def K mg "is_lit" s_is_lit P_is_lit f_is_lit fd_is_lit) (G_is_lit : FnOk P w K mg base CX0 1 f_is_lit fd_is_lit P_is_lit (spD K T 2 (g_is_lit))) (c_DARK : ∃ t, mg "DARK" = some (.str (tx [48]) t)) (c_LIT : ∃ t, mg "LIT" = some (.str (tx [49]) t)) :
    FnOk P w K mg base CX0 2 f_sign_at fd_sign_at P_sign_at (spD K T 2 (g_sign_at)) :=
  def_ok0 D_sign_at sc_sign_at (b_sign_at) fun cdv A outer s H E hr =>
      (dss_one (ds_ret (de_if (dt_val (de_call G_is_lit pass0 (hr.mono (by decide)) D_is_lit.at_ D_is_lit.fn.kp D_is_lit.bd (da_cons (de_var 0) (da_cons (de_var 1) da_nil)) (fCons_len (fCons_len fNil_len)))) (de_gstr [49] c_LIT) (de_gstr [48] c_DARK))))
theorem ok_has {f_has : Addr} {fd_has : FuncData} (D_has : Def K mg "has" s_has P_has f_has fd_has) {f_sign_at : Addr} {fd_sign_at : FuncData} (D_sign_at : Def K mg "sign_at" s_sign_at P_sign_at f_sign_at fd_sign_at) (G_sign_at : FnOk P w K mg base CX0 2 f_sign_at fd_sign_at P_sign_at (spD K T 2 (g_sign_at))) (z_enumerate : mg "enumerate" = none) (c_EITHER : ∃ t, mg "EITHER" = some (.str (tx [45]) t)) :
    FnOk P w K mg base CX0 3 f_has fd_has P_has (spD K T 2 (g_has)) :=
  def_ok0 D_has sc_has (b_has) fun cdv A outer s H E hr =>
      (dss_cons (ds_for (t := (.tp [2, 3])) (di_enum z_enumerate (da_cons (de_var 0) da_nil)) (pgT (pgs1 (pgN 2 sc_has.nd) (pgs1 (pgN 3 sc_has.nd) pgs0))) (dss_one (ds_if (dt_w (dw_and (dt_cmp (op_neD (hq hr)) od_ne (de_var 3) (de_gstr [45] c_EITHER)) (dw_and1 (dt_cmp (op_neD (hq hr)) od_ne (de_var 3) (de_call G_sign_at pass0 (hr.mono (by decide)) D_sign_at.at_ D_sign_at.fn.kp D_sign_at.bd (da_cons (de_var 1) (da_cons (de_var 2) da_nil)) (fCons_len (fCons_len fNil_len))))))) (dss_one (ds_ret de_bl)) dss_nil)) PassesOwn.never)
      (dss_one (ds_ret de_bl)))
theorem ok_is_term {f_is_term : Addr} {fd_is_term : FuncData} (D_is_term : Def K mg "is_term" s_is_term P_is_term f_is_term fd_is_term) (z_len : mg "len" = none) (z_str : mg "str" = none) (z_type : mg "type" = none) (c_SIGNS : ∃ t, mg "SIGNS" = some (.str (tx [45, 48, 49]) t)) :
    FnOk P w K mg base CX0 1 f_is_term fd_is_term P_is_term (spD K T 2 (g_is_term)) :=
  def_ok0 D_is_term sc_is_term (b_is_term) fun cdv A outer s H E hr =>
      (dss_cons (ds_if (dt_w (dw_or (dt_cmp op_nisA od_nis (de_biT call_type1 cd_type z_type boot_type (da_cons (de_var 0) da_nil)) (de_bltn z_str boot_str)) (dw_or1 (dt_cmp (op_neD (hq hr)) od_ne (de_bi call_len cd_len z_len boot_len (da_cons (de_var 0) da_nil)) (de_var 1))))) (dss_one (ds_ret de_bl)) dss_nil)
      (dss_one (ds_ret (de_cmp (op_eqD (hq hr)) od_eq (de_strip (de_var 0) (de_gstr [45, 48, 49] c_SIGNS)) (de_str [])))))
theorem ok_mask_had {f_mask_had : Addr} {fd_mask_had : FuncData} (D_mask_had : Def K mg "mask_had" s_mask_had P_mask_had f_mask_had fd_mask_had) (z_enumerate : mg "enumerate" = none) (c_EITHER : ∃ t, mg "EITHER" = some (.str (tx [45]) t)) (c_LIT : ∃ t, mg "LIT" = some (.str (tx [49]) t)) :
    FnOk P w K mg base CX0 1 f_mask_had fd_mask_had P_mask_had (spD K T 1 (g_mask_had)) :=
  def_ok0 D_mask_had sc_mask_had (b_mask_had) fun cdv A outer s H E hr =>
      (dss_cons (ds_set (i := 1) (fz := true) sc_mask_had.nd de_int)
      (dss_cons (ds_for (t := (.tp [2, 3])) (di_enum z_enumerate (da_cons (de_var 0) da_nil)) (pgT (pgs1 (pgN 2 sc_mask_had.nd) (pgs1 (pgN 3 sc_mask_had.nd) pgs0))) (dss_cons (ds_set (i := 4) (fz := true) sc_mask_had.nd (de_bin op_shl od_shl (de_var 1) (de_bin op_shl od_shl de_int (de_var 2))))
      (dss_one (ds_if (dt_cmp (op_eqD (hq hr)) od_eq (de_var 3) (de_gstr [49] c_LIT)) (dss_one (ds_set (i := 1) (fz := true) sc_mask_had.nd (de_var 4))) (dss_one (ds_if (dt_cmp (op_eqD (hq hr)) od_eq (de_var 3) (de_gstr [45] c_EITHER)) (dss_one (ds_set (i := 1) (fz := true) sc_mask_had.nd (de_bin op_or od_or (de_var 1) (de_var 4)))) dss_nil))))) PassesOwn.never)
      (dss_one (ds_retV 1))))
theorem ok_settings_in {f_settings_in : Addr} {fd_settings_in : FuncData} (D_settings_in : Def K mg "settings_in" s_settings_in P_settings_in f_settings_in fd_settings_in) (z_range : mg "range" = none) :
    FnOk P w K mg base CX0 1 f_settings_in fd_settings_in P_settings_in (spD K T 1 (g_settings_in)) :=
  def_ok0 D_settings_in sc_settings_in (b_settings_in) fun cdv A outer s H E hr =>
      (dss_one (ds_ret (de_lc (own := [("setting", 1)]) (t := (.nm 1)) sc_settings_in.nd (di_range1 z_range (da_cons (de_bits (de_var 0)) da_nil)) (blkOk_by (N := N_settings_in) (sc := defScope s_settings_in) (by decide +kernel)) (fun _ _ _ _ _ => (pgN 1 sc_settings_in.nd)) (fun _ _ _ _ _ => (dts_one (dt_cmp (op_eqD (hq hr)) od_eq (de_bin op_and od_and (de_bin op_shr od_shr (de_var 0) (de_var 1)) de_int) de_int))) (fun _ _ _ _ _ => (de_var 1)))))
theorem ok_settings_of {f_settings_of : Addr} {fd_settings_of : FuncData} (D_settings_of : Def K mg "settings_of" s_settings_of P_settings_of f_settings_of fd_settings_of) {f_mask_had : Addr} {fd_mask_had : FuncData} (D_mask_had : Def K mg "mask_had" s_mask_had P_mask_had f_mask_had fd_mask_had) {f_settings_in : Addr} {fd_settings_in : FuncData} (D_settings_in : Def K mg "settings_in" s_settings_in P_settings_in f_settings_in fd_settings_in) (G_mask_had : FnOk P w K mg base CX0 1 f_mask_had fd_mask_had P_mask_had (spD K T 1 (g_mask_had))) (G_settings_in : FnOk P w K mg base CX0 1 f_settings_in fd_settings_in P_settings_in (spD K T 1 (g_settings_in))) :
    FnOk P w K mg base CX0 2 f_settings_of fd_settings_of P_settings_of (spD K T 1 (g_settings_of)) :=
  def_ok0 D_settings_of sc_settings_of (b_settings_of) fun cdv A outer s H E hr =>
      (dss_one (ds_ret (de_call G_settings_in pass0 (hr.mono (by decide)) D_settings_in.at_ D_settings_in.fn.kp D_settings_in.bd (da_cons (de_call G_mask_had pass0 (hr.mono (by decide)) D_mask_had.at_ D_mask_had.fn.kp D_mask_had.bd (da_cons (de_var 0) da_nil) (fCons_len fNil_len)) da_nil) (fCons_len fNil_len))))
theorem ok_law_term_right {f_law_term_right : Addr} {fd_law_term_right : FuncData} (D_law_term_right : Def K mg "_law_term_right" s_law_term_right P_law_term_right f_law_term_right fd_law_term_right) {f_law_agrees : Addr} {fd_law_agrees : FuncData} (D_law_agrees : Def K mg "_law_agrees" s_law_agrees P_law_agrees f_law_agrees fd_law_agrees) {f_law_odd : Addr} {fd_law_odd : FuncData} (D_law_odd : Def K mg "_law_odd" s_law_odd P_law_odd f_law_odd fd_law_odd) {f_freed : Addr} {fd_freed : FuncData} (D_freed : Def K mg "freed" s_freed P_freed f_freed fd_freed) {f_has : Addr} {fd_has : FuncData} (D_has : Def K mg "has" s_has P_has f_has fd_has) {f_is_term : Addr} {fd_is_term : FuncData} (D_is_term : Def K mg "is_term" s_is_term P_is_term f_is_term fd_is_term) {f_settings_of : Addr} {fd_settings_of : FuncData} (D_settings_of : Def K mg "settings_of" s_settings_of P_settings_of f_settings_of fd_settings_of) (G_law_agrees : FnOk P w K mg base CX0 1 f_law_agrees fd_law_agrees P_law_agrees (spD K T 2 (g_law_agrees))) (G_law_odd : FnOk P w K mg base CX0 1 f_law_odd fd_law_odd P_law_odd (spD K T 2 (g_law_odd))) (G_freed : FnOk P w K mg base CX0 1 f_freed fd_freed P_freed (spD K T 2 (g_freed))) (G_has : FnOk P w K mg base CX0 3 f_has fd_has P_has (spD K T 2 (g_has))) (G_is_term : FnOk P w K mg base CX0 1 f_is_term fd_is_term P_is_term (spD K T 2 (g_is_term))) (G_settings_of : FnOk P w K mg base CX0 2 f_settings_of fd_settings_of P_settings_of (spD K T 1 (g_settings_of))) (z_bool : mg "bool" = none) (z_isinstance : mg "isinstance" = none) (z_len : mg "len" = none) (z_range : mg "range" = none) :
    FnOk P w K mg base CX0 4 f_law_term_right fd_law_term_right P_law_term_right (spD K T 2 (g_law_term_right)) :=
  def_ok0 D_law_term_right sc_law_term_right (b_law_term_right) fun cdv A outer s H E hr =>
      (dss_cons (ds_setLc (i := 3) (fz := true) (own := [("_law_one", 2)]) (t := (.nm 2)) sc_law_term_right.nd (di_range1 z_range (da_cons (de_bin op_shl od_shl de_int (de_bi call_len cd_len z_len boot_len (da_cons (de_var 0) da_nil))) da_nil)) (blkOk_by (N := N_law_term_right) (sc := defScope s_law_term_right) (by decide +kernel)) (fun _ _ _ _ _ => (pgN 2 sc_law_term_right.nd)) (fun _ _ _ _ _ => (dts_one (dt_val (de_call G_law_agrees pass0 (hr.mono (by decide)) D_law_agrees.at_ D_law_agrees.fn.kp D_law_agrees.bd (da_cons (de_var 0) (da_cons (de_var 2) da_nil)) (fCons_len (fCons_len fNil_len)))))) (fun _ _ _ _ _ => (de_var 2)))
      (dss_cons (ds_for (t := (.nm 2)) (di_range1 z_range (da_cons (de_bin op_shl od_shl de_int (de_bi call_len cd_len z_len boot_len (da_cons (de_var 0) da_nil))) da_nil)) (pgN 2 sc_law_term_right.nd) (dss_cons (ds_set (i := 4) (fz := false) sc_law_term_right.nd (de_call G_has pass0 (hr.mono (by decide)) D_has.at_ D_has.fn.kp D_has.bd (da_cons (de_var 0) (da_cons (de_var 2) da_nil)) (fCons_len (fCons_len fNil_len))))
      (dss_one (ds_if (dt_w (dw_or (dt_not (dt_val (de_bi call_isi cd_isi z_isinstance boot_isinstance (da_cons (de_var 4) (da_cons (de_bltn z_bool boot_bool) da_nil))))) (dw_or1 (dt_cmp (op_neD (hq hr)) od_ne (de_var 4) (de_cmp op_in_seq od_in (de_var 2) (de_var 3)))))) (dss_one (ds_ret de_bl)) dss_nil))) PassesOwn.never)
      (dss_cons (ds_for (t := (.nm 5)) (di_range1 z_range (da_cons de_int da_nil)) (pgN 5 sc_law_term_right.nd) (dss_cons (ds_set (i := 4) (fz := false) sc_law_term_right.nd (de_call G_settings_of pass0 (hr.mono (by decide)) D_settings_of.at_ D_settings_of.fn.kp D_settings_of.bd (da_cons (de_var 0) da_nil) (fCons_len fNil_len)))
      (dss_cons (ds_if (dt_cmp (op_neD (hq hr)) od_ne (de_var 4) (de_var 3)) (dss_one (ds_ret de_bl)) dss_nil)
      (dss_one (ds_app 4 de_non)))) PassesOwn.never)
      (dss_cons (ds_for (t := (.nm 6)) (di_range1 z_range (da_cons (de_bi call_len cd_len z_len boot_len (da_cons (de_var 0) da_nil)) da_nil)) (pgN 6 sc_law_term_right.nd) (dss_one (ds_if (dt_cmp (op_neD (hq hr)) od_ne (de_call G_freed pass0 (hr.mono (by decide)) D_freed.at_ D_freed.fn.kp D_freed.bd (da_cons (de_var 0) (da_cons (de_var 6) da_nil)) (fCons_len (fCons_len fNil_len))) (de_bin op_addA od_add (de_bin op_addA od_add (de_slice (de_var 0) do_none (do_some (de_var 6))) (de_str [45])) (de_slice (de_var 0) (do_some (de_bin op_addA od_add (de_var 6) de_int)) do_none))) (dss_one (ds_ret de_bl)) dss_nil)) PassesOwn.never)
      (dss_one (ds_ret (de_and (de_cmp op_isA od_is (de_call G_is_term pass0 (hr.mono (by decide)) D_is_term.at_ D_is_term.fn.kp D_is_term.bd (da_cons (de_var 0) (da_cons (de_bi call_len cd_len z_len boot_len (da_cons (de_var 0) da_nil)) da_nil)) (fCons_len (fCons_len fNil_len))) de_bl) (de_one (de_cmp op_isA od_is (de_call G_is_term pass0 (hr.mono (by decide)) D_is_term.at_ D_is_term.fn.kp D_is_term.bd (da_cons (de_call G_law_odd pass0 (hr.mono (by decide)) D_law_odd.at_ D_law_odd.fn.kp D_law_odd.bd (da_cons (de_var 0) (da_cons (de_var 1) da_nil)) (fCons_len (fCons_len fNil_len))) (da_cons (de_bi call_len cd_len z_len boot_len (da_cons (de_var 0) da_nil)) da_nil)) (fCons_len (fCons_len fNil_len))) de_bl)))))))))
theorem ok_laid {f_laid : Addr} {fd_laid : FuncData} (D_laid : Def K mg "laid" s_laid P_laid f_laid fd_laid) {f_freed : Addr} {fd_freed : FuncData} (D_freed : Def K mg "freed" s_freed P_freed f_freed fd_freed) (G_freed : FnOk P w K mg base CX0 1 f_freed fd_freed P_freed (spD K T 2 (g_freed))) (z_len : mg "len" = none) (z_range : mg "range" = none) (c_EITHER : ∃ t, mg "EITHER" = some (.str (tx [45]) t)) :
    FnOk P w K mg base CX0 2 f_laid fd_laid P_laid (spD K T 2 (g_laid)) :=
  def_ok0 D_laid sc_laid (b_laid) fun cdv A outer s H E hr =>
      (dss_cons (ds_if (dt_cmp (op_neD (hq hr)) od_ne (de_bi call_len cd_len z_len boot_len (da_cons (de_var 0) da_nil)) (de_bi call_len cd_len z_len boot_len (da_cons (de_var 1) da_nil))) (dss_one (ds_ret de_non)) dss_nil)
      (dss_cons (ds_setLc (i := 2) (fz := true) (own := [("lamp", 4)]) (t := (.nm 4)) sc_laid.nd (di_range1 z_range (da_cons (de_bi call_len cd_len z_len boot_len (da_cons (de_var 0) da_nil)) da_nil)) (blkOk_by (N := N_laid) (sc := defScope s_laid) (by decide +kernel)) (fun _ _ _ _ _ => (pgN 4 sc_laid.nd)) (fun _ _ _ _ _ => (dts_one (dt_cmp (op_neD (hq hr)) od_ne (de_ix ix_seq od_ix (de_var 0) (de_var 4)) (de_ix ix_seq od_ix (de_var 1) (de_var 4))))) (fun _ _ _ _ _ => (de_var 4)))
      (dss_cons (ds_if (dt_cmp (op_neD (hq hr)) od_ne (de_bi call_len cd_len z_len boot_len (da_cons (de_var 2) da_nil)) de_int) (dss_one (ds_ret de_non)) dss_nil)
      (dss_cons (ds_set (i := 3) (fz := true) sc_laid.nd (de_ix ix_seq od_ix (de_var 2) de_int))
      (dss_cons (ds_if (dt_w (dw_or (dt_cmp (op_eqD (hq hr)) od_eq (de_ix ix_seq od_ix (de_var 0) (de_var 3)) (de_gstr [45] c_EITHER)) (dw_or1 (dt_cmp (op_eqD (hq hr)) od_eq (de_ix ix_seq od_ix (de_var 1) (de_var 3)) (de_gstr [45] c_EITHER))))) (dss_one (ds_ret de_non)) dss_nil)
      (dss_one (ds_ret (de_call G_freed pass0 (hr.mono (by decide)) D_freed.at_ D_freed.fn.kp D_freed.bd (da_cons (de_var 0) (da_cons (de_var 3) da_nil)) (fCons_len (fCons_len fNil_len))))))))))
theorem ok_law {f_law : Addr} {fd_law : FuncData} (D_law : Def K mg "law" s_law P_law f_law fd_law) {f_law_joined : Addr} {fd_law_joined : FuncData} (D_law_joined : Def K mg "_law_joined" s_law_joined P_law_joined f_law_joined fd_law_joined) {f_law_pair : Addr} {fd_law_pair : FuncData} (D_law_pair : Def K mg "_law_pair" s_law_pair P_law_pair f_law_pair fd_law_pair) {f_law_spread : Addr} {fd_law_spread : FuncData} (D_law_spread : Def K mg "_law_spread" s_law_spread P_law_spread f_law_spread fd_law_spread) {f_law_term_right : Addr} {fd_law_term_right : FuncData} (D_law_term_right : Def K mg "_law_term_right" s_law_term_right P_law_term_right f_law_term_right fd_law_term_right) {f_laid : Addr} {fd_laid : FuncData} (D_laid : Def K mg "laid" s_laid P_laid f_laid fd_laid) (G_law_joined : FnOk P w K mg base CX0 1 f_law_joined fd_law_joined P_law_joined (spD K T 2 (g_law_joined))) (G_law_pair : FnOk P w K mg base CX0 3 f_law_pair fd_law_pair P_law_pair (spD K T 2 (g_law_pair))) (G_law_spread : FnOk P w K mg base CX0 1 f_law_spread fd_law_spread P_law_spread (spD K T 2 (g_law_spread))) (G_law_term_right : FnOk P w K mg base CX0 4 f_law_term_right fd_law_term_right P_law_term_right (spD K T 2 (g_law_term_right))) (G_laid : FnOk P w K mg base CX0 2 f_laid fd_laid P_laid (spD K T 2 (g_laid))) (z_enumerate : mg "enumerate" = none) :
    FnOk P w K mg base CX0 5 f_law fd_law P_law (spD K T 1 (g_law)) :=
  def_ok0 D_law sc_law (b_law) fun cdv A outer s H E hr =>
      (dss_cons (ds_for (t := (.tp [1, 2])) (di_enum z_enumerate (da_cons (de_bin op_addA od_add (de_var 0) (de_lst (da_cons de_int da_nil))) da_nil)) (pgT (pgs1 (pgN 1 sc_law.nd) (pgs1 (pgN 2 sc_law.nd) pgs0))) (dss_cons (ds_set (i := 3) (fz := true) sc_law.nd (de_call G_law_spread pass0 (hr.mono (by decide)) D_law_spread.at_ D_law_spread.fn.kp D_law_spread.bd (da_cons (de_var 2) (da_cons (de_bin op_mod od_mod (de_var 1) de_int) da_nil)) (fCons_len (fCons_len fNil_len))))
      (dss_cons (ds_asg (t := (.tp [4, 5])) (de_call G_law_pair pass0 (hr.mono (by decide)) D_law_pair.at_ D_law_pair.fn.kp D_law_pair.bd (da_cons (de_var 2) (da_cons (de_bin op_mod od_mod (de_var 1) de_int) da_nil)) (fCons_len (fCons_len fNil_len))) (pgT (pgs1 (pgN 4 sc_law.nd) (pgs1 (pgN 5 sc_law.nd) pgs0))))
      (dss_cons (ds_if (dt_w (dw_or (dt_not (dt_val (de_call G_law_term_right pass0 (hr.mono (by decide)) D_law_term_right.at_ D_law_term_right.fn.kp D_law_term_right.bd (da_cons (de_var 4) (da_cons (de_bin op_fdiv od_div (de_var 3) de_int) da_nil)) (fCons_len (fCons_len fNil_len))))) (dw_or1 (dt_not (dt_val (de_call G_law_term_right pass0 (hr.mono (by decide)) D_law_term_right.at_ D_law_term_right.fn.kp D_law_term_right.bd (da_cons (de_var 5) (da_cons (de_bin op_fdiv od_div (de_var 3) de_int) da_nil)) (fCons_len (fCons_len fNil_len)))))))) (dss_one (ds_ret de_bl)) dss_nil)
      (dss_cons (ds_set (i := 6) (fz := true) sc_law.nd (de_call G_law_joined pass0 (hr.mono (by decide)) D_law_joined.at_ D_law_joined.fn.kp D_law_joined.bd (da_cons (de_var 4) (da_cons (de_var 5) da_nil)) (fCons_len (fCons_len fNil_len))))
      (dss_one (ds_if (dt_w (dw_or (dt_cmp (op_neD (hq hr)) od_ne (de_call G_laid pass0 (hr.mono (by decide)) D_laid.at_ D_laid.fn.kp D_laid.bd (da_cons (de_var 4) (da_cons (de_var 5) da_nil)) (fCons_len (fCons_len fNil_len))) (de_var 6)) (dw_or1 (dt_cmp (op_neD (hq hr)) od_ne (de_call G_laid pass0 (hr.mono (by decide)) D_laid.at_ D_laid.fn.kp D_laid.bd (da_cons (de_var 5) (da_cons (de_var 4) da_nil)) (fCons_len (fCons_len fNil_len))) (de_var 6))))) (dss_one (ds_ret de_bl)) dss_nil)))))) PassesOwn.never)
      (dss_one (ds_ret de_bl)))
end
end K01.N
/-! Terms, good ones and whole ones, as lists of signs. -/
namespace Mt
open PySem PySem.Spec PyProof.Rows L2 Fw
def clean (off : List Nat) (s : List Nat) : Bool := !(off.any fun n => agB n 0 s)
def bars (s : List Nat) : List Nat := (List.range s.length).filter fun k => !([s.getD k 0] == [45])
def wids (s : List Nat) : List (List Nat) := (bars s).map fun k => put s k 45
def whole (off : List Nat) (s : List Nat) : Bool := clean off s && !((wids s).any (clean off))
def allT : Nat → List (List Nat)
  | 0 => [[]]
  | n + 1 => (allT n).flatMap fun t => [45, 48, 49].map fun c => t ++ [c]
def lawT : Nat → List (List Nat)
  | 0 => [[]]
  | n + 1 => (lawT n).map (· ++ [48]) ++ (lawT n).map (· ++ [49]) ++ (lawT n).map (· ++ [45])
theorem tm_snoc {n : Nat} {t : List Nat} : Tm (n + 1) t ↔ ∃ u c, t = u ++ [c] ∧ Tm n u ∧ (c = 48 ∨ c = 49 ∨ c = 45) := by
  constructor
  · rintro ⟨h1, h2⟩
    have hne : t ≠ [] := fun z => by subst z; simp at h1
    have e : t.dropLast ++ [t.getLast hne] = t := List.dropLast_concat_getLast hne
    refine ⟨t.dropLast, t.getLast hne, e.symm, ⟨by simp [h1], fun c hc => h2 c (by rw [← e]; exact List.mem_append_left _ hc)⟩, h2 _ (List.getLast_mem hne)⟩
  · rintro ⟨u, c, rfl, ⟨h1, h2⟩, hc⟩
    refine ⟨by simp [h1], fun d hd => ?_⟩
    rcases List.mem_append.mp hd with h | h
    · exact h2 d h
    · simp only [List.mem_singleton] at h
      subst h; exact hc
theorem mem_allT {n : Nat} : ∀ {t : List Nat}, t ∈ allT n ↔ Tm n t := by
  induction n with
  | zero =>
    intro t
    simp only [allT, List.mem_singleton]
    constructor
    · rintro rfl; exact ⟨rfl, fun c hc => by cases hc⟩
    · rintro ⟨h, _⟩; exact List.eq_nil_of_length_eq_zero h
  | succ n ih =>
    intro t
    rw [tm_snoc, allT]
    simp only [List.mem_flatMap, List.mem_map, List.mem_cons, List.not_mem_nil, or_false]
    constructor
    · rintro ⟨u, hu, c, hc, rfl⟩
      exact ⟨u, c, rfl, ih.mp hu, by omega⟩
    · rintro ⟨u, c, rfl, hu, hc⟩
      exact ⟨u, ih.mpr hu, c, by omega, rfl⟩
theorem mem_lawT {n : Nat} : ∀ {t : List Nat}, t ∈ lawT n ↔ Tm n t := by
  induction n with
  | zero =>
    intro t
    simp only [lawT, List.mem_singleton]
    constructor
    · rintro rfl; exact ⟨rfl, fun c hc => by cases hc⟩
    · rintro ⟨h, _⟩; exact List.eq_nil_of_length_eq_zero h
  | succ n ih =>
    intro t
    rw [tm_snoc, lawT]
    simp only [List.mem_append, List.mem_map]
    constructor
    · rintro ((⟨u, hu, rfl⟩ | ⟨u, hu, rfl⟩) | ⟨u, hu, rfl⟩)
      · exact ⟨u, 48, rfl, ih.mp hu, by omega⟩
      · exact ⟨u, 49, rfl, ih.mp hu, by omega⟩
      · exact ⟨u, 45, rfl, ih.mp hu, by omega⟩
    · rintro ⟨u, c, rfl, hu, rfl | rfl | rfl⟩
      · exact .inl (.inl ⟨u, ih.mpr hu, rfl⟩)
      · exact .inl (.inr ⟨u, ih.mpr hu, rfl⟩)
      · exact .inr ⟨u, ih.mpr hu, rfl⟩
theorem lt_snoc : ∀ {a b u v : List Nat}, a.length = b.length → ltCps a b = true → ltCps (a ++ u) (b ++ v) = true
  | [], [], _, _, _, h => by simp [ltCps] at h
  | [], _ :: _, _, _, h, _ => by simp at h
  | _ :: _, [], _, _, h, _ => by simp at h
  | x :: a, y :: b, u, v, h, h2 => by
    simp only [ltCps, Bool.or_eq_true, Bool.and_eq_true, decide_eq_true_eq, beq_iff_eq, List.cons_append] at h2 ⊢
    rcases h2 with h2 | ⟨h2, h3⟩
    · exact .inl h2
    · exact .inr ⟨h2, lt_snoc (by simpa using h) h3⟩
theorem lt_last : ∀ (a : List Nat) {c d : Nat}, c < d → ltCps (a ++ [c]) (a ++ [d]) = true
  | [], c, d, h => by simp [ltCps, h]
  | x :: a, c, d, h => by simp [ltCps, lt_last a h]
theorem sorted_allT : ∀ n, (allT n).Pairwise fun a b => ltCps a b = true
  | 0 => List.pairwise_singleton _ _
  | n + 1 => by
    rw [allT, List.pairwise_flatMap]
    refine ⟨fun t _ => ?_, (List.Pairwise.and_mem.mp (sorted_allT n)).imp fun {a b} h x hx y hy => ?_⟩
    · simp only [List.map_cons, List.map_nil, List.pairwise_cons, List.mem_cons, List.not_mem_nil, or_false, forall_eq_or_imp, forall_eq]
      exact ⟨⟨lt_last t (by omega), lt_last t (by omega)⟩, lt_last t (by omega), by simp⟩
    · obtain ⟨ha, hb, h⟩ := h
      simp only [List.mem_map] at hx hy
      obtain ⟨c, _, rfl⟩ := hx
      obtain ⟨d, _, rfl⟩ := hy
      exact lt_snoc (by rw [(mem_allT.mp ha).1, (mem_allT.mp hb).1]) h
theorem nodup_allT (n : Nat) : (allT n).Nodup := (sorted_allT n).imp fun {a b} h e => by
  subst e
  rw [lt_irr] at h; cases h
theorem nodup_lawT : ∀ n, (lawT n).Nodup
  | 0 => by simp [lawT]
  | n + 1 => by
    have ih := nodup_lawT n
    have inj : ∀ c : Nat, ((lawT n).map (· ++ [c])).Nodup := fun c => ih.map (fun x : List Nat => x ++ [c]) (fun a b hab z => hab (by simpa using z))
    rw [lawT, List.nodup_append, List.nodup_append]
    refine ⟨⟨inj 48, inj 49, fun a ha b hb z => ?_⟩, inj 45, fun a ha b hb z => ?_⟩
    · simp only [List.mem_map] at ha hb
      obtain ⟨u, _, rfl⟩ := ha
      obtain ⟨v, _, rfl⟩ := hb
      have := congrArg List.getLast? z
      simp at this
    · simp only [List.mem_append, List.mem_map] at ha hb
      obtain ⟨v, _, rfl⟩ := hb
      rcases ha with ⟨u, _, rfl⟩ | ⟨u, _, rfl⟩
      · have := congrArg List.getLast? z
        simp at this
      · have := congrArg List.getLast? z
        simp at this
theorem perm_T (n : Nat) : (allT n).Perm (lawT n) := (List.perm_ext_iff_of_nodup (nodup_allT n) (nodup_lawT n)).mpr fun a => by rw [mem_allT, mem_lawT]
theorem sort_T (n : Nat) (p : List Nat → Bool) : sortS ((lawT n).filter p) = (allT n).filter p := by
  refine (sortB_uniq leS_tot leS_tr leS_an ((perm_T n).filter p) ?_).symm
  exact ((sorted_allT n).filter p).imp fun {a b} h => by unfold leS; rw [lt_asym a b h]; rfl
theorem put_tm {n k : Nat} {s : List Nat} (h : Tm n s) (hk : k < n) : Tm n (put s k 45) := ⟨by rw [put_len (by rw [h.1]; exact hk), h.1], put_sg45 h.2⟩
theorem bars_lt {s : List Nat} {k : Nat} (h : k ∈ bars s) : k < s.length := List.mem_range.mp (List.mem_filter.mp h).1
theorem wids_tm {n : Nat} {s w : List Nat} (h : Tm n s) (hw : w ∈ wids s) : Tm n w := by
  obtain ⟨k, hk, rfl⟩ := List.mem_map.mp hw
  exact put_tm h (by rw [← h.1]; exact bars_lt hk)
/-- the law's own way to the whole terms -/
theorem ends_law {n : Nat} (off : List Nat) : ((lawT n).filter (clean off)).filter (fun t => !((wids t).any fun w => ((lawT n).filter (clean off)).any fun g => g == w)) = (lawT n).filter (whole off) := by
  rw [List.filter_filter]
  apply List.filter_congr
  intro t ht
  unfold whole
  rw [Bool.and_comm]
  congr 2
  rw [Bool.eq_iff_iff, List.any_eq_true, List.any_eq_true]
  constructor
  · rintro ⟨w, hw, h⟩
    obtain ⟨g, hg, e⟩ := List.any_eq_true.mp h
    rw [beq_iff_eq] at e
    subst e
    exact ⟨g, hw, (List.mem_filter.mp hg).2⟩
  · rintro ⟨w, hw, h⟩
    exact ⟨w, hw, List.any_eq_true.mpr ⟨w, List.mem_filter.mpr ⟨mem_lawT.mpr (wids_tm (mem_lawT.mp ht) hw), h⟩, by simp⟩⟩
theorem any_whole {n : Nat} (off : List Nat) {t : List Nat} (h : Tm n t) : (((allT n).filter (whole off)).any fun g => g == t) = whole off t := by
  rw [Bool.eq_iff_iff, List.any_eq_true]
  constructor
  · rintro ⟨g, hg, e⟩
    rw [beq_iff_eq] at e
    subst e
    exact (List.mem_filter.mp hg).2
  · intro e
    exact ⟨t, List.mem_filter.mpr ⟨mem_allT.mpr h, e⟩, by simp⟩
theorem len_allT : ∀ n, (allT n).length = 3 ^ n
  | 0 => rfl
  | n + 1 => by
    rw [allT, List.length_flatMap]
    simp only [List.length_map, List.length_cons, List.length_nil]
    have : ∀ l : List (List Nat), (l.map fun _ => 0 + 1 + 1 + 1).sum = l.length * 3 := fun l => by
      induction l with
      | nil => rfl
      | cons a l ih => simp [ih]; omega
    rw [this, len_allT n, Nat.pow_succ]
theorem len_lawT : ∀ n, (lawT n).length = 3 ^ n
  | 0 => rfl
  | n + 1 => by
    rw [lawT, List.length_append, List.length_append, List.length_map, List.length_map, List.length_map, len_lawT n, Nat.pow_succ]; omega
end Mt
namespace Mt
open PySem PySem.Spec PyProof.Rows L2 Fw
/-! ### growing -/
theorem put_set {s : List Nat} {k c : Nat} (h : k < s.length) : put s k c = s.set k c := by
  unfold put
  rw [List.set_eq_take_append_cons_drop, if_pos h, List.append_assoc]; rfl
theorem agB_iff (n : Nat) : ∀ (k : Nat) (s : List Nat), agB n k s = true ↔ ∀ i, i < s.length → okS n (k + i) (s.getD i 0) = true
  | k, [] => by simp [agB]
  | k, c :: s => by
    rw [agB, Bool.and_eq_true, agB_iff n (k + 1) s]
    constructor
    · rintro ⟨h1, h2⟩ i hi
      cases i with
      | zero => simpa using h1
      | succ i =>
        have := h2 i (by simpa using hi)
        rw [show k + 1 + i = k + (i + 1) by omega] at this
        simpa using this
    · intro h
      refine ⟨by simpa using h 0 (by simp), fun i hi => ?_⟩
      have := h (i + 1) (by simpa using hi)
      rw [show k + 1 + i = k + (i + 1) by omega]
      simpa using this
theorem put_at {s : List Nat} {k i c : Nat} (h : k < s.length) : (put s k c).getD i 0 = if i = k then c else s.getD i 0 := by
  rw [put_set h]
  simp only [List.getD_eq_getElem?_getD, List.getElem?_set]
  by_cases e : k = i
  · subst e; simp [h]
  · rw [if_neg e, if_neg (Ne.symm e)]
theorem okS45 (n k : Nat) : okS n k 45 = true := by simp [okS]
theorem ag_wide {n k : Nat} {s : List Nat} (h : agB n 0 s = true) (hk : k < s.length) : agB n 0 (put s k 45) = true := by
  rw [agB_iff] at h ⊢
  intro i hi
  rw [put_len hk] at hi
  rw [put_at hk]
  split
  · exact okS45 _ _
  · exact h i hi
theorem put_comm {s : List Nat} {i k : Nat} (hi : i < s.length) (hk : k < s.length) : put (put s i 45) k 45 = put (put s k 45) i 45 := by
  rw [put_set (by rw [put_len hi]; exact hk), put_set hi, put_set (by rw [put_len hk]; exact hi), put_set hk]
  by_cases e : i = k
  · subst e; rfl
  · exact List.set_comm _ _ e
theorem clean_wide {off : List Nat} {s : List Nat} {k : Nat} (hk : k < s.length) (h : clean off (put s k 45) = true) : clean off s = true := by
  unfold clean at h ⊢
  simp only [Bool.not_eq_true', List.any_eq_false] at h ⊢
  intro n hn z
  exact h n hn (ag_wide z hk)
def grow (off : List Nat) : Nat → List Nat → List Nat
  | 0, s => s
  | i + 1, s => if clean off (put (grow off i s) i 45) = true then put (grow off i s) i 45 else grow off i s
theorem grow_tm {off : List Nat} {n : Nat} {s : List Nat} (h : Tm n s) : ∀ {i : Nat}, i ≤ n → Tm n (grow off i s)
  | 0, _ => h
  | i + 1, hi => by
    have ih := grow_tm (off := off) h (i := i) (by omega)
    unfold grow
    split
    · exact put_tm ih (by omega)
    · exact ih
theorem grow_clean {off : List Nat} {s : List Nat} (h : clean off s = true) : ∀ i, clean off (grow off i s) = true
  | 0 => h
  | i + 1 => by
    unfold grow
    split
    · assumption
    · exact grow_clean h i
theorem grow_bar {off : List Nat} {n : Nat} {s : List Nat} (h : Tm n s) : ∀ {i : Nat}, i ≤ n → ∀ k, k < i → (grow off i s).getD k 0 = 45 ∨ clean off (put (grow off i s) k 45) = false
  | 0, _, k, hk => by omega
  | i + 1, hi, k, hk => by
    have ht := grow_tm (off := off) h (i := i) (by omega)
    have hl : i < (grow off i s).length := by rw [ht.1]; omega
    unfold grow
    split
    · rename_i hc
      by_cases e : k = i
      · subst e
        left
        rw [put_at hl, if_pos rfl]
      · have hk2 : k < i := by omega
        rcases grow_bar h (by omega) k hk2 with g | g
        · left
          rw [put_at hl, if_neg e]; exact g
        · right
          cases z : clean off (put (put (grow off i s) i 45) k 45) with
          | false => rfl
          | true =>
            rw [put_comm hl (by omega)] at z
            have := clean_wide (by rw [put_len (by omega)]; omega) z
            rw [g] at this; cases this
    · rename_i hc
      by_cases e : k = i
      · subst e
        right
        simpa using hc
      · exact grow_bar h (by omega) k (by omega)
theorem grow_whole {off : List Nat} {n : Nat} {s : List Nat} (h : Tm n s) (hc : clean off s = true) : whole off (grow off n s) = true := by
  unfold whole
  rw [grow_clean hc, Bool.true_and, Bool.not_eq_true', List.any_eq_false]
  intro w hw
  obtain ⟨k, hk, rfl⟩ := List.mem_map.mp hw
  have ht := grow_tm (off := off) h (Nat.le_refl n)
  have hk' : k < n := by rw [← ht.1]; exact bars_lt hk
  have hb := (List.mem_filter.mp hk).2
  rcases grow_bar (off := off) h (Nat.le_refl n) k hk' with g | g
  · rw [g] at hb; simp at hb
  · rw [g]; simp
end Mt
namespace Mt
open Fw
/-! ### telling and trimming, by settings -/
def told (on : List Nat) (ts : List (List Nat)) : Bool := on.all fun n => ts.any fun t => agB n 0 t
def trimP (p : List (List Nat) → Bool) : List (List Nat) → List (List Nat) → List (List Nat)
  | K, [] => K
  | K, t :: R => if p (K ++ R) = true then trimP p K R else trimP p (K ++ [t]) R
def tally (n : Nat) (ts : List (List Nat)) : Int := ((ts.filter fun t => agB n 0 t).length : Nat)
theorem tally_app (n : Nat) (a b : List (List Nat)) : tally n (a ++ b) = tally n a + tally n b := by
  unfold tally; rw [List.filter_append, List.length_append]; omega
theorem tally_one (n : Nat) (t : List Nat) : tally n [t] = if agB n 0 t = true then 1 else 0 := by
  unfold tally
  cases h : agB n 0 t <;> simp [List.filter, h]
theorem tally_pos {n : Nat} {ts : List (List Nat)} : 0 < tally n ts ↔ (ts.any fun t => agB n 0 t) = true := by
  unfold tally
  rw [List.any_eq_true]
  constructor
  · intro h
    have : 0 < (ts.filter fun t => agB n 0 t).length := by omega
    obtain ⟨t, ht⟩ := List.exists_mem_of_length_pos this
    exact ⟨t, (List.mem_filter.mp ht).1, (List.mem_filter.mp ht).2⟩
  · rintro ⟨t, h1, h2⟩
    exact Int.natCast_pos.mpr (List.length_pos_of_mem (List.mem_filter.mpr ⟨h1, h2⟩))
/-- by counts: a term can go where each of its settings is told twice -/
theorem go_iff {on : List Nat} {K R : List (List Nat)} {t : List Nat} (h : told on (K ++ t :: R) = true) : ((on.filter fun n => agB n 0 t).all fun n => decide (1 < tally n (K ++ t :: R))) = told on (K ++ R) := by
  have e : ∀ n, tally n (K ++ t :: R) = tally n (K ++ R) + (if agB n 0 t = true then 1 else 0) := fun n => by
    rw [tally_app, show t :: R = [t] ++ R from rfl, tally_app, tally_app, tally_one]; omega
  rw [Bool.eq_iff_iff]
  unfold told at h ⊢
  rw [List.all_eq_true] at h
  rw [List.all_eq_true, List.all_eq_true]
  constructor
  · intro g n hn
    rw [← tally_pos]
    have h1 := tally_pos.mpr (h n hn)
    have h2 := e n
    by_cases ha : agB n 0 t = true
    · have := g n (List.mem_filter.mpr ⟨hn, ha⟩)
      rw [if_pos ha] at h2
      have := of_decide_eq_true this
      omega
    · rw [if_neg ha] at h2
      omega
  · intro g n hn
    obtain ⟨h1, h2⟩ := List.mem_filter.mp hn
    have := tally_pos.mpr (g n h1)
    have h3 := e n
    rw [if_pos h2] at h3
    exact decide_eq_true (by omega)
theorem trim_len (p : List (List Nat) → Bool) : ∀ (R K : List (List Nat)), (trimP p K R).length ≤ K.length + R.length
  | [], K => by simp [trimP]
  | t :: R, K => by
    unfold trimP
    split
    · have := trim_len p R K; simp; omega
    · have := trim_len p R (K ++ [t]); simp at this ⊢; omega
theorem trim_mem (p : List (List Nat) → Bool) : ∀ (R K : List (List Nat)) (x : List Nat), x ∈ trimP p K R → x ∈ K ∨ x ∈ R
  | [], K, x, h => Or.inl (by simpa [trimP] using h)
  | t :: R, K, x, h => by
    unfold trimP at h
    split at h
    · rcases trim_mem p R K x h with h | h
      · exact Or.inl h
      · exact Or.inr (by simp [h])
    · rcases trim_mem p R (K ++ [t]) x h with h | h
      · rcases List.mem_append.mp h with h | h
        · exact Or.inl h
        · exact Or.inr (by simp at h; simp [h])
      · exact Or.inr (by simp [h])
theorem told_perm {a b : List Nat} (h : a.Perm b) (ts : List (List Nat)) : told a ts = told b ts := by
  unfold told
  rw [Bool.eq_iff_iff, List.all_eq_true, List.all_eq_true]
  exact ⟨fun g n hn => g n (h.mem_iff.mpr hn), fun g n hn => g n (h.mem_iff.mp hn)⟩
end Mt
namespace Fw
/-! ### dicts of counts -/
theorem kHas_put : ∀ (ks : List DK) (k : DK), kHas (kPutK ks k) k = true := by
  intro ks k
  unfold kPutK
  split
  · assumption
  · have : ∀ ks : List DK, kHas (ks ++ [k]) k = true := fun ks => by
      induction ks with
      | nil => simp [kHas]
      | cons a ks ih => simp [kHas, ih]
    exact this ks
theorem kGet_rep : ∀ (ks : List DK) (ds : List D) (k k' : DK) (x : D), ks.length = ds.length → kGet ks (kRep ks ds k x) k' = if k = k' then (if kHas ks k = true then some x else none) else kGet ks ds k'
  | [], ds, k, k', x, h => by
    cases ds with
    | nil => simp [kGet, kHas, kRep]
    | cons a b => simp at h
  | a :: ks, [], k, k', x, h => by simp at h
  | a :: ks, d :: ds, k, k', x, h => by
    have ih := kGet_rep ks ds k k' x (by simpa using h)
    rw [kRep, kGet]
    by_cases e : a = k'
    · subst e
      rw [if_pos rfl]
      by_cases e2 : a = k
      · subst e2; simp [kHas]
      · rw [if_neg e2, if_neg (Ne.symm e2), kGet, if_pos rfl]
    · rw [if_neg e, ih]
      by_cases e2 : k = k'
      · subst e2
        rw [if_pos rfl, if_pos rfl, kHas]
        simp [e]
      · rw [if_neg e2, if_neg e2, kGet, if_neg e]
theorem kGet_app : ∀ (ks : List DK) (ds : List D) (k k' : DK) (x : D), ks.length = ds.length → kHas ks k = false → kGet (ks ++ [k]) (ds ++ [x]) k' = if k = k' then some x else kGet ks ds k'
  | [], ds, k, k', x, h, hh => by
    cases ds with
    | nil =>
      simp only [List.nil_append, kGet]
    | cons a b => simp at h
  | a :: ks, [], k, k', x, h, hh => by simp at h
  | a :: ks, d :: ds, k, k', x, h, hh => by
    simp only [kHas, Bool.or_eq_false_iff, decide_eq_false_iff_not] at hh
    have ih := kGet_app ks ds k k' x (by simpa using h) hh.2
    rw [List.cons_append, List.cons_append, kGet, kGet, ih]
    by_cases e : a = k'
    · subst e
      rw [if_pos rfl, if_pos rfl, if_neg (Ne.symm hh.1)]
    · rw [if_neg e, if_neg e]
theorem kGet_put {ks : List DK} {ds : List D} {k k' : DK} {x : D} (h : ks.length = ds.length) : kGet (kPutK ks k) (kPutD ks ds k x) k' = if k = k' then some x else kGet ks ds k' := by
  unfold kPutK kPutD
  by_cases e : kHas ks k = true
  · rw [if_pos e, if_pos e, kGet_rep _ _ _ _ _ h, if_pos e]
  · rw [if_neg e, if_neg e, kGet_app _ _ _ _ _ h (by simpa using e)]
theorem kPut_len {ks : List DK} {ds : List D} {k : DK} {x : D} (h : ks.length = ds.length) : (kPutK ks k).length = (kPutD ks ds k x).length := by
  unfold kPutK kPutD
  split
  · rw [kRep_len, h]
  · simp [h]
theorem kGet_has : ∀ {ks : List DK} {ds : List D} {k : DK} {x : D}, kGet ks ds k = some x → kHas ks k = true
  | [], ds, k, x, h => by cases ds <;> simp [kGet] at h
  | a :: ks, [], k, x, h => by simp [kGet] at h
  | a :: ks, d :: ds, k, x, h => by
    rw [kGet] at h
    rw [kHas]
    by_cases e : a = k
    · simp [e]
    · rw [if_neg e] at h; simp [kGet_has h]
/-- a slot's dict of counts -/
structure Cts (on : List Nat) (c : Nat → Int) (ks : List DK) (ds : List D) : Prop where
  len : ks.length = ds.length
  few : ks.length ≤ on.length
  at_ : ∀ n ∈ on, kGet ks ds (.inl (n : Int)) = some (.int (c n))
theorem Cts.cong {on : List Nat} {c c' : Nat → Int} {ks : List DK} {ds : List D} (h : Cts on c ks ds) (e : ∀ n ∈ on, c n = c' n) : Cts on c' ks ds := ⟨h.len, h.few, fun n hn => by rw [h.at_ n hn, e n hn]⟩
theorem Cts.put {on : List Nat} {c : Nat → Int} {ks : List DK} {ds : List D} (h : Cts on c ks ds) {n : Nat} (hn : n ∈ on) (x : Int) : Cts on (fun k => if k = n then x else c k) (kPutK ks (.inl (n : Int))) (kPutD ks ds (.inl (n : Int)) (.int x)) := by
  have e : kPutK ks (.inl (n : Int)) = ks := by
    unfold kPutK
    rw [if_pos (kGet_has (h.at_ n hn))]
  refine ⟨kPut_len h.len, by rw [e]; exact h.few, fun k hk => ?_⟩
  rw [kGet_put h.len]
  by_cases z : k = n
  · subst z; simp
  · have : ¬ (Sum.inl (n : Int) : DK) = .inl (k : Int) := fun w => z (by have := Sum.inl.inj w; omega)
    rw [if_neg this, h.at_ k hk, if_neg z]
end Fw
/-! Covers: how few terms tell all that is on. -/
namespace Mc
open Fw Mt
/-! ### numbers as sets of settings -/
theorem add_pow_or : ∀ (k x : Nat), x.testBit k = false → x + 2 ^ k = x ||| 2 ^ k
  | 0, x, h => by
    have h2 : x % 2 = 0 := by
      rw [Nat.testBit_zero] at h
      have := of_decide_eq_false h
      omega
    have e : x = 2 ^ 1 * (x / 2) := by omega
    have := Nat.two_pow_add_eq_or_of_lt (i := 1) (b := 1) (by decide) (x / 2)
    rw [← e] at this
    exact this
  | k + 1, x, h => by
    have h2 : (x / 2).testBit k = false := by rw [← Nat.testBit_succ]; exact h
    have ih := add_pow_or k (x / 2) h2
    have e : x + 2 ^ (k + 1) = 2 * (x / 2 ||| 2 ^ k) + x % 2 := by rw [← ih, Nat.pow_succ]; omega
    rw [e]
    refine Nat.eq_of_testBit_eq fun i => ?_
    cases i with
    | zero =>
      rw [Nat.testBit_or, Nat.testBit_zero, Nat.testBit_zero, Nat.testBit_two_pow]
      have : (2 * (x / 2 ||| 2 ^ k) + x % 2) % 2 = x % 2 := by omega
      rw [this]; simp
    | succ i =>
      have : (2 * (x / 2 ||| 2 ^ k) + x % 2) / 2 = (x / 2 ||| 2 ^ k) := by omega
      rw [Nat.testBit_succ, this, Nat.testBit_or, Nat.testBit_or, Nat.testBit_succ, Nat.testBit_two_pow, Nat.testBit_two_pow]
      congr 1
      simp
/-- the number of some settings -/
def num (l : List Nat) : Nat := (l.map fun s => 2 ^ s).sum
theorem num_bit : ∀ {l : List Nat}, l.Nodup → ∀ k, (num l).testBit k = decide (k ∈ l)
  | [], _, k => by simp [num]
  | s :: l, h, k => by
    rw [List.nodup_cons] at h
    have ih := num_bit h.2
    have e : num (s :: l) = num l ||| 2 ^ s := by
      show 2 ^ s + num l = _
      rw [Nat.add_comm]
      exact add_pow_or s _ (by rw [ih]; simpa using h.1)
    rw [e, Nat.testBit_or, ih, Nat.testBit_two_pow]
    by_cases a : k = s
    · subst a; simp
    · have : ¬ s = k := fun z => a z.symm
      simp [a, this]
theorem num_lt : ∀ {l : List Nat} {n : Nat}, l.Nodup → (∀ s ∈ l, s < n) → num l < 2 ^ n := fun {l n} h hl => by
  refine Nat.lt_pow_two_of_testBit _ fun i hi => ?_
  rw [num_bit h]
  simp only [decide_eq_false_iff_not]
  exact fun z => by have := hl i z; omega
/-! ### so many terms are enough -/
/-- exactly so many good terms tell all -/
def Exact (P : List Nat → Bool) (m : Nat) (on : List Nat) (n : Nat) : Prop := ∃ ts : List (List Nat), ts.length = n ∧ (∀ t ∈ ts, Tm m t ∧ P t = true) ∧ told on ts = true
def Enough (P : List Nat → Bool) (m : Nat) (on : List Nat) (n : Nat) : Prop := ∃ k, k ≤ n ∧ Exact P m on k
def Least (Q : Nat → Prop) (n : Nat) : Prop := Q n ∧ ∀ k, k < n → ¬ Q k
theorem Least.uniq {Q : Nat → Prop} {a b : Nat} (ha : Least Q a) (hb : Least Q b) : a = b := by
  rcases Nat.lt_trichotomy a b with h | h | h
  · exact absurd ha.1 (hb.2 a h)
  · exact h
  · exact absurd hb.1 (ha.2 b h)
theorem least_enough {P : List Nat → Bool} {m : Nat} {on : List Nat} {n : Nat} : Least (Exact P m on) n ↔ Least (Enough P m on) n := by
  constructor
  · rintro ⟨h1, h2⟩
    exact ⟨⟨n, Nat.le_refl _, h1⟩, fun k hk ⟨j, hj, he⟩ => h2 j (by omega) he⟩
  · rintro ⟨⟨j, hj, he⟩, h2⟩
    have : j = n := by
      rcases Nat.lt_or_ge j n with h | h
      · exact absurd ⟨j, Nat.le_refl _, he⟩ (h2 j h)
      · omega
    subst this
    exact ⟨he, fun k hk h => h2 k hk ⟨k, Nat.le_refl _, h⟩⟩
theorem ag_grow {off : List Nat} {m n : Nat} {s : List Nat} (h : Tm m s) (ha : agB n 0 s = true) : ∀ {i : Nat}, i ≤ m → agB n 0 (grow off i s) = true
  | 0, _ => ha
  | i + 1, hi => by
    have ih := ag_grow h ha (i := i) (by omega) (off := off)
    have ht := grow_tm (off := off) h (i := i) (by omega)
    show agB n 0 (if clean off (put (grow off i s) i 45) = true then put (grow off i s) i 45 else grow off i s) = true
    split
    · exact ag_wide ih (by rw [ht.1]; omega)
    · exact ih
theorem told_iff {on : List Nat} {ts : List (List Nat)} : told on ts = true ↔ ∀ n ∈ on, ∃ t ∈ ts, agB n 0 t = true := by
  unfold told
  rw [List.all_eq_true]
  constructor
  · intro h n hn
    exact List.any_eq_true.mp (h n hn)
  · intro h n hn
    exact List.any_eq_true.mpr (h n hn)
theorem whole_clean {off : List Nat} {s : List Nat} (h : whole off s = true) : clean off s = true := by
  unfold whole at h
  rw [Bool.and_eq_true] at h
  exact h.1
theorem exact_whole {off : List Nat} {m : Nat} {on : List Nat} {n : Nat} : Exact (whole off) m on n ↔ Exact (clean off) m on n := by
  constructor
  · rintro ⟨ts, h1, h2, h3⟩
    exact ⟨ts, h1, fun t ht => ⟨(h2 t ht).1, whole_clean (h2 t ht).2⟩, h3⟩
  · rintro ⟨ts, h1, h2, h3⟩
    refine ⟨ts.map (grow off m), by simpa using h1, fun t ht => ?_, ?_⟩
    · obtain ⟨u, hu, rfl⟩ := List.mem_map.mp ht
      exact ⟨grow_tm (h2 u hu).1 (Nat.le_refl _), grow_whole (h2 u hu).1 (h2 u hu).2⟩
    · rw [told_iff] at h3 ⊢
      intro n hn
      obtain ⟨t, ht, ha⟩ := h3 n hn
      exact ⟨grow off m t, List.mem_map.mpr ⟨t, ht, rfl⟩, ag_grow (h2 t ht).1 ha (Nat.le_refl _)⟩
end Mc
/-! What can be told by so many terms, as numbers. -/
namespace Mc
open Fw Mt
/-- from 0 by so many of ps laid upon it -/
def Reach (ps : List Nat) : Nat → Nat → Prop
  | 0, x => x = 0
  | k + 1, x => ∃ y p, Reach ps k y ∧ p ∈ ps ∧ x = y ||| p
def prt (on : List Nat) (t : List Nat) : Nat := num (on.filter fun n => agB n 0 t)
theorem prt_bit {on : List Nat} (h : on.Nodup) (t : List Nat) (s : Nat) : (prt on t).testBit s = (decide (s ∈ on) && agB s 0 t) := by
  unfold prt
  rw [num_bit (h.sublist List.filter_sublist)]
  rw [Bool.eq_iff_iff]
  simp [List.mem_filter]
theorem reach_bits {on : List Nat} (h : on.Nodup) {G : List (List Nat)} : ∀ (k x : Nat), Reach (G.map (prt on)) k x → ∃ ts : List (List Nat), ts.length = k ∧ (∀ t ∈ ts, t ∈ G) ∧ ∀ s, x.testBit s = (decide (s ∈ on) && ts.any fun t => agB s 0 t)
  | 0, x, hx => ⟨[], rfl, fun t ht => (by cases ht), fun s => by
      have hx : x = 0 := hx
      subst hx; simp⟩
  | k + 1, x, ⟨y, p, hy, hp, e⟩ => by
    obtain ⟨ts, h1, h2, h3⟩ := reach_bits h k y hy
    obtain ⟨t, ht, rfl⟩ := List.mem_map.mp hp
    refine ⟨t :: ts, by simp [h1], fun u hu => ?_, fun s => ?_⟩
    · rcases List.mem_cons.mp hu with rfl | hu
      · exact ht
      · exact h2 u hu
    · rw [e, Nat.testBit_or, h3, prt_bit h, List.any_cons]
      cases decide (s ∈ on) <;> cases agB s 0 t <;> simp
theorem bits_reach {on : List Nat} (h : on.Nodup) {G : List (List Nat)} : ∀ ts : List (List Nat), (∀ t ∈ ts, t ∈ G) → ∃ x, Reach (G.map (prt on)) ts.length x ∧ ∀ s, x.testBit s = (decide (s ∈ on) && ts.any fun t => agB s 0 t)
  | [], _ => ⟨0, rfl, fun s => by simp⟩
  | t :: ts, hG => by
    obtain ⟨y, h1, h2⟩ := bits_reach h ts fun u hu => hG u (by simp [hu])
    refine ⟨y ||| prt on t, ⟨y, _, h1, List.mem_map.mpr ⟨t, hG t (by simp), rfl⟩, rfl⟩, fun s => ?_⟩
    rw [Nat.testBit_or, h2, prt_bit h, List.any_cons]
    cases decide (s ∈ on) <;> cases agB s 0 t <;> simp
theorem reach_exact {on off : List Nat} (h : on.Nodup) {m : Nat} {G : List (List Nat)} (hG : ∀ t, t ∈ G ↔ Tm m t ∧ clean off t = true) (k : Nat) : Reach (G.map (prt on)) k (num on) ↔ Exact (clean off) m on k := by
  constructor
  · intro hr
    obtain ⟨ts, h1, h2, h3⟩ := reach_bits h k _ hr
    refine ⟨ts, h1, fun t ht => (hG t).mp (h2 t ht), ?_⟩
    unfold told
    rw [List.all_eq_true]
    intro n hn
    have := h3 n
    rw [num_bit h, decide_eq_true hn, Bool.true_and] at this
    exact this.symm
  · rintro ⟨ts, h1, h2, h3⟩
    obtain ⟨x, hx, hb⟩ := bits_reach h ts fun t ht => (hG t).mpr (h2 t ht)
    have e : x = num on := Nat.eq_of_testBit_eq fun s => by
      rw [hb, num_bit h]
      by_cases hs : s ∈ on
      · unfold told at h3
        rw [List.all_eq_true] at h3
        rw [h3 s hs]; simp
      · simp [hs]
    rw [← h1, ← e]; exact hx
theorem reach_lt {ps : List Nat} {n : Nat} (hp : ∀ p ∈ ps, p < 2 ^ n) : ∀ (k x : Nat), Reach ps k x → x < 2 ^ n
  | 0, x, h => by
    have h : x = 0 := h
    subst h; exact Nat.two_pow_pos n
  | k + 1, x, ⟨y, p, hy, hq, e⟩ => by
    rw [e]
    exact Nat.or_lt_two_pow (reach_lt hp k y hy) (hp p hq)
/-- a list without doubles, an item more -/
def ins (M : List Nat) (x : Nat) : List Nat := if x ∈ M then M else M ++ [x]
theorem mem_ins {M : List Nat} {x y : Nat} : y ∈ ins M x ↔ y ∈ M ∨ y = x := by
  unfold ins
  split
  · rename_i h
    constructor
    · exact Or.inl
    · rintro (h2 | rfl)
      · exact h2
      · exact h
  · simp
theorem ins_nd {M : List Nat} (h : M.Nodup) (x : Nat) : (ins M x).Nodup := by
  unfold ins
  split
  · exact h
  · rename_i hx
    rw [List.nodup_append]
    exact ⟨h, by simp, fun a ha b hb e => by
      obtain rfl := List.mem_singleton.mp hb
      exact hx (e ▸ ha)⟩
theorem nd_len {M : List Nat} {n : Nat} (h : M.Nodup) (hl : ∀ x ∈ M, x < n) : M.length ≤ n := by
  have := List.Nodup.length_le_of_subset h (l₂ := List.range n) fun x hx => List.mem_range.mpr (hl x hx)
  simpa using this
/-- a cover of one term each -/
theorem exact_each {on off : List Nat} {m : Nat} (hon : ∀ n ∈ on, n < 2 ^ m) (hoff : ∀ n ∈ off, n < 2 ^ m) (hd : ∀ n ∈ on, n ∉ off) (sg : Nat → List Nat) (hs : ∀ n, Tm m (sg n)) (ha : ∀ n k, n < 2 ^ m → k < 2 ^ m → (agB n 0 (sg k) = true ↔ n = k)) : Exact (clean off) m on on.length := by
  refine ⟨on.map sg, by simp, fun t ht => ?_, ?_⟩
  · obtain ⟨n, hn, rfl⟩ := List.mem_map.mp ht
    refine ⟨hs n, ?_⟩
    unfold clean
    rw [Bool.not_eq_true', List.any_eq_false]
    intro k hk z
    have := (ha k n (hoff k hk) (hon n hn)).mp z
    exact hd n hn (this ▸ hk)
  · rw [told_iff]
    exact fun n hn => ⟨sg n, List.mem_map.mpr ⟨n, hn, rfl⟩, (ha n n (hon n hn) (hon n hn)).mpr rfl⟩
end Mc
namespace Fw
open PySem PySem.Spec PyProof.Rows L2
/-! ### the steps of the data as rules of rewriting -/
section
variable {es e2 : Fw.Env} {fa fb fc : Fw.Env → O R} {fr : Fw.Env → O (List R)} {t t1 t2 : Fw.Env → O Bool} {g h : Fw.Env → Out} {d : D} {xs : List D} {s : Sl} {i j : Nat} {dd : R → R → Option R} {db : List R → Option R} {gg : List D → O R} {r : R} {rs : List R}
@[simp] theorem e_var0v : fVar 0 (.val d :: es) = .ok (.val d) := rfl
@[simp] theorem e_var0b : fVar 0 (.brw d :: es) = .ok (nrm d) := rfl
@[simp] theorem e_var0o : fVar 0 (.own xs :: es) = .ok (.bor xs) := rfl
@[simp] theorem e_varS : fVar (i + 1) (s :: es) = fVar i es := rfl
@[simp] theorem e_c : fC d es = .ok (.val d) := rfl
@[simp] theorem e_nil : fNil es = .ok [] := rfl
@[simp] theorem e_yes : fYes es = .ok true := rfl
@[simp low] theorem e_cons : fCons fa fr es = (fa es).bind fun a => (fr es).bind fun r => .ok (a.fz :: r) := rfl
@[simp low] theorem e_bin : fBin dd fa fb es = (fa es).bind fun a => (fb es).bind fun b => O.of (dd a.fz b.fz) := rfl
@[simp low] theorem e_bi : fBi db fr es = (fr es).bind fun rs => O.of (db rs) := rfl
@[simp low] theorem e_test : fTest fa es = (fa es).bind fun r => r.fz.tst := rfl
@[simp low] theorem e_not : fNot t es = (t es).bind fun b => .ok (!b) := rfl
@[simp low] theorem e_and : fAnd t t2 es = (t es).bind fun b => if b then t2 es else .ok false := rfl
@[simp low] theorem e_or : fOr t t2 es = (t es).bind fun b => if b then .ok true else t2 es := rfl
@[simp low] theorem e_notV : fNotV fa es = (fa es).bind fun r => r.fz.tst.bind fun b => .ok (.val (.bl (!b))) := rfl
@[simp low] theorem e_if : fIf t fa fb es = (t es).bind fun c => if c then fa es else fb es := rfl
@[simp low] theorem e_call : fCall gg fr es = (fr es).bind fun rs => match gg (rs.map R.dat) with
  | .ok (.val d) => .ok (.val d)
  | .ok (.new xs) => .ok (.new xs)
  | .exc c fs => .exc c fs
  | _ => .no := rfl
@[simp low] theorem e_call0 : fCall0 gg fr es = (fr es).bind fun rs => match gg (rs.map R.dat) with
  | .ok (.val d) => .ok (.val d)
  | .ok (.new xs) => .ok (.new xs)
  | _ => .no := rfl
@[simp low] theorem e_lst : fLst fr es = (fr es).bind fun rs => match stoL rs with
  | some ds => if ds.length ≤ 100000 then .ok (.new ds) else .no
  | none => .no := rfl
@[simp low] theorem e_tup : fTup fr es = (fr es).bind fun rs => match stoL rs with
  | some ds => if ds.length ≤ 100000 then .ok (.val (.tup ds)) else .no
  | none => .no := rfl
@[simp low] theorem e_seq : gSeq g h es = (g es).seq h := rfl
@[simp] theorem e_next : gNext es = .nx es := rfl
@[simp low] theorem e_ifS : gIf t g h es = (t es).out es fun b => if b = true then g es else h es := rfl
@[simp low] theorem e_set {fz : Bool} : gSet i fz fa es = (fa es).out es fun r => match (if fz = true then r.fz else r) with
  | .val d => .nx (es.set i (.val d))
  | .brw d => .nx (es.set i (.brw d))
  | .new xs => .nx (es.set i (.own xs))
  | .bor _ => .no := rfl
@[simp low] theorem e_ret : gRet fa es = (fa es).out es fun r => match r with
  | .val d => .rt (.val d)
  | .new xs => .rt (.new xs)
  | .bor _ => .no
  | .brw _ => .no := rfl
@[simp low] theorem e_retV : gRetV i es = (fVar i es).out es fun r => match r with
  | .val d => .rt (.val d)
  | .new xs => .rt (.new xs)
  | .bor xs => .rt (.new xs)
  | .brw _ => .no := rfl
@[simp] theorem e_raise {c : Addr} : gRaise c es = .exc es c none := rfl
@[simp] theorem fz_v : R.fz (.val d) = .val d := rfl
@[simp] theorem fz_b : R.fz (.brw d) = .brw d := rfl
@[simp] theorem fz_n : R.fz (.new xs) = .val (.lst xs) := rfl
@[simp] theorem fz_o : R.fz (.bor xs) = .bor xs := rfl
@[simp] theorem fz_nrm : R.fz (nrm d) = nrm d := by
  unfold nrm
  cases flat d <;> rfl
@[simp] theorem dat_nrm : R.dat (nrm d) = d := by
  unfold nrm
  cases flat d <;> rfl
@[simp] theorem dat_v : R.dat (.val d) = d := rfl
@[simp] theorem dat_b : R.dat (.brw d) = d := rfl
@[simp] theorem dat_n : R.dat (.new xs) = .lst xs := rfl
@[simp] theorem dat_o : R.dat (.bor xs) = .lst xs := rfl
@[simp] theorem tst_b {b : Bool} : R.tst (.val (.bl b)) = .ok b := rfl
@[simp] theorem nrm_i {x : Int} : nrm (.int x) = .val (.int x) := rfl
@[simp] theorem nrm_s {x : List Nat} : nrm (.str x) = .val (.str x) := rfl
@[simp] theorem nrm_t {x : Bool} : nrm (.bl x) = .val (.bl x) := rfl
@[simp] theorem nrm_0 : nrm .non = .val .non := rfl
@[simp] theorem nrm_l : nrm (.lst xs) = .brw (.lst xs) := rfl
@[simp] theorem nrm_u : nrm (.tup xs) = .brw (.tup xs) := rfl
@[simp] theorem nrm_x {c : Addr} {ns : List Str} {ds : List D} : nrm (.ins c ns ds) = .brw (.ins c ns ds) := rfl
@[simp] theorem nrm_e {c : Addr} {ns : List Str} {ds : List D} : nrm (.exn c ns ds) = .brw (.exn c ns ds) := rfl
@[simp] theorem slot_v : R.slot (.val d) = some (.val d) := rfl
@[simp] theorem slot_b : R.slot (.brw d) = some (.brw d) := rfl
@[simp] theorem tg_nm : stTg (.nm i) r es = r.slot.map fun s => es.set i s := rfl
@[simp] theorem tg_2 {a b : D} : stTg (.tp [i, j]) (.val (.tup [a, b])) es = some ((es.set i (.val a)).set j (.val b)) := rfl
@[simp] theorem tg_3 {a b c : D} {k : Nat} : stTg (.tp [i, j, k]) (.val (.tup [a, b, c])) es = some (((es.set i (.val a)).set j (.val b)).set k (.val c)) := rfl
@[simp] theorem d_add {x y : Int} : dAdd (.val (.int x)) (.val (.int y)) = some (.val (.int (x + y))) := rfl
@[simp] theorem d_sub {x y : Int} : dSub (.val (.int x)) (.val (.int y)) = some (.val (.int (x - y))) := rfl
@[simp] theorem d_le {x y : Int} : dLe (.val (.int x)) (.val (.int y)) = some (.val (.bl (decide (x ≤ y)))) := rfl
@[simp] theorem d_lt {x y : Int} : dLt (.val (.int x)) (.val (.int y)) = some (.val (.bl (decide (x < y)))) := rfl
@[simp] theorem d_gt {x y : Int} : dGt (.val (.int x)) (.val (.int y)) = some (.val (.bl (decide (y < x)))) := rfl
@[simp] theorem d_ge {x y : Int} : dGe (.val (.int x)) (.val (.int y)) = some (.val (.bl (decide (y ≤ x)))) := rfl
@[simp] theorem d_eqi {x y : Int} : dEq (.val (.int x)) (.val (.int y)) = some (.val (.bl (x == y))) := eq_i x y
@[simp] theorem d_nei {x y : Int} : dNe (.val (.int x)) (.val (.int y)) = some (.val (.bl (!(x == y)))) := ne_i x y
@[simp] theorem O_ite {α : Type} {c : Prop} [Decidable c] {a b : O α} {β : Type} {f : α → O β} : (if c then a else b).bind f = if c then a.bind f else b.bind f := by split <;> rfl
@[simp] theorem O_itO {α : Type} {c : Prop} [Decidable c] {a b : O α} {es : Fw.Env} {f : α → Out} : (if c then a else b).out es f = if c then a.out es f else b.out es f := by split <;> rfl
@[simp] theorem O_itS {c : Prop} [Decidable c] {a b : Out} {g : Fw.Env → Out} : (if c then a else b).seq g = if c then a.seq g else b.seq g := by split <;> rfl
@[simp] theorem sto_nil : stoL [] = some [] := rfl
@[simp] theorem sto_v : stoL (.val d :: rs) = (stoL rs).map fun ds => d :: ds := by
  show (match (some d : Option D), stoL rs with | some d, some ds => some (d :: ds) | _, _ => none) = _
  cases stoL rs <;> rfl
end
/-! ### a def's value by its body's -/
theorem run0_rt {n : Nat} {b : Fw.Env → Out} {ds : List D} {e : Fw.Env} {r : R} (h0 : startE n ds = e) (h : b e = .rt r) : run0 n b ds = .ok r := by
  unfold run0; rw [h0, h]
theorem runX_rt {n : Nat} {b : Fw.Env → Out} {ds : List D} {e : Fw.Env} {r : R} (h0 : startE n ds = e) (h : b e = .rt r) : runX n b ds = .ok r := by
  unfold runX; rw [h0, h]
theorem runX_exc {n : Nat} {b : Fw.Env → Out} {ds : List D} {e e2 : Fw.Env} {c : Addr} {fs : Option (List Str × List D)} (h0 : startE n ds = e) (h : b e = .exc e2 c fs) : runX n b ds = .exc c fs := by
  unfold runX; rw [h0, h]
theorem run0F_rt {n : Nat} {b : Fw.Env → Out} {ds : List D} {e : Fw.Env} {r : R} (h0 : startF n ds = e) (h : b e = .rt r) : run0F n b ds = .ok r := by
  unfold run0F; rw [h0, h]
/-! ### loops -/
/-- a loop over items that are made from xs, by an invariant on what is left -/
theorem for_inv {α : Type} {t : Tg} {body : Fw.Env → Out} {r : α → R} (I : List α → Fw.Env → Prop) (hb : ∀ a xs es, I (a :: xs) es → ∃ e1, stTg t (r a) es = some e1 ∧ ∃ e2, body e1 = .nx e2 ∧ I xs e2) :
    ∀ (xs : List α) (es : Fw.Env), I xs es → ∃ e2, forL t body (xs.map r) es = .nx e2 ∧ I [] e2
  | [], es, h => ⟨es, rfl, h⟩
  | a :: xs, es, h => by
    obtain ⟨e1, h1, e2, h2, h3⟩ := hb a xs es h
    obtain ⟨e3, h4, h5⟩ := for_inv I hb xs e2 h3
    refine ⟨e3, ?_, h5⟩
    rw [List.map_cons, forL, h1]
    simp only [h2]
    exact h4
/-- a loop that goes through, or ends by a return where p fails -/
theorem for_all {α : Type} {t : Tg} {body : Fw.Env → Out} {r : α → R} {v : R} (I : Fw.Env → Prop) (p : α → Bool) (hb : ∀ a es, I es → ∃ e1, stTg t (r a) es = some e1 ∧ (p a = true → ∃ e2, body e1 = .nx e2 ∧ I e2) ∧ (p a = false → body e1 = .rt v)) :
    ∀ (xs : List α) (es : Fw.Env), I es → (xs.all p = true → ∃ e2, forL t body (xs.map r) es = .nx e2 ∧ I e2) ∧ (xs.all p = false → forL t body (xs.map r) es = .rt v)
  | [], es, h => ⟨fun _ => ⟨es, rfl, h⟩, fun z => by cases z⟩
  | a :: xs, es, h => by
    obtain ⟨e1, h1, h2, h3⟩ := hb a es h
    cases hp : p a with
    | true =>
      obtain ⟨e2, h4, h5⟩ := h2 hp
      obtain ⟨i1, i2⟩ := for_all I p hb xs e2 h5
      rw [List.all_cons, hp, Bool.true_and, List.map_cons, forL, h1]
      simp only [h4]
      exact ⟨i1, i2⟩
    | false =>
      refine ⟨fun z => by simp [hp] at z, fun _ => ?_⟩
      rw [List.map_cons, forL, h1]
      simp only [h3 hp]
theorem lcL_map {α : Type} {t : Tg} {cond : Fw.Env → O Bool} {elt : Fw.Env → O R} {es : Fw.Env} {r : α → R} (p : α → Bool) (f : α → D) :
    ∀ xs : List α, (∀ a ∈ xs, ∃ e1, stTg t (r a) es = some e1 ∧ cond e1 = .ok (p a) ∧ (p a = true → ∃ q, elt e1 = .ok q ∧ q.fz.sto = some (f a))) → lcL t cond elt es (xs.map r) = .ok ((xs.filter p).map f) := by
  intro ys
  induction ys with
  | nil => intro _; rfl
  | cons a ys ih =>
    intro h
    obtain ⟨e1, h1, h2, h3⟩ := h a (by simp)
    rw [List.map_cons, lcL, h1]
    simp only [h2, noX, O.bind_ok]
    have ih' := ih fun b hb => h b (by simp [hb])
    cases hp : p a with
    | true =>
      obtain ⟨q, h4, h5⟩ := h3 hp
      simp only [if_true, h4, noX, O.bind_ok, h5, ih', List.filter_cons, hp, List.map_cons]
    | false =>
      simp only [Bool.false_eq_true, if_false, ih', List.filter_cons, hp]
/-- a comprehension over items made from xs -/
theorem lc_map {α : Type} {src : Fw.Env → O (List R)} {vs : List Nat} {t : Tg} {cond : Fw.Env → O Bool} {elt : Fw.Env → O R} {es : Fw.Env} {r : α → R} {xs : List α} (p : α → Bool) (f : α → D) (hs : src es = .ok (xs.map r)) (hn : xs.length ≤ 90000)
    (h : ∀ a ∈ xs, ∃ e1, stTg t (r a) (wipeE es vs) = some e1 ∧ cond e1 = .ok (p a) ∧ (p a = true → ∃ q, elt e1 = .ok q ∧ q.fz.sto = some (f a))) : fLc src vs t cond elt es = .ok (.new ((xs.filter p).map f)) := by
  unfold fLc
  rw [hs, O.bind_ok, if_pos (by simpa using hn), lcL_map p f xs h]
  rfl
end Fw
/-! Numbers as sets: bits. -/
namespace Mb
open PySem PySem.Spec PyProof.Rows L2 Fw Mt Mc
/-! ### bits -/
theorem and_nat (a b : Nat) : dAnd (.val (.int a)) (.val (.int b)) = some (.val (.int ((a &&& b : Nat) : Int))) := by
  show some (R.val (.int (Builtin.bitAnd (a : Int) (b : Int)))) = _
  have e : Builtin.bitAnd (a : Int) (b : Int) = ((a &&& b : Nat) : Int) := by
    unfold Builtin.bitAnd
    rw [decide_eq_true (by omega : (0 : Int) ≤ (a : Int)), decide_eq_true (by omega : (0 : Int) ≤ (b : Int))]
    simp only [Int.toNat_natCast]
  rw [e]
def anb (a b : Nat) : Nat := a - (a &&& b)
theorem anb_nat (a b : Nat) : dAnd (.val (.int a)) (.val (.int (Builtin.bitNot (b : Int)))) = some (.val (.int ((anb a b : Nat) : Int))) := by
  show some (R.val (.int (Builtin.bitAnd (a : Int) (Builtin.bitNot (b : Int))))) = _
  have e : Builtin.bitAnd (a : Int) (Builtin.bitNot (b : Int)) = ((anb a b : Nat) : Int) := by
    unfold Builtin.bitAnd Builtin.bitNot
    rw [decide_eq_true (by omega : (0 : Int) ≤ (a : Int)), decide_eq_false (by omega : ¬ (0 : Int) ≤ -(b : Int) - 1)]
    have h3 : (-(-(b : Int) - 1) - 1).toNat = b := by omega
    have := Nat.and_le_left (n := a) (m := b)
    simp only [h3, Int.toNat_natCast]
    unfold anb
    omega
  rw [e]
theorem anb_half (a b : Nat) : anb a b / 2 = anb (a / 2) (b / 2) ∧ anb a b % 2 = a % 2 - (a &&& b) % 2 := by
  have h1 : (a &&& b) / 2 = a / 2 &&& b / 2 := Nat.and_div_two
  have h2 := Nat.testBit_and a b 0
  rw [Nat.testBit_zero, Nat.testBit_zero, Nat.testBit_zero] at h2
  have h3 : (a &&& b) % 2 ≤ a % 2 := by
    by_cases e : a % 2 = 1
    · omega
    · rw [decide_eq_false e, Bool.false_and, decide_eq_false_iff_not] at h2
      omega
  have h4 : (a / 2 &&& b / 2) ≤ a / 2 := Nat.and_le_left
  unfold anb
  omega
theorem anb_bit : ∀ (i a b : Nat), (anb a b).testBit i = (a.testBit i && !b.testBit i)
  | 0, a, b => by
    have h2 := Nat.testBit_and a b 0
    rw [Nat.testBit_zero, Nat.testBit_zero, Nat.testBit_zero] at h2
    rw [Nat.testBit_zero, Nat.testBit_zero, Nat.testBit_zero, (anb_half a b).2]
    by_cases e : a % 2 = 1
    · by_cases f : b % 2 = 1
      · have h : (a &&& b) % 2 = 1 := by rw [decide_eq_true e, decide_eq_true f] at h2; exact of_decide_eq_true h2
        rw [h, e, decide_eq_true f]; rfl
      · have h : ¬ (a &&& b) % 2 = 1 := by rw [decide_eq_true e, decide_eq_false f] at h2; exact of_decide_eq_false h2
        have h0 : (a &&& b) % 2 = 0 := by omega
        rw [h0, e, decide_eq_false f]; rfl
    · have a0 : a % 2 = 0 := by omega
      rw [a0, Nat.zero_sub]; rfl
  | i + 1, a, b => by
    rw [Nat.testBit_succ, (anb_half a b).1, anb_bit i, Nat.testBit_succ, Nat.testBit_succ]
theorem anb_le (a b : Nat) : anb a b ≤ a := Nat.sub_le _ _
theorem ib_le {m : Nat} {x : Int} : Builtin.Int.intBits x ≤ m ↔ x.natAbs < 2 ^ m := by
  unfold Builtin.Int.intBits
  by_cases e : x = 0
  · subst e; simp [Nat.two_pow_pos]
  · have n0 : x.natAbs ≠ 0 := by omega
    rw [if_neg (by simpa using e), Nat.succ_le_iff, Nat.log2_lt n0]
def bts (k : Nat) : List Nat := (List.range (Builtin.Int.intBits (k : Int))).filter fun i => k.testBit i
theorem mem_bts {k s : Nat} : s ∈ bts k ↔ k.testBit s = true := by
  unfold bts
  rw [List.mem_filter, List.mem_range]
  refine ⟨fun h => h.2, fun h => ⟨?_, h⟩⟩
  by_cases c : s < Builtin.Int.intBits (k : Int)
  · exact c
  · exfalso
    have h1 : k < 2 ^ s := by
      have := (ib_le (m := s) (x := (k : Int))).mp (by omega)
      simpa using this
    rw [Nat.testBit_lt_two_pow h1] at h
    cases h
theorem bts_nd (k : Nat) : (bts k).Nodup := List.nodup_range.filter _
theorem bts_len {k : Nat} (h : k < 65536) : (bts k).length ≤ 16 := by
  refine Nat.le_trans (List.length_filter_le _ _) ?_
  rw [List.length_range]
  exact ib_le.mpr (by simpa using h)
def msk (l : List Nat) : Nat := l.foldl (fun a s => a ||| 2 ^ s) 0
theorem msk_from (l : List Nat) : ∀ a k : Nat, (l.foldl (fun a s => a ||| 2 ^ s) a).testBit k = (a.testBit k || decide (k ∈ l)) := by
  induction l with
  | nil => intro a k; simp
  | cons s l ih =>
    intro a k
    rw [List.foldl_cons, ih, Nat.testBit_or, Nat.testBit_two_pow]
    by_cases e : s = k
    · subst e; simp
    · have : ¬ k = s := fun z => e z.symm
      simp [e, this]
theorem msk_bit (l : List Nat) (k : Nat) : (msk l).testBit k = decide (k ∈ l) := by
  unfold msk; rw [msk_from]; simp
theorem shl_w {n : Nat} (h : n ≤ 40) : dShl (.val (.int 1)) (.val (.int n)) = some (.val (.int ((2 ^ n : Nat) : Int))) := by
  show (if shlC 1 (n : Int) = true then some (R.val (.int (1 * 2 ^ (n : Int).toNat))) else none) = _
  rw [if_pos (by simp only [shlC, decide_eq_true_eq]; exact ⟨by omega, by omega, by decide⟩), Int.toNat_natCast, Int.one_mul]
  simp
theorem or_nat (a b : Nat) : dOr (.val (.int a)) (.val (.int b)) = some (.val (.int ((a ||| b : Nat) : Int))) := by
  show some (R.val (.int (Builtin.bitOr (a : Int) (b : Int)))) = _
  have e : Builtin.bitOr (a : Int) (b : Int) = ((a ||| b : Nat) : Int) := by
    unfold Builtin.bitOr Builtin.bitAnd Builtin.bitNot
    have h1 : decide (0 ≤ -(a : Int) - 1) = false := by simp; omega
    have h2 : decide (0 ≤ -(b : Int) - 1) = false := by simp; omega
    rw [h1, h2]
    have h3 : (-(-(a : Int) - 1) - 1).toNat = a := by omega
    have h4 : (-(-(b : Int) - 1) - 1).toNat = b := by omega
    simp only [h3, h4]
    omega
  rw [e]
theorem bor_nat (a b : Nat) : Builtin.bitOr (a : Int) (b : Int) = ((a ||| b : Nat) : Int) := by
  have e := or_nat a b
  have e : some (R.val (.int (Builtin.bitOr (a : Int) (b : Int)))) = _ := e
  injection e with e
  injection e with e
  injection e with e
theorem bit_o {es : Fw.Env} {k i : Nat} (h0 : fVar 0 es = .ok (.val (.int (k : Nat)))) (h1 : fVar 1 es = .ok (.val (.int (i : Nat)))) : fTest (fBin dEq (fBin dAnd (fBin dShr (fVar 0) (fVar 1)) (fC (.int 1))) (fC (.int 1))) es = .ok (k.testBit i) := by
  have e1 : dShr (.val (.int (k : Nat))) (.val (.int (i : Nat))) = some (.val (.int ((k / 2 ^ i : Nat) : Int))) := by
    show (if shrC (k : Int) (i : Int) = true then some (R.val (.int ((k : Int) / 2 ^ (i : Int).toNat))) else none) = _
    rw [if_pos (by simp [shrC]), Int.toNat_natCast, shr_nat]
  have e2 : dAnd (.val (.int ((k / 2 ^ i : Nat) : Int))) (.val (.int 1)) = some (.val (.int ((k / 2 ^ i % 2 : Nat) : Int))) := by
    show some (R.val (.int (Builtin.bitAnd _ 1))) = _
    rw [bit1]
  have e3 : dEq (.val (.int ((k / 2 ^ i % 2 : Nat) : Int))) (.val (.int 1)) = some (.val (.bl (k.testBit i))) := by
    rw [eq_i, Nat.testBit_eq_decide_div_mod_eq]
    by_cases c : k / 2 ^ i % 2 = 1
    · simp [c]
    · have : k / 2 ^ i % 2 = 0 := by omega
      simp [this]
  exact test_o (bin_o (bin_o (bin_o h0 h1 e1) fc_o e2) fc_o e3)
def its (l : List Nat) : List D := l.map fun (s : Nat) => D.int (s : Int)
theorem its_R (l : List Nat) : (its l).map R.val = l.map fun (s : Nat) => R.val (.int (s : Int)) := by unfold its; rw [List.map_map]; rfl
theorem its_nrm (l : List Nat) : (its l).map nrm = l.map fun (s : Nat) => R.val (.int (s : Int)) := by unfold its; rw [List.map_map]; rfl
theorem its_len (l : List Nat) : (its l).length = l.length := by unfold its; rw [List.length_map]
theorem its_flat (l : List Nat) : (its l).all flat = true := by
  rw [List.all_eq_true]
  intro x hx
  obtain ⟨a, _, rfl⟩ := List.mem_map.mp hx
  rfl
theorem its_ints (l : List Nat) : intsOf (its l) = some (l.map fun (s : Nat) => (s : Int)) := by
  induction l with
  | nil => rfl
  | cons a l ih =>
    show intsOf (D.int (a : Int) :: its l) = _
    simp [intsOf, ih]
theorem bts_lt {k n : Nat} (h : k < 2 ^ n) {s : Nat} (hs : s ∈ bts k) : s < n := by
  rcases Nat.lt_or_ge s n with z | z
  · exact z
  · have h1 : k < 2 ^ s := Nat.lt_of_lt_of_le h (Nat.pow_le_pow_right (by decide) z)
    rw [mem_bts, Nat.testBit_lt_two_pow h1] at hs
    cases hs
theorem bts_few {k n : Nat} (h : k < 2 ^ n) : (bts k).length ≤ n := by
  refine Nat.le_trans (List.length_filter_le _ _) ?_
  rw [List.length_range]
  exact ib_le.mpr (by simpa using h)
theorem bts_zero : bts 0 = [] := rfl
theorem bts_nil {k : Nat} : bts k = [] ↔ k = 0 := by
  refine ⟨fun h => Nat.eq_of_testBit_eq fun i => ?_, fun h => by subst h; rfl⟩
  rw [Nat.zero_testBit]
  cases c : k.testBit i with
  | false => rfl
  | true => rw [← mem_bts, h] at c; cases c
theorem bts_sorted (k : Nat) : (bts k).Pairwise (· < ·) := List.Pairwise.filter _ List.pairwise_lt_range
theorem anb_lt {a b n : Nat} (h : a < 2 ^ n) : anb a b < 2 ^ n := Nat.lt_of_le_of_lt (anb_le a b) h
/-! ### how many -/
def ones (n : Nat) : Nat := if h : n = 0 then 0 else n % 2 + ones (n / 2)
termination_by n
decreasing_by omega
theorem ones_zero : ones 0 = 0 := by unfold ones; rfl
theorem ones_half (n : Nat) : ones n = n % 2 + ones (n / 2) := by
  by_cases h : n = 0
  · subst h; simp [ones_zero]
  · conv => lhs; unfold ones
    rw [dif_neg h]
theorem ones_bts : ∀ n : Nat, ones n = (bts n).length := fun n => by
  induction n using Nat.strongRecOn with
  | ind n ih =>
    by_cases h : n = 0
    · subst h; rw [ones_zero]; rfl
    · rw [ones_half, ih (n / 2) (by omega)]
      have hp : (bts n).Perm ((if n % 2 = 1 then [0] else []) ++ (bts (n / 2)).map (· + 1)) := by
        refine (List.perm_ext_iff_of_nodup (bts_nd n) ?_).mpr fun s => ?_
        · refine List.nodup_append.mpr ⟨by split <;> simp, List.Pairwise.map (· + 1) (fun a b e z => e (by omega)) (bts_nd (n / 2)), fun a ha b hb => ?_⟩
          obtain ⟨c, _, rfl⟩ := List.mem_map.mp hb
          split at ha
          · have : a = 0 := by simpa using ha
            omega
          · cases ha
        · rw [mem_bts, List.mem_append, List.mem_map]
          cases s with
          | zero =>
            rw [Nat.testBit_zero]
            by_cases c : n % 2 = 1
            · simp [c]
            · simp [c]
          | succ s =>
            rw [Nat.testBit_succ, ← mem_bts]
            refine ⟨fun z => .inr ⟨s, z, rfl⟩, fun z => ?_⟩
            rcases z with z | ⟨c, hc, e⟩
            · split at z
              · simp at z
              · cases z
            · have : c = s := by omega
              rw [← this]; exact hc
      have hl := hp.length_eq
      rw [List.length_append, List.length_map] at hl
      rw [hl]
      by_cases c : n % 2 = 1
      · rw [if_pos c, c]; rfl
      · rw [if_neg c]
        have : n % 2 = 0 := by omega
        rw [this]; rfl
theorem dig_ones : ∀ (f n : Nat) (ds : List Char), n < f → (((Nat.toDigitsCore 2 f n ds).map Char.toNat).filter fun x => x == 49).length = ones n + ((ds.map Char.toNat).filter fun x => x == 49).length
  | 0, n, ds, h => by omega
  | f + 1, n, ds, h => by
    have e1 : (((Nat.digitChar (n % 2) :: ds).map Char.toNat).filter fun x => x == 49).length = n % 2 + ((ds.map Char.toNat).filter fun x => x == 49).length := by
      rw [List.map_cons, List.filter_cons]
      rcases Nat.mod_two_eq_zero_or_one n with c | c
      · rw [c]; simp [Nat.digitChar]
      · rw [c]
        have : ((Nat.digitChar 1).toNat == 49) = true := by decide
        rw [if_pos this, List.length_cons]; omega
    unfold Nat.toDigitsCore
    simp only
    by_cases h0 : n / 2 = 0
    · rw [if_pos h0, e1, ones_half n, h0, ones_zero, Nat.add_zero]
    · rw [if_neg h0, dig_ones f (n / 2) _ (by omega), e1, ones_half n]; omega
theorem bin_ones (n : Nat) : ((binS (n : Int)).filter fun x => x == 49).length = (bts n).length := by
  unfold binS Nat.toDigits
  rw [dig_ones _ _ _ (by simp), Int.natAbs_natCast, ones_bts]; rfl
theorem bin_len {n : Nat} (h : n < 2 ^ 1000) : (binS (n : Int)).length ≤ 100000 := by
  unfold binS
  rw [List.length_map, Int.natAbs_natCast]
  have key : ∀ (k f n : Nat) (ds : List Char), n < 2 ^ k → (Nat.toDigitsCore 2 f n ds).length ≤ ds.length + k + 1 := fun k => by
    induction k with
    | zero =>
      intro f n ds h
      have : n = 0 := by simpa using h
      subst this
      cases f with
      | zero => simp [Nat.toDigitsCore]
      | succ f => simp [Nat.toDigitsCore]
    | succ k ih =>
      intro f n ds h
      cases f with
      | zero => simp [Nat.toDigitsCore]; omega
      | succ f =>
        unfold Nat.toDigitsCore
        simp only
        by_cases h0 : n / 2 = 0
        · rw [if_pos h0]; simp
        · rw [if_neg h0]
          have := ih f (n / 2) (Nat.digitChar (n % 2) :: ds) (by rw [Nat.pow_succ] at h; omega)
          simp only [List.length_cons] at this
          omega
  have := key 1000 (n + 1) n [] h
  unfold Nat.toDigits
  simp only [List.length_nil] at this
  omega
/-! ### the lowest -/
theorem low_ex : ∀ n : Nat, n ≠ 0 → ∃ s, n.testBit s = true ∧ anb n (n - 1) = 2 ^ s := fun n => by
  induction n using Nat.strongRecOn with
  | ind n ih =>
    intro h
    rcases Nat.mod_two_eq_zero_or_one n with c | c
    · obtain ⟨s, h1, h2⟩ := ih (n / 2) (by omega) (by omega)
      refine ⟨s + 1, by rw [Nat.testBit_succ]; exact h1, ?_⟩
      refine Nat.eq_of_testBit_eq fun i => ?_
      rw [anb_bit]
      cases i with
      | zero => rw [Nat.testBit_zero, c]; simp [Nat.testBit_two_pow]
      | succ i =>
        have e : (n - 1) / 2 = n / 2 - 1 := by omega
        rw [Nat.testBit_succ, Nat.testBit_succ, e, ← anb_bit, h2, Nat.testBit_two_pow, Nat.testBit_two_pow]
        simp
    · refine ⟨0, by rw [Nat.testBit_zero, c]; rfl, ?_⟩
      refine Nat.eq_of_testBit_eq fun i => ?_
      rw [anb_bit]
      cases i with
      | zero =>
        have : (n - 1) % 2 = 0 := by omega
        rw [Nat.testBit_zero, Nat.testBit_zero, c, this]; rfl
      | succ i =>
        have e : (n - 1) / 2 = n / 2 := by omega
        rw [Nat.testBit_succ, Nat.testBit_succ, e]
        rw [show (2 : Nat) ^ 0 = 1 from rfl, Nat.testBit_succ]
        simp
def low (n : Nat) : Nat := Builtin.Int.intBits ((anb n (n - 1) : Nat) : Int) - 1
theorem ib_pow (s : Nat) : Builtin.Int.intBits ((2 ^ s : Nat) : Int) = s + 1 := by
  have h1 : Builtin.Int.intBits ((2 ^ s : Nat) : Int) ≤ s + 1 := ib_le.mpr (by rw [Int.natAbs_natCast]; exact Nat.pow_lt_pow_right (by decide) (by omega))
  have h2 : ¬ Builtin.Int.intBits ((2 ^ s : Nat) : Int) ≤ s := fun z => by
    have := ib_le.mp z
    rw [Int.natAbs_natCast] at this
    omega
  omega
theorem low_bit {n : Nat} (h : n ≠ 0) : n.testBit (low n) = true := by
  obtain ⟨s, h1, h2⟩ := low_ex n h
  unfold low
  rw [h2, ib_pow]
  exact h1
theorem neg_nat {n : Nat} (h : n ≠ 0) : dAnd (.val (.int (n : Int))) (.val (.int (-(n : Int)))) = some (.val (.int ((anb n (n - 1) : Nat) : Int))) := by
  have e : (-(n : Int)) = Builtin.bitNot ((n - 1 : Nat) : Int) := by
    unfold Builtin.bitNot
    omega
  rw [e]
  exact anb_nat n (n - 1)
theorem shr_nat' (n k : Nat) : dShr (.val (.int (n : Int))) (.val (.int (k : Int))) = some (.val (.int ((n / 2 ^ k : Nat) : Int))) := by
  show (if shrC (n : Int) (k : Int) = true then some (R.val (.int ((n : Int) / 2 ^ (k : Int).toNat))) else none) = _
  rw [if_pos (by simp [shrC]), Int.toNat_natCast, shr_nat]
theorem shl_nat {n k : Nat} (h : n < 2 ^ 64) (hk : k ≤ 1000000) : dShl (.val (.int (n : Int))) (.val (.int (k : Int))) = some (.val (.int ((n * 2 ^ k : Nat) : Int))) := by
  show (if shlC (n : Int) (k : Int) = true then some (R.val (.int ((n : Int) * 2 ^ (k : Int).toNat))) else none) = _
  rw [if_pos (by simp only [shlC, decide_eq_true_eq]; exact ⟨by omega, by omega, by simpa using h⟩), Int.toNat_natCast]
  simp
theorem shlW_nat {n k : Nat} (h : n < 2 ^ 2000) (hk : k ≤ 1000) : dShlW (.val (.int (n : Int))) (.val (.int (k : Int))) = some (.val (.int ((n * 2 ^ k : Nat) : Int))) := by
  show (if shwC (n : Int) (k : Int) = true then some (R.val (.int ((n : Int) * 2 ^ (k : Int).toNat))) else none) = _
  rw [if_pos (by unfold shwC; rw [decide_eq_true_eq]; exact ⟨by omega, by omega, by rw [Int.natAbs_natCast]; exact h⟩), Int.toNat_natCast]
  simp
theorem shl_bit (n k i : Nat) : (n * 2 ^ k).testBit i = (decide (k ≤ i) && n.testBit (i - k)) := by
  rw [← Nat.shiftLeft_eq, Nat.testBit_shiftLeft]
theorem shr_bit (n k i : Nat) : (n / 2 ^ k).testBit i = n.testBit (k + i) := by
  rw [← Nat.shiftRight_eq_div_pow, Nat.testBit_shiftRight]
/-! ### lists without twins -/
theorem nd_sub : ∀ {A B : List Nat}, A.Nodup → (∀ x ∈ A, x ∈ B) → A.length ≤ B.length
  | [], B, _, _ => Nat.zero_le _
  | a :: A, B, h, hs => by
    rw [List.nodup_cons] at h
    have ha : a ∈ B := hs a List.mem_cons_self
    have ih := nd_sub (A := A) (B := B.erase a) h.2 fun x hx => (List.mem_erase_of_ne fun z => h.1 (by rw [← z]; exact hx)).mpr (hs x (List.mem_cons_of_mem _ hx))
    rw [List.length_erase_of_mem ha] at ih
    have : 0 < B.length := List.length_pos_of_mem ha
    rw [List.length_cons]
    omega
theorem nd_same : ∀ {B A : List Nat}, A.Nodup → (∀ x, x ∈ A ↔ x ∈ B) → B.length ≤ A.length → B.Nodup
  | [], A, _, _, _ => List.nodup_nil
  | b :: B, A, h, hs, hl => by
    have hb : b ∉ B := fun z => by
      have := nd_sub h fun x hx => by
        rcases List.mem_cons.mp ((hs x).mp hx) with e | e
        · rw [e]; exact z
        · exact e
      rw [List.length_cons] at hl
      omega
    have hA : b ∈ A := (hs b).mpr List.mem_cons_self
    refine List.nodup_cons.mpr ⟨hb, nd_same (A := A.erase b) (h.erase b) (fun x => ?_) ?_⟩
    · constructor
      · intro hx
        have h1 := List.mem_of_mem_erase hx
        rcases List.mem_cons.mp ((hs x).mp h1) with e | e
        · subst e; exact absurd hx (h.not_mem_erase)
        · exact e
      · intro hx
        have hne : x ≠ b := fun z => hb (by rw [← z]; exact hx)
        exact (List.mem_erase_of_ne hne).mpr ((hs x).mpr (List.mem_cons_of_mem _ hx))
    · rw [List.length_erase_of_mem hA]
      rw [List.length_cons] at hl
      omega
theorem sorted_ext : ∀ {A B : List Nat}, A.Pairwise (· < ·) → B.Pairwise (· < ·) → (∀ x, x ∈ A ↔ x ∈ B) → A = B
  | [], [], _, _, _ => rfl
  | [], b :: B, _, _, h => by have := (h b).mpr List.mem_cons_self; cases this
  | a :: A, [], _, _, h => by have := (h a).mp List.mem_cons_self; cases this
  | a :: A, b :: B, hA, hB, h => by
    rw [List.pairwise_cons] at hA hB
    have e : a = b := by
      rcases List.mem_cons.mp ((h a).mp List.mem_cons_self) with z | z
      · exact z
      · rcases List.mem_cons.mp ((h b).mpr List.mem_cons_self) with q | q
        · exact q.symm
        · have := hA.1 b q
          have := hB.1 a z
          omega
    subst e
    rw [sorted_ext hA.2 hB.2 fun x => ?_]
    constructor
    · intro hx
      rcases List.mem_cons.mp ((h x).mp (List.mem_cons_of_mem _ hx)) with z | z
      · have := hA.1 x hx; omega
      · exact z
    · intro hx
      rcases List.mem_cons.mp ((h x).mpr (List.mem_cons_of_mem _ hx)) with z | z
      · have := hB.1 x hx; omega
      · exact z
/-! ### steps of loops -/
theorem forL_nx {t : Tg} {body : Fw.Env → Out} {x : R} {xs : List R} {es e1 e2 : Fw.Env} (h1 : stTg t x es = some e1) (h2 : body e1 = .nx e2) : forL t body (x :: xs) es = forL t body xs e2 := by
  rw [forL, h1]; simp only [h2]
theorem forL_rt {t : Tg} {body : Fw.Env → Out} {x : R} {xs : List R} {es e1 : Fw.Env} {r : R} (h1 : stTg t x es = some e1) (h2 : body e1 = .rt r) : forL t body (x :: xs) es = .rt r := by
  rw [forL, h1]; simp only [h2]
theorem lc_all {α : Type} {src : Fw.Env → O (List R)} {vs : List Nat} {t : Tg} {elt : Fw.Env → O R} {es : Fw.Env} {r : α → R} {xs : List α} (f : α → D) (hs : src es = .ok (xs.map r)) (hn : xs.length ≤ 90000)
    (h : ∀ a ∈ xs, ∃ e1, stTg t (r a) (wipeE es vs) = some e1 ∧ ∃ q, elt e1 = .ok q ∧ q.fz.sto = some (f a)) : fLc src vs t fYes elt es = .ok (.new (xs.map f)) := by
  have := lc_map (vs := vs) (t := t) (cond := fYes) (elt := elt) (fun _ => true) f hs hn fun a ha => by
    obtain ⟨e1, h1, h2⟩ := h a ha
    exact ⟨e1, h1, rfl, fun _ => h2⟩
  rw [this]
  have : xs.filter (fun _ => true) = xs := List.filter_eq_self.mpr fun _ _ => rfl
  rw [this]
end Mb
namespace Mx
open PySem PySem.Spec PyProof.Rows L2 Fw Mt Mc
/-! ### how the least number changes with the saying -/
theorem clean_iff {off : List Nat} {t : List Nat} : clean off t = true ↔ ∀ n ∈ off, agB n 0 t = false := by
  unfold clean
  rw [Bool.not_eq_true', List.any_eq_false]
  exact ⟨fun h n hn => by have := h n hn; simpa using this, fun h n hn => by rw [h n hn]; simp⟩
theorem clean_sub {off off' : List Nat} {t : List Nat} (h : ∀ n ∈ off', n ∈ off) (hc : clean off t = true) : clean off' t = true := clean_iff.mpr fun n hn => clean_iff.mp hc n (h n hn)
theorem exact_sub {off off' on on' : List Nat} {m n : Nat} (h1 : ∀ n ∈ off', n ∈ off) (h2 : ∀ n ∈ on', n ∈ on) (h : Exact (clean off) m on n) : Exact (clean off') m on' n := by
  obtain ⟨ts, a, b, c⟩ := h
  exact ⟨ts, a, fun t ht => ⟨(b t ht).1, clean_sub h1 (b t ht).2⟩, told_iff.mpr fun n hn => told_iff.mp c n (h2 n hn)⟩
theorem least_le {P Q : Nat → Prop} {a b : Nat} (ha : Least P a) (hb : Least Q b) (h : Q a) : b ≤ a := by
  rcases Nat.lt_or_ge a b with c | c
  · exact absurd h (hb.2 a c)
  · exact c
/-- with less to be told, or more that may be told, no more are wanted -/
theorem least_sub {off off' on on' : List Nat} {m a b : Nat} (h1 : ∀ n ∈ off', n ∈ off) (h2 : ∀ n ∈ on', n ∈ on) (ha : Least (Exact (clean off) m on) a) (hb : Least (Exact (clean off') m on') b) : b ≤ a :=
  least_le ha hb (exact_sub h1 h2 ha.1)
/-- with one more to be told one more at the most -/
theorem least_one {off off' on on' : List Nat} {m a b x : Nat} {t : List Nat} (h1 : ∀ n ∈ off', n ∈ off) (h2 : ∀ n ∈ on', n ∈ on ∨ n = x) (ht : Tm m t) (hc : clean off' t = true) (hx : agB x 0 t = true) (ha : Least (Exact (clean off) m on) a) (hb : Least (Exact (clean off') m on') b) : b ≤ a + 1 := by
  obtain ⟨ts, p, q, r⟩ := ha.1
  refine least_le (P := fun k => k = a + 1) (a := a + 1) ⟨rfl, fun k hk e => by omega⟩ hb ⟨t :: ts, by rw [List.length_cons, p], fun u hu => ?_, told_iff.mpr fun n hn => ?_⟩
  · rcases List.mem_cons.mp hu with rfl | hu
    · exact ⟨ht, hc⟩
    · exact ⟨(q u hu).1, clean_sub h1 (q u hu).2⟩
  · rcases h2 n hn with h | rfl
    · obtain ⟨u, hu, e⟩ := told_iff.mp r n h
      exact ⟨u, by simp [hu], e⟩
    · exact ⟨t, by simp, hx⟩
/-- of both together no more than of each -/
theorem least_both {off1 off2 off on1 on2 on : List Nat} {m a b c : Nat} (h1 : ∀ n ∈ off, n ∈ off1) (h2 : ∀ n ∈ off, n ∈ off2) (h3 : ∀ n ∈ on, n ∈ on1 ∨ n ∈ on2) (ha : Least (Exact (clean off1) m on1) a) (hb : Least (Exact (clean off2) m on2) b) (hc : Least (Exact (clean off) m on) c) : c ≤ a + b := by
  obtain ⟨ts, p, q, r⟩ := ha.1
  obtain ⟨us, p', q', r'⟩ := hb.1
  refine least_le (P := fun k => k = a + b) (a := a + b) ⟨rfl, fun k hk e => by omega⟩ hc ⟨ts ++ us, by rw [List.length_append, p, p'], fun u hu => ?_, told_iff.mpr fun n hn => ?_⟩
  · rcases List.mem_append.mp hu with hu | hu
    · exact ⟨(q u hu).1, clean_sub h1 (q u hu).2⟩
    · exact ⟨(q' u hu).1, clean_sub h2 (q' u hu).2⟩
  · rcases h3 n hn with h | h
    · obtain ⟨u, hu, e⟩ := told_iff.mp r n h
      exact ⟨u, by simp [hu], e⟩
    · obtain ⟨u, hu, e⟩ := told_iff.mp r' n h
      exact ⟨u, by simp [hu], e⟩
/-! ### lamps named otherwise -/
/-- settings and terms named otherwise, the same way -/
structure Ren (m : Nat) (f : Nat → Nat) (g : List Nat → List Nat) : Prop where
  lt : ∀ n, n < 2 ^ m → f n < 2 ^ m
  tm : ∀ t, Tm m t → Tm m (g t)
  ff : ∀ n, n < 2 ^ m → f (f n) = n
  gg : ∀ t, Tm m t → g (g t) = t
  ag : ∀ n t, n < 2 ^ m → Tm m t → agB (f n) 0 (g t) = agB n 0 t
section
variable {m : Nat} {f : Nat → Nat} {g : List Nat → List Nat}
theorem Ren.clean (R : Ren m f g) {off : List Nat} (ho : ∀ n ∈ off, n < 2 ^ m) {t : List Nat} (ht : Tm m t) : Mt.clean (off.map f) (g t) = Mt.clean off t := by
  unfold Mt.clean
  rw [List.any_map]
  congr 1
  induction off with
  | nil => rfl
  | cons a off ih =>
    rw [List.any_cons, List.any_cons, ih fun n hn => ho n (by simp [hn])]
    show (agB (f a) 0 (g t) || _) = _
    rw [R.ag a t (ho a (by simp)) ht]
theorem Ren.exact1 (R : Ren m f g) {off on : List Nat} (ho : ∀ n ∈ off, n < 2 ^ m) (hn : ∀ n ∈ on, n < 2 ^ m) {k : Nat} (h : Exact (Mt.clean off) m on k) : Exact (Mt.clean (off.map f)) m (on.map f) k := by
  obtain ⟨ts, a, b, c⟩ := h
  refine ⟨ts.map g, by rw [List.length_map, a], fun u hu => ?_, told_iff.mpr fun n hn' => ?_⟩
  · obtain ⟨t, ht, rfl⟩ := List.mem_map.mp hu
    exact ⟨R.tm t (b t ht).1, by rw [R.clean ho (b t ht).1]; exact (b t ht).2⟩
  · obtain ⟨x, hx, rfl⟩ := List.mem_map.mp hn'
    obtain ⟨t, ht, e⟩ := told_iff.mp c x hx
    exact ⟨g t, List.mem_map.mpr ⟨t, ht, rfl⟩, by rw [R.ag x t (hn x hx) (b t ht).1]; exact e⟩
theorem Ren.map2 (R : Ren m f g) {l : List Nat} (h : ∀ n ∈ l, n < 2 ^ m) : (l.map f).map f = l := by
  induction l with
  | nil => rfl
  | cons a l ih => rw [List.map_cons, List.map_cons, R.ff a (h a (by simp)), ih fun n hn => h n (by simp [hn])]
theorem Ren.least (R : Ren m f g) {off on : List Nat} (ho : ∀ n ∈ off, n < 2 ^ m) (hn : ∀ n ∈ on, n < 2 ^ m) {a : Nat} (h : Least (Exact (Mt.clean off) m on) a) : Least (Exact (Mt.clean (off.map f)) m (on.map f)) a := by
  refine ⟨R.exact1 ho hn h.1, fun k hk e => h.2 k hk ?_⟩
  have lo : ∀ {l : List Nat}, (∀ n ∈ l, n < 2 ^ m) → ∀ n ∈ l.map f, n < 2 ^ m := fun {l} hl n hn => by
    obtain ⟨x, hx, rfl⟩ := List.mem_map.mp hn
    exact R.lt x (hl x hx)
  have := R.exact1 (lo ho) (lo hn) e
  rw [R.map2 ho, R.map2 hn] at this
  exact this
/-! whole terms -/
theorem set_of (m : Nat) (b : Nat → Bool) : ∃ n, n < 2 ^ m ∧ ∀ i, i < m → n.testBit i = b i := by
  have nd : ((List.range m).filter b).Nodup := List.nodup_range.filter _
  refine ⟨num ((List.range m).filter b), num_lt nd fun s hs => List.mem_range.mp (List.mem_filter.mp hs).1, fun i hi => ?_⟩
  rw [num_bit nd]
  cases h : b i with
  | true => exact decide_eq_true (List.mem_filter.mpr ⟨List.mem_range.mpr hi, h⟩)
  | false => exact decide_eq_false fun z => by have := (List.mem_filter.mp z).2; rw [h] at this; cases this
theorem sgn_bit (n i : Nat) : sgn n i = if n.testBit i = true then 49 else 48 := by
  unfold sgn
  rw [Nat.testBit_eq_decide_div_mod_eq]
  by_cases h : n / 2 ^ i % 2 = 1 <;> simp [h]
theorem ag_iff {n m : Nat} {t : List Nat} (ht : Tm m t) : agB n 0 t = true ↔ ∀ i, i < m → t.getD i 0 = 45 ∨ t.getD i 0 = if n.testBit i = true then 49 else 48 := by
  rw [agB_iff, ht.1]
  constructor
  · intro h i hi
    have := h i hi
    rw [Nat.zero_add] at this
    unfold okS at this
    rw [sgn_bit, Bool.or_eq_true] at this
    exact this.imp of_decide_eq_true of_decide_eq_true
  · intro h i hi
    rw [Nat.zero_add]
    unfold okS
    rw [sgn_bit, Bool.or_eq_true]
    exact (h i hi).imp decide_eq_true decide_eq_true
theorem tm_sg {m i : Nat} {t : List Nat} (ht : Tm m t) (hi : i < m) : t.getD i 0 = 48 ∨ t.getD i 0 = 49 ∨ t.getD i 0 = 45 := getD_sg ht.2 (by rw [ht.1]; exact hi)
theorem tm_ext {m : Nat} {t u : List Nat} (ht : Tm m t) (hu : Tm m u) (h : ∀ i, i < m → t.getD i 0 = u.getD i 0) : t = u := by
  apply List.ext_getElem (by rw [ht.1, hu.1])
  intro i h1 h2
  have := h i (by rw [← ht.1]; exact h1)
  simpa [h1, h2] using this
/-- a term within another one: its signs are the other one's, or the other one has - -/
theorem within {t u : List Nat} (ht : Tm m t) (hu : Tm m u) (h : ∀ n, n < 2 ^ m → agB n 0 t = true → agB n 0 u = true) {i : Nat} (hi : i < m) : u.getD i 0 = 45 ∨ u.getD i 0 = t.getD i 0 := by
  obtain ⟨n, hn, hb⟩ := set_of m fun j => decide (t.getD j 0 = 49)
  have an : agB n 0 t = true := (ag_iff ht).mpr fun j hj => by
    rw [hb j hj]
    rcases tm_sg ht hj with e | e | e <;> rw [e] <;> simp
  have a1 := (ag_iff hu).mp (h n hn an) i hi
  rcases a1 with e | e
  · exact .inl e
  · rw [hb i hi] at e
    rcases tm_sg ht hi with f | f | f
    · rw [f] at e ⊢; exact .inr (by simpa using e)
    · rw [f] at e ⊢; exact .inr (by simpa using e)
    · -- t has - there: the other bit as well
      obtain ⟨k, hk, hb'⟩ := set_of m fun j => decide (t.getD j 0 = 49) || decide (j = i)
      have ak : agB k 0 t = true := (ag_iff ht).mpr fun j hj => by
        rw [hb' j hj]
        by_cases c : j = i
        · subst c; exact .inl f
        · rcases tm_sg ht hj with e | e | e <;> rw [e] <;> simp [c]
      have a2 := (ag_iff hu).mp (h k hk ak) i hi
      rcases a2 with g | g
      · exact .inl g
      · rw [hb' i hi] at g
        rw [f] at e
        simp at e g
        rw [e] at g; cases g
theorem whole_iff {off : List Nat} {t : List Nat} (ht : Tm m t) : whole off t = true ↔ Mt.clean off t = true ∧ ∀ u, Tm m u → Mt.clean off u = true → (∀ n, n < 2 ^ m → agB n 0 t = true → agB n 0 u = true) → u = t := by
  constructor
  · intro h
    unfold whole at h
    rw [Bool.and_eq_true, Bool.not_eq_true', List.any_eq_false] at h
    refine ⟨h.1, fun u hu hc hs => ?_⟩
    refine tm_ext hu ht fun i hi => ?_
    rcases within ht hu hs hi with e | e
    · by_cases c : t.getD i 0 = 45
      · rw [e, c]
      · exfalso
        have hb : i ∈ bars t := List.mem_filter.mpr ⟨List.mem_range.mpr (by rw [ht.1]; exact hi), by simpa using c⟩
        refine h.2 (put t i 45) (List.mem_map.mpr ⟨i, hb, rfl⟩) (clean_iff.mpr fun n hn => ?_)
        have hp : Tm m (put t i 45) := put_tm ht hi
        cases z : agB n 0 (put t i 45) with
        | false => rfl
        | true =>
          have z2 : agB n 0 u = true := (ag_iff hu).mpr fun j hj => by
            have := (ag_iff hp).mp z j hj
            rw [put_at (by rw [ht.1]; exact hi)] at this
            by_cases cj : j = i
            · subst cj; exact .inl e
            · rw [if_neg cj] at this
              rcases within ht hu hs hj with e2 | e2
              · exact .inl e2
              · rw [e2]; exact this
          rw [clean_iff.mp hc n hn] at z2; cases z2
    · exact e
  · rintro ⟨h1, h2⟩
    unfold whole
    rw [h1, Bool.true_and, Bool.not_eq_true', List.any_eq_false]
    intro w hw hc
    obtain ⟨k, hk, rfl⟩ := List.mem_map.mp hw
    have hkl := bars_lt hk
    have e := h2 _ (wids_tm ht hw) hc fun n _ ha => ag_wide ha hkl
    have hb := (List.mem_filter.mp hk).2
    have : (put t k 45).getD k 0 = 45 := by rw [put_at hkl, if_pos rfl]
    rw [e] at this
    rw [this] at hb
    simp at hb
theorem Ren.whole1 (R : Ren m f g) {off : List Nat} (ho : ∀ n ∈ off, n < 2 ^ m) {t : List Nat} (ht : Tm m t) (h : whole off t = true) : whole (off.map f) (g t) = true := by
  obtain ⟨h1, h2⟩ := (whole_iff ht).mp h
  refine (whole_iff (R.tm t ht)).mpr ⟨by rw [R.clean ho ht]; exact h1, fun u hu hc hs => ?_⟩
  have hv := R.tm u hu
  have ev := h2 (g u) hv (by rw [← R.clean ho hv, R.gg u hu]; exact hc) fun n hn ha => by
    have := hs (f n) (R.lt n hn) (by rw [R.ag n t hn ht]; exact ha)
    rw [← R.gg u hu, R.ag n (g u) hn hv] at this
    exact this
  rw [← ev, R.gg u hu]
theorem Ren.whole (R : Ren m f g) {off : List Nat} (ho : ∀ n ∈ off, n < 2 ^ m) {t : List Nat} (ht : Tm m t) : Mt.whole (off.map f) (g t) = Mt.whole off t := by
  rw [Bool.eq_iff_iff]
  refine ⟨fun h => ?_, R.whole1 ho ht⟩
  have lo : ∀ n ∈ off.map f, n < 2 ^ m := fun n hn => by
    obtain ⟨x, hx, rfl⟩ := List.mem_map.mp hn
    exact R.lt x (ho x hx)
  have := R.whole1 lo (R.tm t ht) h
  rw [R.map2 ho, R.gg t ht] at this
  exact this
end
end Mx
/-! All terms at once: the place of a term by its signs to the base three. -/
namespace Mw
open Fw Mt Mc Mx Mb
def dig (p k : Nat) : Nat := p / 3 ^ k % 3
def sg : Nat → Nat
  | 0 => 45
  | 1 => 48
  | _ => 49
def trm (n p : Nat) : List Nat := (List.range n).map fun l => sg (dig p (n - 1 - l))
def fp (n s : Nat) : Nat := ((List.range n).map fun l => (1 + s / 2 ^ l % 2) * 3 ^ (n - 1 - l)).sum
def DIG : List (Nat × Nat) := [(1, 2019253788318153519523768572277621160945695882143564523567549944334422601), (3, 193627075592151707351594246656758193515340701027465091300997939867684359), (9, 53814581443582598737769714897921426524402057340961602641364401521151), (27, 784637711077328546155862329604770211722749905832079523839), (81, 2417851639229258349412351)]
/-! ### finite facts -/
theorem f_dig0 : ∀ n, n < 6 → ∀ k, k < n → ∀ p, p < 3 ^ n → (¬ dig p k = 0) ∨ (p + 2 * 3 ^ k < 3 ^ n ∧ ∀ j, j < n → dig (p + 3 ^ k) j = (if j = k then 1 else dig p j) ∧ dig (p + 2 * 3 ^ k) j = (if j = k then 2 else dig p j)) := by decide +kernel
theorem f_dig12 : ∀ k, k < 5 → ∀ p, p < 243 → (dig p k = 1 → dig (p + 2 * 3 ^ k) k = 0) ∧ (dig p k = 2 → dig (p + 3 ^ k) k = 0) := by decide +kernel
theorem f_sub : ∀ n, n < 6 → ∀ k, k < n → ∀ p, p < 3 ^ n → dig p k * 3 ^ k ≤ p ∧ ∀ j, j < n → (dig (p - dig p k * 3 ^ k) j = (if j = k then 0 else dig p j)) := by decide +kernel
theorem f_one : ∀ k, k < 5 → ∀ p, p < 243 → ((3 ^ k ≤ p ∧ dig (p - 3 ^ k) k = 0) ↔ dig p k = 1) ∧ ((2 * 3 ^ k ≤ p ∧ dig (p - 2 * 3 ^ k) k = 0) ↔ dig p k = 2) := by decide +kernel
theorem f_worth : ∀ k, k < 5 → (DIG.getD k (0, 0)).1 = 3 ^ k := by decide +kernel
theorem f_mask : ∀ k, k < 5 → ∀ p, p < 243 → ((DIG.getD k (0, 0)).2.testBit p = decide (dig p k = 0)) := by decide +kernel
theorem f_fp : ∀ n, n < 6 → ∀ s, s < 2 ^ n → fp n s < 3 ^ n ∧ ∀ l, l < n → dig (fp n s) (n - 1 - l) = 1 + s / 2 ^ l % 2 := by decide +kernel
theorem f_full : ∀ n, n < 6 → ∀ p, p < 3 ^ n → (∀ j, j < n → dig p j ≠ 0) → ∃ s, s < 2 ^ n ∧ fp n s = p := by decide +kernel
theorem f_all : ∀ n, n < 6 → allT n = (List.range (3 ^ n)).map (trm n) := by decide +kernel
theorem f_places : ∀ n, n < 6 → (DIG.take n).reverse.foldl (fun P d => P.map (· + d.1) ++ P.map (· + 2 * d.1)) [0] = (List.range (2 ^ n)).map (fp n) := by decide +kernel
end Mw
namespace Mw
open Fw Mt Mc Mx Mb
theorem sg_sg (d : Nat) : sg d = 48 ∨ sg d = 49 ∨ sg d = 45 := by
  match d with
  | 0 => exact .inr (.inr rfl)
  | 1 => exact .inl rfl
  | n + 2 => exact .inr (.inl rfl)
theorem trm_at {n p l : Nat} (h : l < n) : (trm n p).getD l 0 = sg (dig p (n - 1 - l)) := by
  simp [trm, List.getD_eq_getElem?_getD, h]
theorem trm_tm (n p : Nat) : Tm n (trm n p) := by
  refine ⟨by simp [trm], fun c hc => ?_⟩
  obtain ⟨l, _, rfl⟩ := List.mem_map.mp hc
  exact sg_sg _
theorem dig_lt (p k : Nat) : dig p k < 3 := Nat.mod_lt _ (by decide)
theorem three {x : Nat} (h : x < 3) (h0 : x ≠ 0) : x = 1 ∨ x = 2 := by omega
theorem sg_inj {a b : Nat} (ha : a < 3) (hb : b < 3) (h : sg a = sg b) : a = b := by
  have h3 : ∀ x, x < 3 → x = 0 ∨ x = 1 ∨ x = 2 := fun x hx => by omega
  rcases h3 a ha with rfl | rfl | rfl <;> rcases h3 b hb with rfl | rfl | rfl <;> first | rfl | (exact absurd h (by decide))
/-- a setting is had where at each lamp the digit lets it -/
theorem ag_dig {n p s : Nat} : agB s 0 (trm n p) = true ↔ ∀ l, l < n → dig p (n - 1 - l) = 0 ∨ dig p (n - 1 - l) = 1 + s / 2 ^ l % 2 := by
  rw [ag_iff (trm_tm n p)]
  have key : ∀ l, l < n → (((trm n p).getD l 0 = 45 ∨ (trm n p).getD l 0 = if s.testBit l = true then 49 else 48) ↔ (dig p (n - 1 - l) = 0 ∨ dig p (n - 1 - l) = 1 + s / 2 ^ l % 2)) := fun l hl => by
    rw [trm_at hl, Nat.testBit_eq_decide_div_mod_eq]
    have hb : s / 2 ^ l % 2 = 0 ∨ s / 2 ^ l % 2 = 1 := Nat.mod_two_eq_zero_or_one _
    have hd := dig_lt p (n - 1 - l)
    generalize dig p (n - 1 - l) = d at hd
    have h3 : d = 0 ∨ d = 1 ∨ d = 2 := by omega
    rcases h3 with rfl | rfl | rfl <;> rcases hb with h | h <;> rw [h] <;> decide
  exact forall_congr' fun l => imp_congr_right fun hl => key l hl
/-! ### good ones -/
/-- so far, from the last digit on, - may stand -/
def Pg (n : Nat) (S : Nat → Prop) (k p : Nat) : Prop := p < 3 ^ n ∧ (∀ j, k ≤ j → j < n → dig p j ≠ 0) ∧ ∀ s, s < 2 ^ n → agB s 0 (trm n p) = true → S s
theorem dig_ne {n p k c : Nat} {q : Nat} (hk : k < n) (h : ∀ j, j < n → dig q j = if j = k then c else dig p j) (h0 : dig p k = 0) {s : Nat} (hc : c = 1 + s / 2 ^ (n - 1 - k) % 2) (ha : agB s 0 (trm n p) = true) : agB s 0 (trm n q) = true := by
  rw [ag_dig] at ha ⊢
  intro l hl
  rw [h _ (by omega)]
  by_cases e : n - 1 - l = k
  · rw [if_pos e]
    have : l = n - 1 - k := by omega
    rw [this]
    exact .inr hc
  · rw [if_neg e]; exact ha l hl
theorem dig_le {n p k c : Nat} {q : Nat} (hk : k < n) (h : ∀ j, j < n → dig q j = if j = k then c else dig p j) (h0 : dig p k = 0) {s : Nat} (ha : agB s 0 (trm n q) = true) : agB s 0 (trm n p) = true := by
  rw [ag_dig] at ha ⊢
  intro l hl
  by_cases e : n - 1 - l = k
  · rw [e]; exact .inl h0
  · have := ha l hl
    rw [h _ (by omega), if_neg e] at this
    exact this
theorem p243 {n p : Nat} (hn : n < 6) (h : p < 3 ^ n) : p < 243 := Nat.lt_of_lt_of_le h (by
  have : 3 ^ n ≤ 3 ^ 5 := Nat.pow_le_pow_right (by decide) (by omega)
  exact this)
theorem good_step {n k : Nat} (hn : n < 6) (hk : k < n) {S : Nat → Prop} (p : Nat) : Pg n S (k + 1) p ↔ Pg n S k p ∨ (Pg n S k (p + 3 ^ k) ∧ Pg n S k (p + 2 * 3 ^ k)) := by
  constructor
  · rintro ⟨h1, h2, h3⟩
    by_cases h0 : dig p k = 0
    · right
      obtain ⟨q1, q2⟩ := (f_dig0 n hn k hk p h1).resolve_left (not_not_intro h0)
      have l1 : p + 3 ^ k < 3 ^ n := by have := Nat.one_le_pow k 3 (by omega); omega
      refine ⟨⟨l1, fun j hj hjn => ?_, fun s hs ha => h3 s hs (dig_le hk (fun j hj => (q2 j hj).1) h0 ha)⟩, ⟨q1, fun j hj hjn => ?_, fun s hs ha => h3 s hs (dig_le hk (fun j hj => (q2 j hj).2) h0 ha)⟩⟩
      · rw [(q2 j hjn).1]
        by_cases e : j = k
        · rw [if_pos e]; decide
        · rw [if_neg e]; exact h2 j (by omega) hjn
      · rw [(q2 j hjn).2]
        by_cases e : j = k
        · rw [if_pos e]; decide
        · rw [if_neg e]; exact h2 j (by omega) hjn
    · left
      refine ⟨h1, fun j hj hjn => ?_, h3⟩
      by_cases e : j = k
      · rw [e]; exact h0
      · exact h2 j (by omega) hjn
  · rintro (⟨h1, h2, h3⟩ | ⟨⟨a1, a2, a3⟩, ⟨b1, b2, b3⟩⟩)
    · exact ⟨h1, fun j hj hjn => h2 j (by omega) hjn, h3⟩
    · have h1 : p < 3 ^ n := by omega
      have hd := dig_lt p k
      have h0 : dig p k = 0 := by
        have h243 := p243 hn h1
        have h5 : k < 5 := by omega
        rcases (by omega : dig p k = 0 ∨ dig p k = 1 ∨ dig p k = 2) with z | z | z
        · exact z
        · exact absurd ((f_dig12 k h5 p h243).1 z) (b2 k (Nat.le_refl _) hk)
        · exact absurd ((f_dig12 k h5 p h243).2 z) (a2 k (Nat.le_refl _) hk)
      obtain ⟨q1, q2⟩ := (f_dig0 n hn k hk p h1).resolve_left (not_not_intro h0)
      refine ⟨h1, fun j hj hjn => ?_, fun s hs ha => ?_⟩
      · have := a2 j (by omega) hjn
        rw [(q2 j hjn).1, if_neg (by omega)] at this
        exact this
      · rcases Nat.mod_two_eq_zero_or_one (s / 2 ^ (n - 1 - k)) with z | z
        · exact a3 s hs (dig_ne hk (fun j hj => (q2 j hj).1) h0 (by rw [z]) ha)
        · exact b3 s hs (dig_ne hk (fun j hj => (q2 j hj).2) h0 (by rw [z]) ha)
def goodF (ds : List (Nat × Nat)) (g : Nat) : Nat := ds.foldl (fun g d => g ||| ((g / 2 ^ d.1) &&& (g / 2 ^ (2 * d.1)))) g
theorem take_succ_DIG {n k : Nat} (hn : n < 6) (hk : k < n) : ∃ m, DIG.take (k + 1) = DIG.take k ++ [(3 ^ k, m)] ∧ m = (DIG.getD k (0, 0)).2 := by
  have hl : k < DIG.length := by show k < 5; omega
  refine ⟨_, ?_, rfl⟩
  rw [List.take_succ_eq_append_getElem hl]
  congr 2
  have := f_worth k (by omega)
  have e : DIG.getD k (0, 0) = DIG[k] := by simp [List.getD_eq_getElem?_getD, hl]
  rw [e] at this ⊢
  rw [← this]
theorem goodF_bits {n : Nat} (hn : n < 6) {S : Nat → Prop} {g : Nat} (h : ∀ p, g.testBit p = true ↔ Pg n S 0 p) : ∀ k, k ≤ n → ∀ p, (goodF (DIG.take k) g).testBit p = true ↔ Pg n S k p := fun k => by
  induction k with
  | zero => exact fun _ p => h p
  | succ k ih =>
    intro hk p
    obtain ⟨m, e, _⟩ := take_succ_DIG hn hk
    unfold goodF at ih ⊢
    rw [e, List.foldl_append]
    simp only [List.foldl_cons, List.foldl_nil]
    rw [Nat.testBit_or, Nat.testBit_and, shr_bit, shr_bit, Bool.or_eq_true, Bool.and_eq_true, ih (by omega), ih (by omega), ih (by omega), good_step hn hk, Nat.add_comm p (3 ^ k), Nat.add_comm p (2 * 3 ^ k)]
/-- where it begins: the terms that have one setting -/
theorem fp_ag {n s s' : Nat} (hn : n < 6) (hs : s < 2 ^ n) (hs' : s' < 2 ^ n) : agB s' 0 (trm n (fp n s)) = true ↔ s' = s := by
  rw [ag_dig]
  constructor
  · intro h
    refine Nat.eq_of_testBit_eq fun i => ?_
    by_cases hi : i < n
    · have h1 := h i hi
      have h2 := (f_fp n hn s hs).2 i hi
      rw [h2] at h1
      rw [Nat.testBit_eq_decide_div_mod_eq, Nat.testBit_eq_decide_div_mod_eq]
      have : s / 2 ^ i % 2 = s' / 2 ^ i % 2 := by omega
      rw [this]
    · rw [Nat.testBit_lt_two_pow (Nat.lt_of_lt_of_le hs (Nat.pow_le_pow_right (by decide) (by omega))), Nat.testBit_lt_two_pow (Nat.lt_of_lt_of_le hs' (Nat.pow_le_pow_right (by decide) (by omega)))]
  · rintro rfl l hl
    exact .inr ((f_fp n hn s' hs).2 l hl)
theorem fp_inj {n s s' : Nat} (hn : n < 6) (hs : s < 2 ^ n) (hs' : s' < 2 ^ n) (h : fp n s = fp n s') : s = s' := by
  have := (fp_ag hn hs' hs).mp
  rw [← h] at this
  exact this ((fp_ag hn hs hs).mpr rfl)
theorem start_bits {n : Nat} (hn : n < 6) {S : List Nat} (hS : ∀ s ∈ S, s < 2 ^ n) (nd : S.Nodup) (p : Nat) : (num (S.map (fp n))).testBit p = true ↔ Pg n (· ∈ S) 0 p := by
  have nd2 : (S.map (fp n)).Nodup := List.pairwise_map.mpr (nd.imp_of_mem fun {a b} ha hb e z => e (fp_inj hn (hS a ha) (hS b hb) z))
  rw [num_bit nd2, decide_eq_true_eq, List.mem_map]
  constructor
  · rintro ⟨s, hs, rfl⟩
    obtain ⟨f1, f2⟩ := f_fp n hn s (hS s hs)
    refine ⟨f1, fun j _ hj => ?_, fun s' hs' ha => ?_⟩
    · have := f2 (n - 1 - j) (by omega)
      rw [show n - 1 - (n - 1 - j) = j by omega] at this
      rw [this]; omega
    · rw [(fp_ag hn (hS s hs) hs').mp ha]; exact hs
  · rintro ⟨h1, h2, h3⟩
    obtain ⟨s, hs, rfl⟩ := f_full n hn p h1 fun j hj => h2 j (Nat.zero_le _) hj
    exact ⟨s, h3 s hs ((fp_ag hn hs hs).mpr rfl), rfl⟩
/-! ### whole ones -/
def narF (ds : List (Nat × Nat)) (g : Nat) : Nat := ds.foldl (fun a d => (a ||| ((g &&& d.2) * 2 ^ d.1)) ||| ((g &&& d.2) * 2 ^ (2 * d.1))) 0
theorem narF_bits {n : Nat} (hn : n < 6) {g : Nat} (p : Nat) (hp : p < 3 ^ n) : ∀ k, k ≤ n → ((narF (DIG.take k) g).testBit p = true ↔ ∃ j, j < k ∧ dig p j ≠ 0 ∧ g.testBit (p - dig p j * 3 ^ j) = true) := fun k => by
  induction k with
  | zero =>
    intro _
    show (Nat.testBit 0 p = true) ↔ _
    rw [Nat.zero_testBit]
    exact ⟨fun z => (by cases z), fun ⟨j, hj, _⟩ => (by omega)⟩
  | succ k ih =>
    intro hk
    obtain ⟨m, e, em⟩ := take_succ_DIG hn hk
    have ih := ih (by omega)
    unfold narF at ih ⊢
    rw [e, List.foldl_append]
    simp only [List.foldl_cons, List.foldl_nil]
    have h243 := p243 hn hp
    obtain ⟨o1, o2⟩ := f_one k (by omega) p h243
    have hm : ∀ q, q < 243 → m.testBit q = decide (dig q k = 0) := fun q hq => by rw [em]; exact f_mask k (by omega) q hq
    rw [Nat.testBit_or, Nat.testBit_or, shl_bit, shl_bit, Nat.testBit_and, Nat.testBit_and, hm _ (Nat.lt_of_le_of_lt (Nat.sub_le _ _) h243), hm _ (Nat.lt_of_le_of_lt (Nat.sub_le _ _) h243), Bool.or_eq_true, Bool.or_eq_true, ih]
    have hd := dig_lt p k
    constructor
    · rintro ((⟨j, hj, q⟩ | h) | h)
      · exact ⟨j, by omega, q⟩
      · simp only [Bool.and_eq_true, decide_eq_true_eq] at h
        have d1 := o1.mp ⟨h.1, h.2.2⟩
        refine ⟨k, by omega, by rw [d1]; decide, ?_⟩
        rw [d1, Nat.one_mul]; exact h.2.1
      · simp only [Bool.and_eq_true, decide_eq_true_eq] at h
        have d1 := o2.mp ⟨h.1, h.2.2⟩
        refine ⟨k, by omega, by rw [d1]; decide, ?_⟩
        rw [d1]; exact h.2.1
    · rintro ⟨j, hj, h1, h2⟩
      by_cases ej : j = k
      · subst ej
        have hh : dig p j = 1 ∨ dig p j = 2 := three (dig_lt p j) h1
        rcases hh with d1 | d1
        · obtain ⟨a, b⟩ := o1.mpr d1
          rw [d1, Nat.one_mul] at h2
          exact .inl (.inr (by simp only [Bool.and_eq_true, decide_eq_true_eq]; exact ⟨a, h2, b⟩))
        · obtain ⟨a, b⟩ := o2.mpr d1
          rw [d1] at h2
          exact .inr (by simp only [Bool.and_eq_true, decide_eq_true_eq]; exact ⟨a, h2, b⟩)
      · exact .inl (.inl ⟨j, by omega, h1, h2⟩)
theorem put_trm {n p k : Nat} (hn : n < 6) (hp : p < 3 ^ n) (hk : k < n) : put (trm n p) (n - 1 - k) 45 = trm n (p - dig p k * 3 ^ k) := by
  have hl : (trm n p).length = n := (trm_tm n p).1
  refine tm_ext (put_tm (trm_tm n p) (by omega)) (trm_tm n _) fun i hi => ?_
  rw [put_at (by omega), trm_at hi, trm_at hi]
  have f := (f_sub n hn k hk p hp).2 (n - 1 - i) (by omega)
  rw [f]
  by_cases e : i = n - 1 - k
  · rw [if_pos e, if_pos (by omega)]; rfl
  · rw [if_neg e, if_neg (by omega)]
theorem whole_bits {n : Nat} (hn : n < 6) {off : List Nat} {g : Nat} (hg : ∀ p, g.testBit p = true ↔ p < 3 ^ n ∧ clean off (trm n p) = true) (p : Nat) : (anb g (narF (DIG.take n) g)).testBit p = true ↔ p < 3 ^ n ∧ whole off (trm n p) = true := by
  rw [anb_bit, Bool.and_eq_true, hg, Bool.not_eq_true', ← Bool.not_eq_true]
  constructor
  · rintro ⟨⟨h1, h2⟩, h3⟩
    refine ⟨h1, ?_⟩
    unfold whole
    rw [h2, Bool.true_and, Bool.not_eq_true', ← Bool.not_eq_true, List.any_eq_true]
    rintro ⟨w, hw, hc⟩
    obtain ⟨l, hl, rfl⟩ := List.mem_map.mp hw
    have hln : l < n := by have := bars_lt hl; rw [(trm_tm n p).1] at this; exact this
    have hb := (List.mem_filter.mp hl).2
    refine h3 ((narF_bits hn p h1 n (Nat.le_refl _)).mpr ⟨n - 1 - l, by omega, fun z => ?_, ?_⟩)
    · rw [trm_at hln, z] at hb
      exact absurd hb (by decide)
    · rw [hg]
      have e := put_trm hn h1 (k := n - 1 - l) (by omega)
      rw [show n - 1 - (n - 1 - l) = l by omega] at e
      rw [← e]
      exact ⟨by omega, hc⟩
  · rintro ⟨h1, h2⟩
    unfold whole at h2
    rw [Bool.and_eq_true, Bool.not_eq_true', ← Bool.not_eq_true, List.any_eq_true] at h2
    refine ⟨⟨h1, h2.1⟩, fun z => ?_⟩
    obtain ⟨j, hj, hd, hb⟩ := (narF_bits hn p h1 n (Nat.le_refl _)).mp z
    refine h2.2 ⟨put (trm n p) (n - 1 - j) 45, List.mem_map.mpr ⟨n - 1 - j, List.mem_filter.mpr ⟨?_, ?_⟩, rfl⟩, ?_⟩
    · rw [List.mem_range, (trm_tm n p).1]; omega
    · rw [trm_at (by omega), show n - 1 - (n - 1 - j) = j by omega]
      have hl := dig_lt p j
      rcases (by omega : dig p j = 1 ∨ dig p j = 2) with e | e <;> rw [e] <;> decide
    · rw [put_trm hn h1 hj]
      exact ((hg _).mp hb).2
theorem clean_trm {n : Nat} {off S : List Nat} (h : ∀ s, s < 2 ^ n → (s ∈ S ↔ s ∉ off)) (ho : ∀ s ∈ off, s < 2 ^ n) (p : Nat) : Pg n (· ∈ S) n p ↔ p < 3 ^ n ∧ clean off (trm n p) = true := by
  unfold Pg
  rw [clean_iff]
  constructor
  · rintro ⟨h1, _, h3⟩
    refine ⟨h1, fun s hs => ?_⟩
    cases c : agB s 0 (trm n p) with
    | false => rfl
    | true => exact absurd hs ((h s (ho s hs)).mp (h3 s (ho s hs) c))
  · rintro ⟨h1, h2⟩
    refine ⟨h1, fun j hj hjn => by omega, fun s hs ha => (h s hs).mpr fun z => ?_⟩
    rw [h2 s z] at ha
    cases ha
end Mw
namespace Mw
open Fw Mt Mc Mx Mb
/-! ### the mask of what a term has -/
def stp (k a c : Nat) : Nat := if c = 49 then a * 2 ^ 2 ^ k else if c = 45 then a ||| a * 2 ^ 2 ^ k else a
def mkA : Nat → Nat → List Nat → Nat
  | _, a, [] => a
  | k, a, c :: r => mkA (k + 1) (stp k a c) r
def mkh (t : List Nat) : Nat := mkA 0 1 t
theorem mkA_snoc (c : Nat) : ∀ (t : List Nat) (k a : Nat), mkA k a (t ++ [c]) = stp (k + t.length) (mkA k a t) c
  | [], k, a => rfl
  | d :: t, k, a => by
    show mkA (k + 1) (stp k a d) (t ++ [c]) = _
    rw [mkA_snoc c t (k + 1)]
    rw [show k + 1 + t.length = k + (d :: t).length by simp; omega]
    rfl
theorem mkh_snoc (t : List Nat) (c : Nat) : mkh (t ++ [c]) = stp t.length (mkh t) c := by
  unfold mkh; rw [mkA_snoc, Nat.zero_add]
theorem ag_snoc (s : Nat) (t : List Nat) (c : Nat) : agB s 0 (t ++ [c]) = (agB s 0 t && okS s t.length c) := by
  rw [Bool.eq_iff_iff, Bool.and_eq_true, agB_iff, agB_iff]
  constructor
  · intro h
    refine ⟨fun i hi => ?_, ?_⟩
    · have := h i (by simp; omega)
      simpa [List.getD_eq_getElem?_getD, List.getElem?_append_left hi] using this
    · have := h t.length (by simp)
      simpa [List.getD_eq_getElem?_getD] using this
  · rintro ⟨h1, h2⟩ i hi
    by_cases e : i < t.length
    · have := h1 i e
      simpa [List.getD_eq_getElem?_getD, List.getElem?_append_left e] using this
    · have : i = t.length := by simp at hi; omega
      subst this
      simpa [List.getD_eq_getElem?_getD] using h2
theorem ag_low {l s : Nat} {t : List Nat} (ht : Tm l t) (h1 : 2 ^ l ≤ s) (h2 : s < 2 ^ (l + 1)) : agB (s - 2 ^ l) 0 t = agB s 0 t := by
  have hb : ∀ i, i < l → (s - 2 ^ l).testBit i = s.testBit i := fun i hi => by
    have e : s = 2 ^ l + (s - 2 ^ l) := by omega
    conv => rhs; rw [e]
    rw [Nat.testBit_two_pow_add_gt hi]
  rw [Bool.eq_iff_iff, ag_iff ht, ag_iff ht]
  exact forall_congr' fun i => imp_congr_right fun hi => by rw [hb i hi]
theorem mkh_bit : ∀ {m : Nat} {t : List Nat}, Tm m t → ∀ s, (mkh t).testBit s = (decide (s < 2 ^ m) && agB s 0 t) := fun {m} => by
  induction m with
  | zero =>
    intro t ht s
    have : t = [] := List.length_eq_zero_iff.mp ht.1
    subst this
    show Nat.testBit 1 s = _
    rw [show (1 : Nat) = 2 ^ 0 from rfl, Nat.testBit_two_pow]
    cases s with
    | zero => rfl
    | succ s => simp
  | succ l ih =>
    intro t ht s
    obtain ⟨u, c, rfl, hu, hc⟩ := tm_snoc.mp ht
    rw [mkh_snoc, ag_snoc, hu.1]
    have ihs := ih hu
    have lit : (mkh u * 2 ^ 2 ^ l).testBit s = (decide (2 ^ l ≤ s) && (decide (s < 2 ^ (l + 1)) && agB s 0 u)) := by
      rw [shl_bit, ihs]
      by_cases h1 : 2 ^ l ≤ s
      · by_cases h2 : s < 2 ^ (l + 1)
        · rw [ag_low hu h1 h2]
          have : s - 2 ^ l < 2 ^ l := by rw [Nat.pow_succ] at h2; omega
          simp [h1, h2, this]
        · have : ¬ s - 2 ^ l < 2 ^ l := by rw [Nat.pow_succ] at h2; omega
          simp [h2, this]
      · simp [h1]
    have okb : okS s l 49 = s.testBit l ∧ okS s l 48 = !s.testBit l ∧ okS s l 45 = true := by
      unfold okS
      rw [sgn_bit]
      cases s.testBit l <;> decide
    have tb : s < 2 ^ (l + 1) → s.testBit l = decide (2 ^ l ≤ s) := fun h => by
      by_cases h1 : 2 ^ l ≤ s
      · rw [decide_eq_true h1]
        have e : s = 2 ^ l + (s - 2 ^ l) := by omega
        rw [e, Nat.testBit_two_pow_add_eq, Nat.testBit_lt_two_pow (by rw [Nat.pow_succ] at h; omega)]; rfl
      · rw [decide_eq_false h1]
        exact Nat.testBit_lt_two_pow (by omega)
    have hsm : (mkh u).testBit s = (decide (s < 2 ^ l) && agB s 0 u) := ihs s
    have hlt : s < 2 ^ l → s < 2 ^ (l + 1) := fun h => by rw [Nat.pow_succ]; omega
    rcases hc with rfl | rfl | rfl
    · show (mkh u).testBit s = _
      rw [okb.2.1, hsm]
      by_cases h2 : s < 2 ^ (l + 1)
      · rw [tb h2]
        by_cases h1 : 2 ^ l ≤ s
        · have : ¬ s < 2 ^ l := by omega
          simp [h1, this]
        · have : s < 2 ^ l := by omega
          simp [h1, h2, this]
      · have : ¬ s < 2 ^ l := fun z => h2 (hlt z)
        simp [h2, this]
    · show (mkh u * 2 ^ 2 ^ l).testBit s = _
      rw [lit, okb.1]
      by_cases h2 : s < 2 ^ (l + 1)
      · rw [tb h2]
        cases agB s 0 u <;> simp [h2]
      · simp [h2]
    · show (mkh u ||| mkh u * 2 ^ 2 ^ l).testBit s = _
      rw [Nat.testBit_or, lit, okb.2.2, hsm]
      by_cases h2 : s < 2 ^ (l + 1)
      · by_cases h1 : 2 ^ l ≤ s
        · have : ¬ s < 2 ^ l := by omega
          simp [h1, h2, this]
        · have : s < 2 ^ l := by omega
          simp [h1, h2, this]
      · have : ¬ s < 2 ^ l := fun z => h2 (hlt z)
        simp [h2, this]
theorem mkh_lt {m : Nat} {t : List Nat} (ht : Tm m t) : mkh t < 2 ^ 2 ^ m := Nat.lt_pow_two_of_testBit _ fun i hi => by
  rw [mkh_bit ht, decide_eq_false (by omega), Bool.false_and]
/-! ### the terms that a number tells, by how they begin -/
abbrev En := Nat × List Nat × Nat
def nz (e : En) : Bool := !(e.2.2 == 0)
def entA (n W l i : Nat) : En := (mkh (trm l i), trm l i, W / 2 ^ (i * 3 ^ (n - l)) % 2 ^ 3 ^ (n - l))
def ent (n W l : Nat) : List En := ((List.range (3 ^ l)).map (entA n W l)).filter nz
def kids (k w : Nat) (e : En) : List En :=
  (if e.2.2 % 2 ^ w = 0 then [] else [(e.1 ||| e.1 * 2 ^ 2 ^ k, e.2.1 ++ [45], e.2.2 % 2 ^ w)]) ++
  ((if e.2.2 / 2 ^ w % 2 ^ w = 0 then [] else [(e.1, e.2.1 ++ [48], e.2.2 / 2 ^ w % 2 ^ w)]) ++
  (if e.2.2 / 2 ^ (2 * w) = 0 then [] else [(e.1 * 2 ^ 2 ^ k, e.2.1 ++ [49], e.2.2 / 2 ^ (2 * w))]))
theorem range3 (n : Nat) : List.range (3 * n) = (List.range n).flatMap fun i => [3 * i, 3 * i + 1, 3 * i + 2] := by
  induction n with
  | zero => rfl
  | succ n ih =>
    rw [show 3 * (n + 1) = 3 * n + 1 + 1 + 1 by omega, List.range_succ, List.range_succ, List.range_succ, ih, List.range_succ, List.flatMap_append]
    simp
theorem dig_app (l i d : Nat) (hd : d < 3) : trm (l + 1) (3 * i + d) = trm l i ++ [sg d] := by
  unfold trm
  rw [List.range_succ, List.map_append]
  congr 1
  · refine List.map_congr_left fun k hk => ?_
    have hk := List.mem_range.mp hk
    unfold dig
    have e : l + 1 - 1 - k = (l - 1 - k) + 1 := by omega
    rw [e, Nat.pow_succ, Nat.mul_comm (3 ^ (l - 1 - k)) 3, ← Nat.div_div_eq_div_mul]
    have : (3 * i + d) / 3 = i := by omega
    rw [this]
  · unfold dig
    have e : l + 1 - 1 - l = 0 := by omega
    rw [List.map_cons, List.map_nil, e, Nat.pow_zero, Nat.div_one]
    have : (3 * i + d) % 3 = d := by omega
    rw [this]
theorem kid_at {n W l i : Nat} (hl : l < n) : kids l (3 ^ (n - (l + 1))) (entA n W l i) = ([3 * i, 3 * i + 1, 3 * i + 2].map (entA n W (l + 1))).filter nz := by
  generalize hw : 3 ^ (n - (l + 1)) = w
  have h3 : 3 ^ (n - l) = 3 * w := by
    rw [← hw, show n - l = n - (l + 1) + 1 by omega, Nat.pow_succ, Nat.mul_comm]
  have hx : ∀ d, d < 3 → entA n W (l + 1) (3 * i + d) = (mkh (trm l i ++ [sg d]), trm l i ++ [sg d], W / 2 ^ ((3 * i + d) * w) % 2 ^ w) := fun d hd => by
    unfold entA
    rw [hw, dig_app l i d hd]
  have c0 : W / 2 ^ (i * (3 * w)) % 2 ^ (3 * w) % 2 ^ w = W / 2 ^ ((3 * i + 0) * w) % 2 ^ w := by
    refine Nat.eq_of_testBit_eq fun j => ?_
    rw [Nat.testBit_mod_two_pow, Nat.testBit_mod_two_pow, Nat.testBit_mod_two_pow, shr_bit, shr_bit]
    have e : i * (3 * w) = (3 * i + 0) * w := by rw [Nat.add_zero, Nat.mul_comm 3 i, Nat.mul_assoc]
    rw [e]
    by_cases h : j < w
    · have : j < 3 * w := by omega
      simp [h, this]
    · simp [h]
  have c1 : W / 2 ^ (i * (3 * w)) % 2 ^ (3 * w) / 2 ^ w % 2 ^ w = W / 2 ^ ((3 * i + 1) * w) % 2 ^ w := by
    refine Nat.eq_of_testBit_eq fun j => ?_
    rw [Nat.testBit_mod_two_pow, shr_bit, Nat.testBit_mod_two_pow, Nat.testBit_mod_two_pow, shr_bit, shr_bit]
    have e : i * (3 * w) + (w + j) = (3 * i + 1) * w + j := by
      rw [Nat.add_mul, Nat.one_mul, Nat.mul_comm 3 i, Nat.mul_assoc]; omega
    rw [e]
    by_cases h : j < w
    · have : w + j < 3 * w := by omega
      simp [h, this]
    · simp [h]
  have c2 : W / 2 ^ (i * (3 * w)) % 2 ^ (3 * w) / 2 ^ (2 * w) = W / 2 ^ ((3 * i + 2) * w) % 2 ^ w := by
    refine Nat.eq_of_testBit_eq fun j => ?_
    rw [shr_bit, Nat.testBit_mod_two_pow, Nat.testBit_mod_two_pow, shr_bit, shr_bit]
    have e : i * (3 * w) + (2 * w + j) = (3 * i + 2) * w + j := by
      rw [Nat.add_mul, Nat.mul_comm 3 i, Nat.mul_assoc]; omega
    rw [e]
    by_cases h : j < w
    · have : 2 * w + j < 3 * w := by omega
      simp [h, this]
    · have : ¬ 2 * w + j < 3 * w := by omega
      simp [h, this]
  have hk : ∀ d, mkh (trm l i ++ [sg d]) = stp l (mkh (trm l i)) (sg d) := fun d => by
    rw [mkh_snoc, (trm_tm l i).1]
  have z0 : entA n W (l + 1) (3 * i) = (mkh (trm l i ++ [sg 0]), trm l i ++ [sg 0], W / 2 ^ (3 * i * w) % 2 ^ w) := hx 0 (by decide)
  rw [Nat.add_zero] at c0
  rw [List.map_cons, List.map_cons, List.map_cons, List.map_nil, z0, hx 1 (by decide), hx 2 (by decide), hk, hk, hk]
  unfold kids entA
  simp only [h3]
  rw [c0, c1, c2]
  generalize W / 2 ^ (3 * i * w) % 2 ^ w = x0
  generalize W / 2 ^ ((3 * i + 1) * w) % 2 ^ w = x1
  generalize W / 2 ^ ((3 * i + 2) * w) % 2 ^ w = x2
  show _ = List.filter nz [((mkh (trm l i) ||| mkh (trm l i) * 2 ^ 2 ^ l), trm l i ++ [45], x0), (mkh (trm l i), trm l i ++ [48], x1), (mkh (trm l i) * 2 ^ 2 ^ l, trm l i ++ [49], x2)]
  simp only [List.filter_cons, List.filter_nil, nz]
  by_cases h0 : x0 = 0 <;> by_cases h1 : x1 = 0 <;> by_cases h2 : x2 = 0 <;> simp [h0, h1, h2]
theorem kids_zero {k w : Nat} {e : En} (h : nz e = false) : kids k w e = [] := by
  have : e.2.2 = 0 := by unfold nz at h; simpa using h
  unfold kids
  rw [this]
  simp
theorem flat_nz {k w : Nat} : ∀ L : List En, (L.filter nz).flatMap (kids k w) = L.flatMap (kids k w)
  | [] => rfl
  | e :: L => by
    rw [List.filter_cons]
    cases h : nz e with
    | true => rw [if_pos rfl, List.flatMap_cons, List.flatMap_cons, flat_nz L]
    | false => rw [if_neg Bool.false_ne_true, List.flatMap_cons, kids_zero h, flat_nz L]; rfl
theorem ent_step {n W l : Nat} (hl : l < n) : (ent n W l).flatMap (kids l (3 ^ (n - (l + 1)))) = ent n W (l + 1) := by
  unfold ent
  rw [flat_nz, List.flatMap_map, Nat.pow_succ, Nat.mul_comm (3 ^ l) 3, range3]
  rw [List.map_flatMap, List.filter_flatMap]
  congr 1
  funext i
  exact kid_at hl
theorem ent_first {n W : Nat} (hn : 0 < n) (hW : W < 2 ^ 3 ^ n) : kids 0 (3 ^ (n - 1)) (1, [], W) = ent n W 1 := by
  have h := ent_step (W := W) hn
  have e : ent n W 0 = [entA n W 0 0].filter nz := rfl
  rw [e, flat_nz] at h
  have e2 : entA n W 0 0 = (1, [], W) := by
    unfold entA
    rw [Nat.zero_mul, Nat.pow_zero, Nat.div_one, Nat.sub_zero, Nat.mod_eq_of_lt hW]; rfl
  rw [e2] at h
  rw [← h]
  simp
theorem ent_last {n W : Nat} (hn : n < 6) {off : List Nat} (hW : ∀ p, W.testBit p = true ↔ p < 3 ^ n ∧ whole off (trm n p) = true) : (ent n W n).map (fun e => (e.1, e.2.1)) = ((allT n).filter (whole off)).map fun t => (mkh t, t) := by
  rw [f_all n hn]
  unfold ent
  have hz : ∀ i, i < 3 ^ n → nz (entA n W n i) = whole off (trm n i) := fun i hi => by
    have e : (entA n W n i).2.2 = W / 2 ^ i % 2 := by
      show W / 2 ^ (i * 3 ^ (n - n)) % 2 ^ 3 ^ (n - n) = _
      rw [Nat.sub_self, Nat.pow_zero, Nat.mul_one]
    unfold nz
    rw [e, Bool.eq_iff_iff]
    have hb := hW i
    rw [Nat.testBit_eq_decide_div_mod_eq, decide_eq_true_eq] at hb
    have h2 : W / 2 ^ i % 2 = 0 ∨ W / 2 ^ i % 2 = 1 := Nat.mod_two_eq_zero_or_one _
    constructor
    · intro h
      refine (hb.mp ?_).2
      rcases h2 with z | z
      · rw [z] at h; cases h
      · exact z
    · intro h
      rw [hb.mpr ⟨hi, h⟩]; rfl
  have key : ∀ L : List Nat, (∀ i ∈ L, i < 3 ^ n) → ((L.map (entA n W n)).filter nz).map (fun e => (e.1, e.2.1)) = ((L.map (trm n)).filter (whole off)).map fun t => (mkh t, t) := fun L => by
    induction L with
    | nil => intro _; rfl
    | cons i L ih =>
      intro h
      rw [List.map_cons, List.map_cons, List.filter_cons, List.filter_cons, hz i (h i List.mem_cons_self)]
      have ih := ih fun j hj => h j (List.mem_cons_of_mem _ hj)
      cases whole off (trm n i) with
      | true => rw [if_pos rfl, if_pos rfl, List.map_cons, List.map_cons, ih]; rfl
      | false => rw [if_neg Bool.false_ne_true, if_neg Bool.false_ne_true, ih]
  exact key _ fun i hi => List.mem_range.mp hi
end Mw
/-! Terms by what is stripped of them, and the masks of what they have: bodies by themselves. -/
namespace Mt4
open PySem PySem.Spec PyProof.Rows L2 Fw Mt Mc Mx Mb Mw
theorem strip_sub {z s : List Nat} {c : Nat} (h : c ∈ (Txt.stripChars (tx z) (tx s)).cps.toList) : c ∈ z := by
  have hz : (tx z).cps.toList = z := tx_list z
  unfold Txt.stripChars Txt.stripBy at h
  split at h
  · rw [hz] at h; exact h
  · unfold stripped Builtin.Str.strSub at h
    have h : c ∈ ((tx z).cps.extract _ _).toList := h
    rw [Array.toList_extract] at h
    have := List.mem_of_mem_drop (List.mem_of_mem_take h)
    rw [hz] at this
    exact this
abbrev isT : Fw.Env → Out := (gSeq (gIf (fOr (fTest (fBin dNis (fBi dType (fCons (fVar 0) fNil)) (fC (.ty "str")))) (fTest (fBin dNe (fBi dLen (fCons (fVar 0) fNil)) (fVar 1)))) (gRet (fC (.bl false))) gNext)
    (gRet (fBin dEq (fM1 dStrip (fVar 0) (fC (.str [45, 48, 49]))) (fC (.str [])))))
theorem ty_g {es : Fw.Env} {fa : Fw.Env → O R} {x : D} {r : R} {n : String} (h : fa es = .ok r) (hr : r.fz.dat = x) (e : tyD2 x = some n) : fBi dType (fCons fa fNil) es = .ok (.val (.ty n)) := by
  refine bi_o (rs := [r.fz]) ?_ ?_
  · unfold fCons; rw [h, O.bind_ok]; rfl
  · show (tyD2 r.fz.dat).map _ = _
    rw [hr, e]; rfl
theorem isT_other {x : D} {t : String} {n : Int} (h : tyD2 x = some t) (ht : t ≠ "str") : run0 2 isT [x, .int n] = .ok (.val (.bl false)) := by
  refine run0_rt (e := [slotD x, .val (.int n)]) rfl ?_
  have hv : fVar 0 [slotD x, .val (.int n)] = .ok (nrm x) := by
    unfold slotD nrm
    cases hf : flat x with
    | true => rfl
    | false => show O.ok (nrm x) = _; unfold nrm; rw [hf]
  refine seq_r ((if_t (or_t (test_o (bin_o (ty_g hv (by rw [fz_nrm, dat_nrm]) h) fc_o ?_)))).trans rfl)
  rw [nis_ty]; simp [ht]
theorem isT_str {w : List Nat} {n : Nat} (hw : w.length ≤ 100000) (hc : (w.all fun c => decide (c < 1114112)) = true) : run0 2 isT [.str w, .int n] = .ok (.val (.bl (decide (w.length = n) && w.all pb))) := by
  have t1 : fTest (fBin dNis (fBi dType (fCons (fVar 0) fNil)) (fC (.ty "str"))) [.val (.str w), .val (.int n)] = .ok false := test_o (bin_o (ty_g (r := .val (.str w)) rfl rfl rfl) fc_o (by rw [nis_ty]; simp))
  have t2 : fTest (fBin dNe (fBi dLen (fCons (fVar 0) fNil)) (fVar 1)) [.val (.str w), .val (.int n)] = .ok (!(((w.length : Nat) : Int) == (n : Int))) := test_o (bin_o (len_o rfl hw) rfl (ne_i _ _))
  refine run0_rt (e := [.val (.str w), .val (.int n)]) rfl ?_
  by_cases h : w.length = n
  · have hh : (!(((w.length : Nat) : Int) == (n : Int))) = false := by simp [h]
    rw [hh] at t2
    refine (seq_n (if_f ((or_f t1).trans t2))).trans ?_
    rw [decide_eq_true h, Bool.true_and]
    have hs : fM1 dStrip (fVar 0) (fC (.str [45, 48, 49])) [.val (.str w), .val (.int n)] = .ok (.val (.str (Txt.stripChars (tx w) (tx [45, 48, 49])).cps.toList)) := by
      show O.of (if w.length ≤ 100000 then some (R.val (.str (Txt.stripChars (tx w) (tx [45, 48, 49])).cps.toList)) else none) = _
      rw [if_pos hw]; rfl
    refine ret_v (bin_o hs fc_o ?_)
    have h2 : shp 60 (.str (Txt.stripChars (tx w) (tx [45, 48, 49])).cps.toList) = true := by
      show ((Txt.stripChars (tx w) (tx [45, 48, 49])).cps.toList.all fun c => decide (c < 1114112)) = true
      rw [List.all_eq_true]
      exact fun c hcm => List.all_eq_true.mp hc c (strip_sub hcm)
    show (if shp 60 (.str (Txt.stripChars (tx w) (tx [45, 48, 49])).cps.toList) && shp 60 (.str []) then some (R.val (.bl (deq (.str (Txt.stripChars (tx w) (tx [45, 48, 49])).cps.toList) (.str [])))) else none) = _
    rw [h2]
    show some (R.val (.bl ((Txt.stripChars (tx w) (tx [45, 48, 49])).cps.toList == []))) = _
    have hpb : (fun c => decide (c ∈ ([45, 48, 49] : List Nat))) = pb := by
      funext c
      unfold pb
      rw [Bool.eq_iff_iff]
      simp
      omega
    have h3 := strip_nil w [45, 48, 49]
    rw [hpb] at h3
    congr 3
    rw [Bool.eq_iff_iff, beq_iff_eq]
    exact h3
  · have hh : (!(((w.length : Nat) : Int) == (n : Int))) = true := by
      simp; omega
    rw [hh] at t2
    rw [decide_eq_false h, Bool.false_and]
    exact seq_r ((if_t ((or_f t1).trans t2)).trans rfl)
/-! ### the mask of what a term has -/
abbrev mhB : Fw.Env → Out := (gSeq (gSet 4 true (fBin dShl (fVar 1) (fBin dShl (fC (.int 1)) (fVar 2))))
    (gIf (fTest (fBin dEq (fVar 3) (fC (.str [49])))) (gSet 1 true (fVar 4)) (gIf (fTest (fBin dEq (fVar 3) (fC (.str [45])))) (gSet 1 true (fBin dOr (fVar 1) (fVar 4))) gNext)))
abbrev mhT : Fw.Env → Out := (gSeq (gSet 1 true (fC (.int 1)))
    (gSeq (gFor (fEnum true (fCons (fVar 0) fNil)) (.tp [2, 3]) mhB)
    (gRetV 1)))
theorem mh_loop {s0 : Sl} : ∀ (t : List Nat) (k a : Nat) (x2 x3 x4 : Sl), Sg t → k + t.length ≤ 5 → a < 2 ^ 2 ^ k → ∃ y2 y3 y4, forL (.tp [2, 3]) mhB (enD k (signsD t)) [s0, .val (.int (a : Nat)), x2, x3, x4] = .nx [s0, .val (.int (mkA k a t : Nat)), y2, y3, y4]
  | [], k, a, x2, x3, x4, _, _, _ => ⟨_, _, _, rfl⟩
  | c :: t, k, a, x2, x3, x4, hs, hk, ha => by
    rw [List.length_cons] at hk
    have hc := hs c List.mem_cons_self
    have hpp : (2 : Nat) ^ 2 ^ (k + 1) = 2 ^ 2 ^ k * 2 ^ 2 ^ k := by rw [Nat.pow_succ, Nat.mul_comm, Nat.two_mul, Nat.pow_add]
    have hpos := Nat.two_pow_pos (2 ^ k)
    have b1 : a * 2 ^ 2 ^ k < 2 ^ 2 ^ (k + 1) := by rw [hpp]; exact Nat.mul_lt_mul_of_pos_right ha hpos
    have b0 : a < 2 ^ 2 ^ (k + 1) := by rw [hpp]; exact Nat.lt_of_lt_of_le ha (Nat.le_mul_of_pos_right _ hpos)
    have b2 : stp k a c < 2 ^ 2 ^ (k + 1) := by
      unfold stp
      split
      · exact b1
      · split
        · exact Nat.or_lt_two_pow b0 b1
        · exact b0
    have pk : 2 ^ k ≤ 32 := pow_le (by omega)
    have ha64 : a < 2 ^ 64 := Nat.lt_of_lt_of_le ha (Nat.pow_le_pow_right (show 0 < 2 by decide) (by omega))
    obtain ⟨y2, y3, y4, e⟩ := mh_loop (s0 := s0) t (k + 1) (stp k a c) (.val (.int (k : Nat))) (.val (.str [c])) (.val (.int (a * 2 ^ 2 ^ k : Nat))) (fun d hd => hs d (List.mem_cons_of_mem _ hd)) (by omega) b2
    refine ⟨y2, y3, y4, ?_⟩
    have h4 : gSet 4 true (fBin dShl (fVar 1) (fBin dShl (fC (.int 1)) (fVar 2))) [s0, .val (.int (a : Nat)), .val (.int (k : Nat)), .val (.str [c]), x4] = .nx [s0, .val (.int (a : Nat)), .val (.int (k : Nat)), .val (.str [c]), .val (.int (a * 2 ^ 2 ^ k : Nat))] := by
      refine set_v (bin_o rfl (b := .int ((2 ^ k : Nat) : Int)) (bin_o fc_o rfl (shl_w (by omega))) (shl_nat ha64 (by omega)))
    have hb : mhB [s0, .val (.int (a : Nat)), .val (.int (k : Nat)), .val (.str [c]), x4] = .nx [s0, .val (.int (stp k a c : Nat)), .val (.int (k : Nat)), .val (.str [c]), .val (.int (a * 2 ^ 2 ^ k : Nat))] := by
      unfold mhB
      rw [seq_n h4]
      have t1 : fTest (fBin dEq (fVar 3) (fC (.str [49]))) [s0, .val (.int (a : Nat)), .val (.int (k : Nat)), .val (.str [c]), .val (.int (a * 2 ^ 2 ^ k : Nat))] = .ok ([c] == [49]) := test_o (bin_o rfl fc_o (eq_one hc (by decide)))
      have t2 : fTest (fBin dEq (fVar 3) (fC (.str [45]))) [s0, .val (.int (a : Nat)), .val (.int (k : Nat)), .val (.str [c]), .val (.int (a * 2 ^ 2 ^ k : Nat))] = .ok ([c] == [45]) := test_o (bin_o rfl fc_o (eq_one hc (by decide)))
      rcases hc with rfl | rfl | rfl
      · rw [if_o t1]
        exact if_f t2
      · exact (if_t t1).trans rfl
      · rw [if_o t1]
        refine (if_t t2).trans ?_
        exact set_v (bin_o rfl rfl (or_nat _ _))
    show forL _ _ (R.val (.tup [.int (k : Int), .str [c]]) :: enD (k + 1) (signsD t)) _ = _
    rw [forL_nx (e1 := [s0, .val (.int (a : Nat)), .val (.int (k : Nat)), .val (.str [c]), x4]) rfl hb]
    exact e
theorem mh_eq {t : List Nat} (hs : Sg t) (hl : t.length ≤ 5) : run0 5 mhT [.str t] = .ok (.val (.int (mkh t : Nat))) := by
  refine run0_rt (e := [.val (.str t), .no, .no, .no, .no]) rfl ?_
  refine (seq_n (set_v fc_o)).trans ?_
  obtain ⟨y2, y3, y4, e⟩ := mh_loop (s0 := .val (.str t)) t 0 1 .no .no .no hs (by omega) (by decide)
  have src : fEnum true (fCons (fVar 0) fNil) [.val (.str t), .val (.int ((1 : Nat) : Int)), .no, .no, .no] = .ok (enD 0 (signsD t)) := rfl
  refine (seq_n ((for_o src).trans e)).trans ?_
  rfl
abbrev siT : Fw.Env → Out := (gRet (fLc (fRg1 (fCons (fBits (fVar 0)) fNil)) [1] (.nm 1) (fTest (fBin dEq (fBin dAnd (fBin dShr (fVar 0) (fVar 1)) (fC (.int 1))) (fC (.int 1)))) (fVar 1)))
theorem si_eq {k n : Nat} (h : k < 2 ^ n) (hn : n ≤ 1000) : run0 2 siT [.int (k : Nat)] = .ok (.new (its (bts k))) := by
  refine run0_rt (e := [.val (.int (k : Nat)), .no]) rfl ?_
  refine ret_n ?_
  have hb : fBits (fVar 0) [.val (.int (k : Nat)), .no] = .ok (.val (.int ((Builtin.Int.intBits (k : Int) : Nat) : Int))) := rfl
  have hl : Builtin.Int.intBits (k : Int) ≤ 1000 := Nat.le_trans (ib_le.mpr (by simpa using h)) hn
  exact lc_o (p := fun i => k.testBit i) (f := fun i => .int (i : Nat)) (rg_o hb hl) hl fun i hi => ⟨_, rfl, bit_o rfl rfl, fun _ => rfl⟩
/-- the settings of a term -/
theorem bts_mkh {m : Nat} {t : List Nat} (ht : Tm m t) : bts (mkh t) = (List.range (2 ^ m)).filter fun s => agB s 0 t :=
  sorted_ext (bts_sorted _) (List.Pairwise.filter _ List.pairwise_lt_range) fun x => by
    rw [mem_bts, mkh_bit ht, List.mem_filter, List.mem_range, Bool.and_eq_true, decide_eq_true_eq]
end Mt4
namespace K01
open PySem PySem.Spec PyProof.Rows L2 Fw
/-! ### what comes of the data -/
def Sg (s : List Nat) : Prop := ∀ c ∈ s, c = 48 ∨ c = 49 ∨ c = 45
theorem bit1 (n : Nat) : Builtin.bitAnd (n : Int) 1 = ((n % 2 : Nat) : Int) := by
  unfold Builtin.bitAnd
  simp [Nat.and_one_is_mod]
theorem shr_nat (n k : Nat) : (n : Int) / 2 ^ k = ((n / 2 ^ k : Nat) : Int) := by simp
def fin (o : Out) : O R := match o with
  | .nx _ => .ok (.val .non)
  | .rt r => .ok r
  | _ => .no
/-- how a lamp is -/
def sgn (n k : Nat) : Nat := if n / 2 ^ k % 2 = 1 then 49 else 48
theorem g_is_lit_eq (n k : Nat) : g_is_lit [.int n, .int k] = .ok (.val (.bl (decide (n / 2 ^ k % 2 = 1)))) := by
  unfold g_is_lit b_is_lit
  simp [run0, startE, slotD, flat, gSeq, gSet, gIf, gRet, gRetV, gNext, gExpr, fBin, fVar, fC, fCall0, fTest, R.tst, fNot, fAnd, fOr, fAndV, fIf, fNil, fCons, fLst, fTup, fSl, fPart, fNoPart, fBi, fRg1, R.fz, R.dat, R.sto, stoL, nrm, dAdd, dSub, dMod, dDiv, dMulA, dMul, i2, modC, divC, mulC, shlC, shrC, dShl, dShr, dAnd, dIx, atR, dLen, lenD, dSl, O.of, bit1, dEq, shp, deq, ← shr_nat]
  rw [shr_nat, bit1]
  by_cases h : n / 2 ^ k % 2 = 1
  · simp [dEq, shp, deq, h]
  · have h0 : n / 2 ^ k % 2 = 0 := by omega
    simp [dEq, shp, deq, h0]
theorem g_sign_at_eq (n k : Nat) : g_sign_at [.int n, .int k] = .ok (.val (.str [sgn n k])) := by
  unfold g_sign_at b_sign_at
  simp [run0, startE, slotD, flat, gSeq, gSet, gIf, gRet, gRetV, gNext, gExpr, fBin, fVar, fC, fCall0, fTest, R.tst, fNot, fAnd, fOr, fAndV, fIf, fNil, fCons, fLst, fTup, fSl, fPart, fNoPart, fBi, fRg1, R.fz, R.dat, R.sto, stoL, nrm, dAdd, dSub, dMod, dDiv, dMulA, dMul, i2, modC, divC, mulC, shlC, shrC, dShl, dShr, dAnd, dIx, atR, dLen, lenD, dSl, O.of, g_is_lit_eq, sgn]
  by_cases h : n / 2 ^ k % 2 = 1 <;> simp [h]
def okS (n k c : Nat) : Bool := decide (c = 45) || decide (c = sgn n k)
def agB (n : Nat) : Nat → List Nat → Bool
  | _, [] => true
  | k, c :: r => okS n k c && agB n (k + 1) r
theorem enum_loop {body : Fw.Env → Out} {t : List Nat} {n : Nat} (hb : ∀ (k c : Nat), (c = 48 ∨ c = 49 ∨ c = 45) → body [.val (.str t), .val (.int n), .val (.int k), .val (.str [c])] = if okS n k c = true then .nx [.val (.str t), .val (.int n), .val (.int k), .val (.str [c])] else .rt (.val (.bl false))) :
    ∀ (s : List Nat), Sg s → ∀ (k : Nat) (x y : Sl), (forL (.tp [2, 3]) body (enD k (signsD s)) [.val (.str t), .val (.int n), x, y]).seq (gRet (fC (.bl true))) = .rt (.val (.bl (agB n k s)))
  | [], _, k, x, y => rfl
  | c :: s, h, k, x, y => by
    have hc := h c (by simp)
    have ih := enum_loop hb s (fun d hd => h d (by simp [hd])) (k + 1) (.val (.int k)) (.val (.str [c]))
    have e1 : stTg (.tp [2, 3]) (R.val (.tup [.int (k : Int), .str [c]])) [.val (.str t), .val (.int n), x, y] = some [.val (.str t), .val (.int n), .val (.int k), .val (.str [c])] := rfl
    have hbb := hb k c hc
    show (forL (.tp [2, 3]) body (.val (.tup [.int (k : Int), .str [c]]) :: enD (k + 1) (signsD s)) [.val (.str t), .val (.int n), x, y]).seq _ = _
    rw [forL, e1]
    simp only [hbb]
    cases ho : okS n k c with
    | true =>
      simp only [if_true]
      rw [ih, agB, ho]
      simp
    | false =>
      rw [agB, ho]
      simp
theorem g_has_eq (s : List Nat) (hs : Sg s) (n : Nat) : g_has [.str s, .int n] = .ok (.val (.bl (agB n 0 s))) := by
  have h := enum_loop (t := s) (n := n) (body := gIf (fAnd (fTest (fBin dNe (fVar 3) (fC (.str [45])))) (fTest (fBin dNe (fVar 3) (fCall0 g_sign_at (fCons (fVar 1) (fCons (fVar 2) fNil)))))) (gRet (fC (.bl false))) gNext) (by
    intro k c hc
    have hsg : sgn n k = 48 ∨ sgn n k = 49 := by unfold sgn; split <;> simp
    rcases hc with rfl | rfl | rfl <;> rcases hsg with e | e <;> simp [run0, startE, slotD, flat, gSeq, gSet, gIf, gRet, gRetV, gNext, gExpr, fBin, fVar, fC, fCall0, fTest, R.tst, fNot, fAnd, fOr, fAndV, fIf, fNil, fCons, fLst, fTup, fSl, fPart, fNoPart, fBi, fRg1, R.fz, R.dat, R.sto, stoL, nrm, dAdd, dSub, dMod, dDiv, dMulA, dMul, i2, modC, divC, mulC, shlC, shrC, dShl, dShr, dAnd, dIx, atR, dLen, lenD, dSl, O.of, g_sign_at_eq, dNe, shp, deq, okS, e]) s hs 0 .no .no
  exact congrArg fin h
theorem g_law_agrees_eq (s : List Nat) (hs : Sg s) (n : Nat) : g_law_agrees [.str s, .int n] = .ok (.val (.bl (agB n 0 s))) := by
  have h := enum_loop (t := s) (n := n) (body := gIf (fAnd (fTest (fBin dNe (fVar 3) (fC (.str [45])))) (fTest (fBin dNe (fBi dInt (fCons (fVar 3) fNil)) (fBin dAnd (fBin dShr (fVar 1) (fVar 2)) (fC (.int 1)))))) (gRet (fC (.bl false))) gNext) (by
    intro k c hc
    have hsg : (n / 2 ^ k % 2 = 1 ∧ sgn n k = 49) ∨ (n / 2 ^ k % 2 = 0 ∧ sgn n k = 48) := by unfold sgn; split <;> omega
    rcases hc with rfl | rfl | rfl <;> rcases hsg with ⟨e0, e⟩ | ⟨e0, e⟩ <;> simp [run0, startE, slotD, flat, gSeq, gSet, gIf, gRet, gRetV, gNext, gExpr, fBin, fVar, fC, fCall0, fTest, R.tst, fNot, fAnd, fOr, fAndV, fIf, fNil, fCons, fLst, fTup, fSl, fPart, fNoPart, fBi, fRg1, R.fz, R.dat, R.sto, stoL, nrm, dAdd, dSub, dMod, dDiv, dMulA, dMul, i2, modC, divC, mulC, shlC, shrC, dShl, dShr, dAnd, dIx, atR, dLen, lenD, dSl, O.of, dInt, numS, dNe, shp, deq, okS, e] <;> rw [shr_nat, bit1, e0] <;> simp) s hs 0 .no .no
  exact congrArg fin h
/-! ### the law's own defs -/
theorem mulC_r {i j : Int} (h1 : -(2 ^ 64) < j) (h2 : j < 2 ^ 64) : mulC i j = true := by simp only [mulC, decide_eq_true_eq]; exact Or.inr ⟨h1, h2⟩
theorem mulC_l {i j : Int} (h1 : -(2 ^ 64) < i) (h2 : i < 2 ^ 64) : mulC i j = true := by simp only [mulC, decide_eq_true_eq]; exact Or.inl ⟨h1, h2⟩
def spr (c k : Int) : Int := (c + 3) * (48271 + 2 * k * k + k) % 2147483647
theorem spr_lo (c k : Int) : 0 ≤ spr c k := by unfold spr; omega
theorem spr_hi (c k : Int) : spr c k < 2147483647 := by unfold spr; omega
theorem g_law_spread_eq (c k : Int) (h0 : 0 ≤ k) (h1 : k < 100) : g_law_spread [.int c, .int k] = .ok (.val (.int (spr c k))) := by
  have m1 : mulC 2 k = true := mulC_l (by decide) (by decide)
  have m2 : mulC (2 * k) k = true := mulC_r (by omega) (by omega)
  have hk : 0 ≤ 2 * k * k ∧ 2 * k * k ≤ 20000 := by
    constructor
    · exact Int.mul_nonneg (by omega) h0
    · calc 2 * k * k ≤ 200 * 100 := Int.mul_le_mul (by omega) (by omega) h0 (by omega)
        _ = 20000 := by decide
  have m3 : mulC (c + 3) (48271 + 2 * k * k + k) = true := mulC_r (by omega) (by omega)
  unfold g_law_spread b_law_spread
  simp only [run0, startE, slotD, flat, gRet, fBin, fVar, fC, R.fz, dAdd, dMulA, dMul, dMod, i2, modC, O.of, List.map, List.length, List.replicate, List.append, m1, m2, m3, if_true]
  simp [m1, m2, m3, spr]
theorem cut_take {α : Type} (s : List α) (k : Nat) : cutL s none (some (k : Int)) = s.take k := by
  unfold cutL
  rw [HT.sIx_nat, HT.sIx_none]
  simp [List.take_eq_take_iff]
theorem cut_drop {α : Type} (s : List α) (k : Nat) : cutL s (some (k : Int)) none = s.drop k := by
  unfold cutL
  rw [HT.sIx_nat, HT.sIx_none]
  by_cases h : k ≤ s.length
  · rw [Nat.min_eq_left h, List.take_of_length_le (by simp)]
  · rw [Nat.min_eq_right (by omega)]
    simp [List.drop_eq_nil_of_le (Nat.le_of_lt (Nat.lt_of_not_le h))]
theorem atI_nat {α : Type} (s : List α) (k : Nat) : atI s (k : Int) = s[k]? := by
  unfold atI ixN
  by_cases h : k < s.length
  · simp [h]
  · simp [h]
/-- a text with another sign at a place -/
def put (s : List Nat) (k c : Nat) : List Nat := s.take k ++ [c] ++ s.drop (k + 1)
theorem put_len {s : List Nat} {k c : Nat} (h : k < s.length) : (put s k c).length = s.length := by
  simp [put]; omega
theorem put_sg {s : List Nat} {k c : Nat} (h : Sg s) (hc : c = 48 ∨ c = 49 ∨ c = 45) : Sg (put s k c) := by
  intro d hd
  simp only [put, List.mem_append, List.mem_singleton] at hd
  rcases hd with (hd | hd) | hd
  · exact h d (List.mem_of_mem_take hd)
  · subst hd; exact hc
  · exact h d (List.mem_of_mem_drop hd)
def Tm (n : Nat) (s : List Nat) : Prop := s.length = n ∧ Sg s
theorem of_nat {i : Int} (h : 0 ≤ i) : ∃ n : Nat, i = n := ⟨i.toNat, by omega⟩
/-- a sign of the three -/
theorem sign3 {i : Int} (h0 : 0 ≤ i) (h1 : i < 3) : ∃ c, atI [48, 49, 45] i = some c ∧ (c = 48 ∨ c = 49 ∨ c = 45) := by
  have : i = 0 ∨ i = 1 ∨ i = 2 := by omega
  rcases this with rfl | rfl | rfl
  · exact ⟨48, rfl, by simp⟩
  · exact ⟨49, rfl, by simp⟩
  · exact ⟨45, rfl, by simp⟩
end K01
namespace K01
open PySem PySem.Spec PyProof.Rows L2 Fw
/-! ### loops over a range -/
theorem forL_rgA {t : Tg} {body : Fw.Env → Out} {n : Nat} (I : Nat → Fw.Env → Prop) (hb : ∀ i, i < n → ∀ es, I i es → ∃ e1, stTg t (.val (.int (i : Nat))) es = some e1 ∧ ∃ e2, body e1 = .nx e2 ∧ I (i + 1) e2) :
    ∀ (m k : Nat) (es : Fw.Env), k + m = n → I k es → ∃ e2, forL t body ((List.range' k m).map fun i => .val (.int (0 + (i : Nat)))) es = .nx e2 ∧ I n e2
  | 0, k, es, h, hi => by
    have : k = n := by omega
    subst this
    exact ⟨es, rfl, hi⟩
  | m + 1, k, es, h, hi => by
    obtain ⟨e1, h1, e2, h2, h3⟩ := hb k (by omega) es hi
    obtain ⟨e3, h4, h5⟩ := forL_rgA I hb m (k + 1) e2 (by omega) h3
    refine ⟨e3, ?_, h5⟩
    rw [List.range'_succ, List.map_cons, forL, Int.zero_add, h1]
    simp only [h2]
    exact h4
theorem forL_rg {t : Tg} {body : Fw.Env → Out} {n : Nat} (I : Nat → Fw.Env → Prop) (hb : ∀ i, i < n → ∀ es, I i es → ∃ e1, stTg t (.val (.int (i : Nat))) es = some e1 ∧ ∃ e2, body e1 = .nx e2 ∧ I (i + 1) e2)
    {es : Fw.Env} (h : I 0 es) : ∃ e2, forL t body (rgD 0 n) es = .nx e2 ∧ I n e2 := by
  have := forL_rgA I hb n 0 es (by omega) h
  rwa [← List.range_eq_range'] at this
theorem lcL_rgA {t : Tg} {cond : Fw.Env → O Bool} {elt : Fw.Env → O R} {es : Fw.Env} {n : Nat} (p : Nat → Bool) (f : Nat → D)
    (h : ∀ i, i < n → ∃ e1, stTg t (.val (.int (i : Nat))) es = some e1 ∧ cond e1 = .ok (p i) ∧ (p i = true → elt e1 = .ok (.val (f i)))) :
    ∀ (m k : Nat), k + m = n → lcL t cond elt es ((List.range' k m).map fun i => .val (.int (0 + (i : Nat)))) = .ok (((List.range' k m).filter p).map f)
  | 0, k, _ => rfl
  | m + 1, k, hk => by
    obtain ⟨e1, h1, h2, h3⟩ := h k (by omega)
    have ih := lcL_rgA p f h m (k + 1) (by omega)
    rw [List.range'_succ, List.map_cons, lcL, Int.zero_add, h1]
    simp only [h2, noX, O.bind_ok]
    cases hp : p k with
    | true =>
      rw [if_pos rfl, h3 hp]
      simp only [noX, O.bind_ok, R.fz, R.sto, ih]
      simp [hp]
    | false =>
      rw [if_neg (by simp), ih]
      simp [hp]
theorem lcL_rg {t : Tg} {cond : Fw.Env → O Bool} {elt : Fw.Env → O R} {es : Fw.Env} {n : Nat} (p : Nat → Bool) (f : Nat → D)
    (h : ∀ i, i < n → ∃ e1, stTg t (.val (.int (i : Nat))) es = some e1 ∧ cond e1 = .ok (p i) ∧ (p i = true → elt e1 = .ok (.val (f i)))) :
    lcL t cond elt es (rgD 0 n) = .ok (((List.range n).filter p).map f) := by
  have := lcL_rgA p f h n 0 (by omega)
  rwa [← List.range_eq_range'] at this
/-! ### single steps -/
theorem add_s {s t : List Nat} (h : s.length + t.length ≤ 100000) : dAdd (.val (.str s)) (.val (.str t)) = some (.val (.str (s ++ t))) := if_pos h
theorem add_i (i j : Int) : dAdd (.val (.int i)) (.val (.int j)) = some (.val (.int (i + j))) := rfl
theorem mod_i {i j : Int} (h : 0 < j) : dMod (.val (.int i)) (.val (.int j)) = some (.val (.int (i % j))) := if_pos (decide_eq_true h)
theorem div_i {i j : Int} (h : 0 < j ∧ j < 1073741824) : dDiv (.val (.int i)) (.val (.int j)) = some (.val (.int (i / j))) := if_pos (decide_eq_true h)
theorem len_s {s : List Nat} (h : s.length ≤ 100000) : dLen [.val (.str s)] = some (.val (.int (s.length : Nat))) := by
  show (if s.length ≤ 100000 then some (s.length : Int) else none).map _ = _
  rw [if_pos h]; rfl
theorem sl_take {s : List Nat} {k : Nat} (h : s.length ≤ 100000) : dSl (.val (.str s)) none (some (k : Int)) = some (.val (.str (s.take k))) := by
  show (if s.length ≤ 100000 then some (R.val (D.str (cutL s none (some (k : Int))))) else none) = _
  rw [cut_take]; exact if_pos h
theorem sl_drop {s : List Nat} {k : Nat} (h : s.length ≤ 100000) : dSl (.val (.str s)) (some (k : Int)) none = some (.val (.str (s.drop k))) := by
  show (if s.length ≤ 100000 then some (R.val (D.str (cutL s (some (k : Int)) none))) else none) = _
  rw [cut_drop]; exact if_pos h
theorem sl_drop1 {s : List Nat} {k : Nat} (h : s.length ≤ 100000) : dSl (.val (.str s)) (some ((k : Int) + 1)) none = some (.val (.str (s.drop (k + 1)))) := by
  have e : (k : Int) + 1 = ((k + 1 : Nat) : Int) := by omega
  rw [e]; exact sl_drop h
theorem ix_s {s : List Nat} {i : Int} {c : Nat} (h : s.length ≤ 100000) (e : atI s i = some c) : dIx (.val (.str s)) (.val (.int i)) = some (.val (.str [c])) := by
  show (if s.length ≤ 100000 then (atI s i).map (fun c => R.val (.str [c])) else none) = _
  rw [e]
  exact if_pos h
theorem small {s : List Nat} {n : Nat} (h : s.length = n) (h2 : n ≤ 10) : s.length ≤ 100000 := Nat.le_trans (Nat.le_of_eq h) (Nat.le_trans h2 (by decide))
theorem le100k {n : Nat} (h2 : n ≤ 50) : n ≤ 100000 := Nat.le_trans h2 (by decide)
end K01
namespace K01
open PySem PySem.Spec PyProof.Rows L2 Fw
theorem bent_step {g : List D → O R} {n : Nat} {s : List Nat} (hs : Tm n s) (n0 : 0 < n) (n1 : n ≤ 5) (d : Int) (k : Nat) (b c : Sl) (hg : ∃ m : Nat, g [.int d, .int k] = .ok (.val (.int m))) :
    ∃ u b' c', Tm n u ∧ (gSeq (gSet 3 true (fCall0 g (fCons (fVar 1) (fCons (fVar 2) fNil))))
    (gSeq (gSet 4 true (fBin dMod (fVar 3) (fBi dLen (fCons (fVar 0) fNil))))
    (gSet 0 true (fBin dAdd (fBin dAdd (fSl (fVar 0) fNoPart (fPart (fVar 4))) (fBin dIx (fC (.str [48, 49, 45])) (fBin dMod (fBin dDiv (fVar 3) (fC (.int 7))) (fC (.int 3))))) (fSl (fVar 0) (fPart (fBin dAdd (fVar 4) (fC (.int 1)))) fNoPart)))))
      [.val (.str s), .val (.int d), .val (.int k), b, c] = .nx [.val (.str u), .val (.int d), .val (.int k), b', c'] := by
  obtain ⟨m, hsp⟩ := hg
  have hl := hs.1
  obtain ⟨cc, hc1, hc2⟩ := sign3 (i := (m : Int) / 7 % 3) (by omega) (by omega)
  have hp : (0 : Int) < (s.length : Nat) := by omega
  obtain ⟨q, hat⟩ := of_nat (Int.emod_nonneg (m : Int) (Int.ne_of_gt hp))
  have hlt : q < n := by
    have := Int.emod_lt_of_pos (m : Int) hp
    omega
  refine ⟨put s q cc, .val (.int m), .val (.int q), ⟨by rw [put_len (by omega)]; exact hl, put_sg hs.2 hc2⟩, ?_⟩
  have g1 : s.length ≤ 100000 := small hl (by omega)
  have g3 : (s.take q ++ [cc]).length + (s.drop (q + 1)).length ≤ 100000 := le100k (by simp; omega)
  have g4 : (s.take q).length + [cc].length ≤ 100000 := le100k (by simp; omega)
  have g5 : [48, 49, 45].length ≤ 100000 := le100k (by decide)
  simp only [gSeq, gSet, fCall0, fCons, fVar, fNil, fBin, fBi, fC, fSl, fPart, fNoPart, R.fz, R.dat, List.getElem?_cons_zero, List.getElem?_cons_succ, O.bind_ok, List.map_cons, List.map_nil, hsp, O.out_ok, Out.seq_nx, if_true, List.set_cons_zero, List.set_cons_succ, len_s g1, O.of_some, mod_i hp, hat, sl_take g1, sl_drop1 g1, div_i (i := (m : Int)) (j := 7) (by decide), mod_i (j := 3) (by decide), ix_s g5 hc1, add_s g3, add_s g4, add_i]
  rfl
theorem spr_nat (c k : Int) (h0 : 0 ≤ k) (h1 : k < 100) : ∃ m : Nat, g_law_spread [.int c, .int k] = .ok (.val (.int m)) := by
  obtain ⟨m, hm⟩ := of_nat (spr_lo c k)
  exact ⟨m, by rw [g_law_spread_eq c k h0 h1, hm]⟩
theorem g_law_bent_eq {n : Nat} {s : List Nat} (hs : Tm n s) (n0 : 0 < n) (n1 : n ≤ 5) (d : Int) : ∃ u, Tm n u ∧ g_law_bent [.str s, .int d] = .ok (.val (.str u)) := by
  have h3 : (d % 3).toNat ≤ 3 := by omega
  obtain ⟨e2, h1, s2, a, b, c, h2, h4⟩ := forL_rg (t := .nm 2) (n := (d % 3).toNat) (es := [.val (.str s), .val (.int d), .no, .no, .no])
    (I := fun _ es => ∃ s a b c, es = [.val (.str s), .val (.int d), a, b, c] ∧ Tm n s)
    (body := (gSeq (gSet 3 true (fCall0 g_law_spread (fCons (fVar 1) (fCons (fVar 2) fNil))))
    (gSeq (gSet 4 true (fBin dMod (fVar 3) (fBi dLen (fCons (fVar 0) fNil))))
    (gSet 0 true (fBin dAdd (fBin dAdd (fSl (fVar 0) fNoPart (fPart (fVar 4))) (fBin dIx (fC (.str [48, 49, 45])) (fBin dMod (fBin dDiv (fVar 3) (fC (.int 7))) (fC (.int 3))))) (fSl (fVar 0) (fPart (fBin dAdd (fVar 4) (fC (.int 1)))) fNoPart))))))
    (fun i hi es ⟨s, a, b, c, h, ht⟩ => by
      subst h
      obtain ⟨u, b', c', hu, e⟩ := bent_step (g := g_law_spread) ht n0 n1 d i b c (spr_nat d i (by omega) (by omega))
      exact ⟨_, rfl, _, e, u, _, b', c', rfl, hu⟩) ⟨s, _, _, _, rfl, hs⟩
  subst h2
  refine ⟨s2, h4, ?_⟩
  have hr : -(2 ^ 62) ≤ d % 3 ∧ d % 3 < 2 ^ 62 := by omega
  have hq : fRg1 (fCons (fBin dMod (fVar 1) (fC (.int 3))) fNil) [.val (.str s), .val (.int d), .no, .no, .no] = .ok (rgD 0 (d % 3).toNat) := by
    simp only [fRg1, fCons, fVar, fNil, fBin, fC, R.fz, O.bind_ok, O.of_some, List.getElem?_cons_zero, List.getElem?_cons_succ, mod_i (j := 3) (by decide)]
    exact if_pos hr
  have e : g_law_bent [.str s, .int d] = fin ((O.out (fRg1 (fCons (fBin dMod (fVar 1) (fC (.int 3))) fNil) [.val (.str s), .val (.int d), .no, .no, .no]) [.val (.str s), .val (.int d), .no, .no, .no] (fun xs => forL (.nm 2) (gSeq (gSet 3 true (fCall0 g_law_spread (fCons (fVar 1) (fCons (fVar 2) fNil))))
    (gSeq (gSet 4 true (fBin dMod (fVar 3) (fBi dLen (fCons (fVar 0) fNil))))
    (gSet 0 true (fBin dAdd (fBin dAdd (fSl (fVar 0) fNoPart (fPart (fVar 4))) (fBin dIx (fC (.str [48, 49, 45])) (fBin dMod (fBin dDiv (fVar 3) (fC (.int 7))) (fC (.int 3))))) (fSl (fVar 0) (fPart (fBin dAdd (fVar 4) (fC (.int 1)))) fNoPart))))) xs [.val (.str s), .val (.int d), .no, .no, .no])).seq (gRetV 0)) := rfl
  rw [e, hq, O.out_ok, h1]
  rfl
end K01
namespace K01
open PySem PySem.Spec PyProof.Rows L2 Fw
/-! ### rules of steps -/
section
variable {es e2 : Fw.Env} {f fa fb : Fw.Env → O R} {g h : Fw.Env → Out} {d : R → R → Option R} {a b : D} {c : R} {i : Nat} {fr : Fw.Env → O (List R)} {rs : List R} {k : Bool} {tt : Fw.Env → O Bool}
theorem set_v {fz : Bool} (h : f es = .ok (.val a)) : gSet i fz f es = .nx (es.set i (.val a)) := by
  unfold gSet; rw [h]; cases fz <;> rfl
theorem set_n {xs : List D} (h : f es = .ok (.new xs)) : gSet i true f es = .nx (es.set i (.val (.lst xs))) := by
  unfold gSet; rw [h]; rfl
theorem set_own {xs : List D} (h : f es = .ok (.new xs)) : gSet i false f es = .nx (es.set i (.own xs)) := by
  unfold gSet; rw [h]; rfl
theorem seq_n (h1 : g es = .nx e2) : gSeq g h es = h e2 := by unfold gSeq; rw [h1]; rfl
theorem seq_r {r : R} (h1 : g es = .rt r) : gSeq g h es = .rt r := by unfold gSeq; rw [h1]; rfl
theorem if_o (h1 : tt es = .ok k) : gIf tt g h es = if k = true then g es else h es := by unfold gIf; rw [h1]; rfl
theorem if_t (h1 : tt es = .ok true) : gIf tt g h es = g es := by unfold gIf; rw [h1]; rfl
theorem if_f (h1 : tt es = .ok false) : gIf tt g gNext es = .nx es := by unfold gIf; rw [h1]; rfl
theorem bin_o (ha : fa es = .ok (.val a)) (hb : fb es = .ok (.val b)) (hc : d (.val a) (.val b) = some c) : fBin d fa fb es = .ok c := by
  unfold fBin; rw [ha, O.bind_ok, hb, O.bind_ok]
  show O.of (d (.val a) (.val b)) = _
  rw [hc]; rfl
theorem cons_o (ha : fa es = .ok (.val a)) (hr : fr es = .ok rs) : fCons fa fr es = .ok (.val a :: rs) := by
  unfold fCons; rw [ha, O.bind_ok, hr]; rfl
theorem nil_o : fNil es = .ok [] := rfl
theorem call_o {gg : List D → O R} (h1 : fr es = .ok rs) (hg : gg (rs.map R.dat) = .ok (.val a)) : fCall0 gg fr es = .ok (.val a) := by
  unfold fCall0; rw [h1, O.bind_ok, hg]
theorem call_n {gg : List D → O R} {xs : List D} (h1 : fr es = .ok rs) (hg : gg (rs.map R.dat) = .ok (.new xs)) : fCall0 gg fr es = .ok (.new xs) := by
  unfold fCall0; rw [h1, O.bind_ok, hg]
theorem bi_o {dd : List R → Option R} (h1 : fr es = .ok rs) (hg : dd rs = some c) : fBi dd fr es = .ok c := by
  unfold fBi; rw [h1, O.bind_ok, hg]; rfl
theorem test_o (h1 : f es = .ok (.val (.bl k))) : fTest f es = .ok k := by
  unfold fTest; rw [h1]; rfl
theorem ifv_o (h1 : tt es = .ok k) : fIf tt fa fb es = if k = true then fa es else fb es := by unfold fIf; rw [h1]; rfl
theorem ret_v (h1 : f es = .ok (.val a)) : gRet f es = .rt (.val a) := by unfold gRet; rw [h1]; rfl
theorem ret_n {xs : List D} (h1 : f es = .ok (.new xs)) : gRet f es = .rt (.new xs) := by unfold gRet; rw [h1]; rfl
theorem tup2 {x y : D} (ha : fa es = .ok (.val x)) (hb : fb es = .ok (.val y)) : fTup (fCons fa (fCons fb fNil)) es = .ok (.val (.tup [x, y])) := by
  unfold fTup; rw [cons_o ha (cons_o hb nil_o), O.bind_ok]; rfl
theorem slt {s : List Nat} {k : Nat} (ha : fa es = .ok (.val (.str s))) (hb : fb es = .ok (.val (.int k))) (h : s.length ≤ 100000) : fSl fa fNoPart (fPart fb) es = .ok (.val (.str (s.take k))) := by
  unfold fSl fNoPart fPart; rw [ha, O.bind_ok, O.bind_ok, hb, O.bind_ok, O.bind_ok]
  show O.of (dSl (.val (.str s)) none (some (k : Int))) = _
  rw [sl_take h]; rfl
theorem sld {s : List Nat} {k : Nat} (ha : fa es = .ok (.val (.str s))) (hb : fb es = .ok (.val (.int k))) (h : s.length ≤ 100000) : fSl fa (fPart fb) fNoPart es = .ok (.val (.str (s.drop k))) := by
  unfold fSl fNoPart fPart; rw [ha, O.bind_ok, hb, O.bind_ok, O.bind_ok, O.bind_ok]
  show O.of (dSl (.val (.str s)) (some (k : Int)) none) = _
  rw [sl_drop h]; rfl
theorem sld1 {s : List Nat} {k : Nat} (ha : fa es = .ok (.val (.str s))) (hb : fb es = .ok (.val (.int ((k : Int) + 1)))) (h : s.length ≤ 100000) : fSl fa (fPart fb) fNoPart es = .ok (.val (.str (s.drop (k + 1)))) := by
  unfold fSl fNoPart fPart; rw [ha, O.bind_ok, hb, O.bind_ok, O.bind_ok, O.bind_ok]
  show O.of (dSl (.val (.str s)) (some ((k : Int) + 1)) none) = _
  rw [sl_drop1 h]; rfl
theorem fc_o : fC a es = .ok (.val a) := rfl
theorem rg_o {n : Nat} (h : fa es = .ok (.val (.int n))) (hn : n ≤ 1000) : fRg1 (fCons fa fNil) es = .ok (rgD 0 n) := by
  unfold fRg1
  rw [cons_o h nil_o, O.bind_ok]
  show (if -(2 ^ 62) ≤ (n : Int) ∧ (n : Int) < 2 ^ 62 then _ else _) = _
  rw [if_pos (by omega)]; rfl
theorem for_o {src : Fw.Env → O (List R)} {t : Tg} {body : Fw.Env → Out} {xs : List R} (h : src es = .ok xs) : gFor src t body es = forL t body xs es := by unfold gFor; rw [h]; rfl
theorem eq_i (x y : Int) : dEq (.val (.int x)) (.val (.int y)) = some (.val (.bl (x == y))) := by
  simp [dEq, R.dat, shp, deq]
end
/-! ### the pair -/
theorem join1 : ∀ cs : List Nat, joinS [] (cs.map fun c => [c]) = cs
  | [] => rfl
  | [c] => rfl
  | c :: e :: r => by
    have := join1 (e :: r)
    simp only [List.map_cons] at this ⊢
    rw [joinS, this]; rfl
theorem strs1 : ∀ cs : List Nat, strsOf (cs.map fun c => D.str [c]) = some (cs.map fun c => [c])
  | [] => rfl
  | c :: r => by
    rw [List.map_cons, strsOf, strs1 r]; rfl
theorem sum1 : ∀ cs : List Nat, ((cs.map fun c => [c]).map (·.length)).sum = cs.length
  | [] => rfl
  | c :: r => by
    have := sum1 r
    simp only [List.map_cons, List.sum_cons, List.length_cons, List.length_nil] at this ⊢
    omega
theorem join_eq {cs : List Nat} (h : cs.length ≤ 1000) : dJoin [] (.val (.lst (cs.map fun c => D.str [c]))) = some (.val (.str cs)) := by
  simp only [dJoin, R.dat, itmD, strs1, sum1, join1, List.length_map, List.length_nil, Nat.mul_zero, Nat.add_zero]
  exact if_pos (Nat.le_trans h (by decide))
theorem pair_even {gs gb : List D → O R} {es : Fw.Env} {c k d n : Nat} {l : Int} (n0 : 0 < n) (n1 : n ≤ 5)
    (hgs : ∀ c k : Int, 0 ≤ k → k < 100 → ∃ m : Nat, gs [.int c, .int k] = .ok (.val (.int m))) (hgb : ∀ (n : Nat) (s : List Nat) (d : Int), Tm n s → 0 < n → n ≤ 5 → ∃ u, Tm n u ∧ gb [.str s, .int d] = .ok (.val (.str u)))
    (he : ∃ a b z x, es = [a, b, .val (.int d), z, .val (.int n), .no, .no, .no, x]) : ∃ s u, Tm n s ∧ Tm n u ∧
    (gSeq (gSet 5 true (fM1 dJoin (fC (.str [])) (fLc (fRg1 (fCons (fVar 4) fNil)) [8] (.nm 8) fYes (fBin dIx (fC (.str [48, 49, 45])) (fBin dMod (fBin dDiv (fCall0 gs (fCons (fVar 2) (fCons (fVar 8) fNil))) (fC (.int 9))) (fC (.int 3)))))))
    (gRet (fTup (fCons (fVar 5) (fCons (fCall0 gb (fCons (fVar 5) (fCons (fBin dDiv (fVar 2) (fC (.int 11))) fNil))) fNil))))) es = .rt (.val (.tup [.str s, .str u])) := by
  obtain ⟨a, b, z, x, rfl⟩ := he
  have hsp : ∀ i : Nat, ∃ m : Nat, i < n → gs [.int d, .int i] = .ok (.val (.int m)) := fun i => by
    by_cases h : i < n
    · obtain ⟨m, h2⟩ := hgs d i (by omega) (by omega)
      exact ⟨m, fun _ => h2⟩
    · exact ⟨0, fun h2 => absurd h2 h⟩
  let M : Nat → Nat := fun i => Classical.choose (hsp i)
  have hM : ∀ i, i < n → gs [.int d, .int i] = .ok (.val (.int (M i))) := fun i hi => Classical.choose_spec (hsp i) hi
  have hC : ∀ i : Nat, ∃ c, atI [48, 49, 45] ((M i : Int) / 9 % 3) = some c ∧ (c = 48 ∨ c = 49 ∨ c = 45) := fun i => sign3 (by omega) (by omega)
  let C : Nat → Nat := fun i => Classical.choose (hC i)
  have hC1 : ∀ i, atI [48, 49, 45] ((M i : Int) / 9 % 3) = some (C i) := fun i => (Classical.choose_spec (hC i)).1
  have hC2 : ∀ i, C i = 48 ∨ C i = 49 ∨ C i = 45 := fun i => (Classical.choose_spec (hC i)).2
  have g5 : [48, 49, 45].length ≤ 100000 := le100k (by decide)
  have hs : Tm n ((List.range n).map C) := ⟨by simp, fun e he => by
    obtain ⟨i, _, rfl⟩ := List.mem_map.mp he
    exact hC2 i⟩
  obtain ⟨u, hu, hu2⟩ := hgb n _ ((d : Int) / 11) hs n0 n1
  refine ⟨(List.range n).map C, u, hs, hu, ?_⟩
  have hl := lcL_rg (t := .nm 8) (cond := fYes) (elt := (fBin dIx (fC (.str [48, 49, 45])) (fBin dMod (fBin dDiv (fCall0 gs (fCons (fVar 2) (fCons (fVar 8) fNil))) (fC (.int 9))) (fC (.int 3)))))
    (es := [a, b, .val (.int d), z, .val (.int n), .no, .no, .no, .no]) (n := n) (fun _ => true) (fun i => .str [C i]) (fun i hi => ⟨_, rfl, rfl, fun _ =>
      bin_o rfl (bin_o (bin_o (call_o (cons_o rfl (cons_o rfl nil_o)) (hM i hi)) rfl (div_i (by decide))) rfl (mod_i (by decide))) (ix_s g5 (hC1 i))⟩)
  have hf : (List.range n).filter (fun _ => true) = List.range n := List.filter_eq_self.mpr fun _ _ => rfl
  rw [hf] at hl
  have hlc : fLc (fRg1 (fCons (fVar 4) fNil)) [8] (.nm 8) fYes (fBin dIx (fC (.str [48, 49, 45])) (fBin dMod (fBin dDiv (fCall0 gs (fCons (fVar 2) (fCons (fVar 8) fNil))) (fC (.int 9))) (fC (.int 3))))
      [a, b, .val (.int d), z, .val (.int n), .no, .no, .no, x] = .ok (.new ((List.range n).map fun i => .str [C i])) := by
    unfold fLc
    rw [rg_o (n := n) rfl (by omega), O.bind_ok, if_pos (by simp [rgD]; omega)]
    show (noX (lcL _ _ _ [a, b, .val (.int d), z, .val (.int n), .no, .no, .no, .no] _)).bind _ = _
    rw [hl]; rfl
  have hm : (List.range n).map (fun i => D.str [C i]) = ((List.range n).map C).map fun c => D.str [c] := by simp
  have hj : fM1 dJoin (fC (.str [])) (fLc (fRg1 (fCons (fVar 4) fNil)) [8] (.nm 8) fYes (fBin dIx (fC (.str [48, 49, 45])) (fBin dMod (fBin dDiv (fCall0 gs (fCons (fVar 2) (fCons (fVar 8) fNil))) (fC (.int 9))) (fC (.int 3)))))
      [a, b, .val (.int d), z, .val (.int n), .no, .no, .no, x] = .ok (.val (.str ((List.range n).map C))) := by
    unfold fM1
    rw [fc_o, O.bind_ok, hlc, hm]
    show O.of (dJoin [] (.val (.lst (((List.range n).map C).map fun c => D.str [c])))) = _
    rw [join_eq (by simp; omega)]; rfl
  rw [seq_n (set_v hj)]
  exact ret_v (tup2 rfl (call_o (cons_o rfl (cons_o (bin_o rfl rfl (div_i (by decide))) nil_o)) hu2))
theorem pair_loop {es : Fw.Env} {n : Nat} {l : Int} (n1 : n ≤ 5) (he : ∃ a b c x y z, es = [a, b, c, .val (.int l), .val (.int n), x, .val (.str []), y, z]) :
    ∃ w a b c l' x y z, gFor (fRg1 (fCons (fBin dMulA (fC (.int 2)) (fVar 4)) fNil)) (.nm 7) (gSeq (gSet 6 true (fBin dAdd (fVar 6) (fBin dIx (fC (.str [48, 49, 45])) (fBin dMod (fVar 3) (fC (.int 3))))))
    (gSet 3 true (fBin dDiv (fVar 3) (fC (.int 3))))) es = .nx [a, b, c, .val (.int l'), .val (.int n), x, .val (.str w), y, z] ∧ Tm (2 * n) w := by
  obtain ⟨a, b, c, x, y, z, rfl⟩ := he
  have hm : dMulA (.val (.int 2)) (.val (.int n)) = some (.val (.int ((2 * n : Nat) : Int))) := by
    show (if mulC 2 (n : Int) = true then some (R.val (.int (2 * (n : Int)))) else none) = _
    rw [mulC_l (by decide) (by decide)]
    simp
  have g5 : [48, 49, 45].length ≤ 100000 := le100k (by decide)
  obtain ⟨e2, h1, w, l', y', h2, h3⟩ := forL_rg (t := .nm 7) (n := 2 * n) (es := [a, b, c, .val (.int l), .val (.int n), x, .val (.str []), y, z])
    (I := fun i es => ∃ w l y, es = [a, b, c, .val (.int l), .val (.int n), x, .val (.str w), y, z] ∧ Tm i w)
    (body := (gSeq (gSet 6 true (fBin dAdd (fVar 6) (fBin dIx (fC (.str [48, 49, 45])) (fBin dMod (fVar 3) (fC (.int 3))))))
    (gSet 3 true (fBin dDiv (fVar 3) (fC (.int 3))))))
    (fun i hi es ⟨w, l, y, h, ht⟩ => by
      subst h
      obtain ⟨cc, hc1, hc2⟩ := sign3 (i := l % 3) (by omega) (by omega)
      refine ⟨_, rfl, [a, b, c, .val (.int (l / 3)), .val (.int n), x, .val (.str (w ++ [cc])), .val (.int i), z], ?_, _, _, _, rfl, ?_⟩
      · rw [seq_n (set_v (bin_o rfl (bin_o rfl (bin_o rfl rfl (mod_i (by decide))) (ix_s g5 hc1)) (add_s (le100k (by have := ht.1; simp; omega)))))]
        exact set_v (bin_o rfl rfl (div_i (by decide)))
      · refine ⟨by have := ht.1; simp; omega, fun e he => ?_⟩
        rcases List.mem_append.mp he with he | he
        · exact ht.2 e he
        · rw [List.mem_singleton] at he; subst he; exact hc2) ⟨[], l, y, rfl, rfl, fun e he => by cases he⟩
  subst h2
  refine ⟨w, a, b, c, l', x, y', z, ?_, h3⟩
  rw [for_o (rg_o (n := 2 * n) (bin_o rfl rfl hm) (by omega))]
  exact h1
theorem pair_eq (c k : Int) (k0 : 0 ≤ k) (k1 : k < 100) : ∃ n s u, 0 < n ∧ n ≤ 5 ∧ Tm n s ∧ Tm n u ∧ g_law_pair [.int c, .int k] = .ok (.val (.tup [.str s, .str u])) := by
  obtain ⟨d, hd⟩ := spr_nat c k k0 k1
  have step1 : gSet 2 true (fCall0 g_law_spread (fCons (fVar 0) (fCons (fVar 1) fNil))) [.val (.int c), .val (.int k), .no, .no, .no, .no, .no, .no, .no] = .nx [.val (.int c), .val (.int k), .val (.int d), .no, .no, .no, .no, .no, .no] :=
    set_v (call_o (cons_o rfl (cons_o rfl nil_o)) hd)
  have heq : dEq (.val (.int (c % 2))) (.val (.int 1)) = some (.val (.bl (c % 2 == 1))) := eq_i _ _
  have heq0 : dEq (.val (.int (c % 2))) (.val (.int 0)) = some (.val (.bl (c % 2 == 0))) := eq_i _ _
  obtain ⟨l, hl⟩ : ∃ l : Int, l = if (c % 2 == 1) = true then c / 2 else (d : Int) := ⟨_, rfl⟩
  have step2 : gSet 3 true (fIf (fTest (fBin dEq (fBin dMod (fVar 0) (fC (.int 2))) (fC (.int 1)))) (fBin dDiv (fVar 0) (fC (.int 2))) (fVar 2)) [.val (.int c), .val (.int k), .val (.int d), .no, .no, .no, .no, .no, .no]
      = .nx [.val (.int c), .val (.int k), .val (.int d), .val (.int l), .no, .no, .no, .no, .no] := by
    refine set_v ?_
    rw [ifv_o (test_o (bin_o (bin_o rfl rfl (mod_i (by decide))) rfl heq)), hl]
    by_cases h : (c % 2 == 1) = true
    · rw [if_pos h, if_pos h]
      exact bin_o rfl rfl (div_i (by decide))
    · rw [if_neg h, if_neg h]; rfl
  obtain ⟨n, hn⟩ := of_nat (i := 1 + l % 5) (by omega)
  have n0 : 0 < n := by omega
  have n1 : n ≤ 5 := by omega
  have step3 : gSet 4 true (fBin dAdd (fC (.int 1)) (fBin dMod (fVar 3) (fC (.int 5)))) [.val (.int c), .val (.int k), .val (.int d), .val (.int l), .no, .no, .no, .no, .no]
      = .nx [.val (.int c), .val (.int k), .val (.int d), .val (.int l), .val (.int n), .no, .no, .no, .no] :=
    set_v (bin_o rfl (bin_o rfl rfl (mod_i (by decide))) (by rw [add_i, hn]))
  have tst : fTest (fBin dEq (fBin dMod (fVar 0) (fC (.int 2))) (fC (.int 0))) [.val (.int c), .val (.int k), .val (.int d), .val (.int l), .val (.int n), .no, .no, .no, .no] = .ok (c % 2 == 0) :=
    test_o (bin_o (bin_o rfl rfl (mod_i (by decide))) rfl heq0)
  by_cases h : (c % 2 == 0) = true
  · obtain ⟨s, u, hs, hu, e⟩ := pair_even (c := 0) (k := 0) (l := 0) (gs := g_law_spread) (gb := g_law_bent) n0 n1 (fun c k => spr_nat c k) (fun n s d hs h0 h1 => g_law_bent_eq hs h0 h1 d) ⟨.val (.int c), .val (.int k), .val (.int l), .no, rfl⟩ (d := d)
    refine ⟨n, s, u, n0, n1, hs, hu, ?_⟩
    refine congrArg fin (?_ : b_law_pair [.val (.int c), .val (.int k), .no, .no, .no, .no, .no, .no, .no] = .rt (.val (.tup [.str s, .str u])))
    unfold b_law_pair
    rw [seq_n step1, seq_n step2, seq_n step3]
    rw [h] at tst
    exact seq_r ((if_t tst).trans e)
  · have step4 : gSet 3 true (fBin dDiv (fVar 3) (fC (.int 5))) [.val (.int c), .val (.int k), .val (.int d), .val (.int l), .val (.int n), .no, .no, .no, .no]
      = .nx [.val (.int c), .val (.int k), .val (.int d), .val (.int (l / 5)), .val (.int n), .no, .no, .no, .no] := set_v (bin_o rfl rfl (div_i (by decide)))
    have step5 : gSet 6 true (fC (.str [])) [.val (.int c), .val (.int k), .val (.int d), .val (.int (l / 5)), .val (.int n), .no, .no, .no, .no]
      = .nx [.val (.int c), .val (.int k), .val (.int d), .val (.int (l / 5)), .val (.int n), .no, .val (.str []), .no, .no] := set_v rfl
    obtain ⟨w, a', b', c', l', x', y', z', e, hw⟩ := pair_loop (l := l / 5) n1 ⟨.val (.int c), .val (.int k), .val (.int d), .no, .no, .no, rfl⟩
    have hwl := hw.1
    have g1 : w.length ≤ 100000 := small hwl (by omega)
    refine ⟨n, w.take n, w.drop n, n0, n1, ⟨by simp; omega, fun e he => hw.2 e (List.mem_of_mem_take he)⟩, ⟨by simp; omega, fun e he => hw.2 e (List.mem_of_mem_drop he)⟩, ?_⟩
    refine congrArg fin (?_ : b_law_pair [.val (.int c), .val (.int k), .no, .no, .no, .no, .no, .no, .no] = .rt (.val (.tup [.str (w.take n), .str (w.drop n)])))
    unfold b_law_pair
    rw [Bool.not_eq_true] at h
    rw [h] at tst
    rw [seq_n step1, seq_n step2, seq_n step3, seq_n (if_f tst), seq_n step4, seq_n step5, seq_n e]
    exact ret_v (tup2 (slt rfl rfl g1) (sld rfl rfl g1))
end K01
namespace K01
open PySem PySem.Spec PyProof.Rows L2 Fw
section
variable {es e2 : Fw.Env} {f fa fb : Fw.Env → O R} {g h : Fw.Env → Out} {a b : D} {c : R} {i : Nat} {fr : Fw.Env → O (List R)} {rs : List R} {k k2 : Bool} {tt t2 : Fw.Env → O Bool}
theorem lc_o {src : Fw.Env → O (List R)} {vs : List Nat} {t : Tg} {cond : Fw.Env → O Bool} {elt : Fw.Env → O R} {n : Nat} {p : Nat → Bool} {f : Nat → D} (hs : src es = .ok (rgD 0 n)) (hn : n ≤ 1000)
    (h : ∀ i, i < n → ∃ e1, stTg t (.val (.int (i : Nat))) (wipeE es vs) = some e1 ∧ cond e1 = .ok (p i) ∧ (p i = true → elt e1 = .ok (.val (f i)))) : fLc src vs t cond elt es = .ok (.new (((List.range n).filter p).map f)) := by
  unfold fLc
  rw [hs, O.bind_ok, if_pos (by simp [rgD]; omega), lcL_rg p f h]; rfl
theorem shl_o {n : Nat} (h : n ≤ 10) : dShl (.val (.int 1)) (.val (.int n)) = some (.val (.int ((2 ^ n : Nat) : Int))) := by
  show (if shlC 1 (n : Int) = true then some (R.val (.int (1 * 2 ^ (n : Int).toNat))) else none) = _
  rw [if_pos (by simp only [shlC, decide_eq_true_eq]; exact ⟨by omega, by omega, by decide⟩), Int.toNat_natCast, Int.one_mul]
  simp
theorem len_o {s : List Nat} (h : fa es = .ok (.val (.str s))) (hl : s.length ≤ 100000) : fBi dLen (fCons fa fNil) es = .ok (.val (.int (s.length : Nat))) := bi_o (cons_o h nil_o) (len_s hl)
theorem or_f (h1 : tt es = .ok false) : fOr tt t2 es = t2 es := by unfold fOr; rw [h1]; rfl
theorem or_t (h1 : tt es = .ok true) : fOr tt t2 es = .ok true := by unfold fOr; rw [h1]; rfl
theorem not_o (h1 : tt es = .ok k) : fNot tt es = .ok (!k) := by unfold fNot; rw [h1]; rfl
theorem andv_t (h1 : fa es = .ok (.val (.bl true))) : fAndV fa fb es = fb es := by unfold fAndV; rw [h1]; rfl
/-- the settings of a term -/
def sets (s : List Nat) : List D := ((List.range (2 ^ s.length)).filter fun n => agB n 0 s).map fun n => .int (n : Nat)
theorem pow_le {n : Nat} (h : n ≤ 5) : 2 ^ n ≤ 32 := Nat.pow_le_pow_right (by decide) h
theorem rg2 {s : List Nat} (h : fa es = .ok (.val (.str s))) (hn : s.length ≤ 5) : fRg1 (fCons (fBin dShl (fC (.int 1)) (fBi dLen (fCons fa fNil))) fNil) es = .ok (rgD 0 (2 ^ s.length)) :=
  rg_o (bin_o rfl (len_o h (small rfl (by omega))) (shl_o (by omega))) (Nat.le_trans (pow_le hn) (by decide))
theorem g_all_settings_eq {n : Nat} (h : n ≤ 5) : g_all_settings [.int n] = .ok (.new ((List.range (2 ^ n)).map fun i => .int (i : Nat))) := by
  refine congrArg fin (?_ : b_all_settings [.val (.int n)] = .rt _)
  unfold b_all_settings
  refine ret_n ?_
  unfold fLRg1
  rw [bin_o (fc_o) rfl (shl_o (by omega)), O.bind_ok]
  have := pow_le h
  show (if _ ∧ _ then _ else _) = _
  revert this
  generalize 2 ^ n = m
  intro this
  rw [if_pos (by omega), Int.toNat_natCast]
theorem g_settings_of_eq {s : List Nat} (hs : Sg s) (hn : s.length ≤ 5) : g_settings_of [.str s] = .ok (.new (sets s)) := by
  refine congrArg fin (?_ : b_settings_of [.val (.str s), .no] = .rt _)
  unfold b_settings_of
  refine ret_n (lc_o (n := 2 ^ s.length) ?_ (Nat.le_trans (pow_le hn) (by decide)) fun i hi => ⟨_, rfl, test_o (call_o (cons_o rfl (cons_o rfl nil_o)) (g_has_eq s hs i)), fun _ => rfl⟩)
  unfold fIt
  rw [call_n (cons_o (len_o rfl (small rfl (by omega))) nil_o) (g_all_settings_eq hn), O.bind_ok]
  show O.of (some (((List.range (2 ^ s.length)).map fun i => D.int (i : Nat)).map R.val)) = _
  rw [List.map_map, rgD]
  simp only [Int.zero_add]
  rfl
theorem isi_o (x : Bool) : dIsi [.val (.bl x), .val (.ty "bool")] = some (.val (.bl true)) := by
  simp [dIsi, R.dat, tyD, isiB]
theorem ne_b (x : Bool) : dNe (.val (.bl x)) (.val (.bl x)) = some (.val (.bl false)) := by
  cases x <;> rfl
theorem sets_plain (l : List Nat) : (l.map fun n => D.int (n : Nat)).all plainF = true := by
  rw [List.all_eq_true]
  intro d hd
  obtain ⟨n, _, rfl⟩ := List.mem_map.mp hd
  rfl
theorem in_sets {s : List Nat} {i : Nat} (hi : i < 2 ^ s.length) : dIn (.val (.int i)) (.val (.lst (sets s))) = some (.val (.bl (agB i 0 s))) := by
  show (if plainF (.int i) && (sets s).all plainF then some (R.val (.bl ((sets s).any fun d => deq d (.int i)))) else none) = _
  have hp : (sets s).all plainF = true := sets_plain _
  rw [hp]
  show some (R.val (.bl _)) = _
  congr 3
  rw [Bool.eq_iff_iff, List.any_eq_true]
  constructor
  · rintro ⟨d, hd, h2⟩
    obtain ⟨n, hn, rfl⟩ := List.mem_map.mp hd
    simp [deq] at h2
    have h2 : n = i := by omega
    subst h2
    exact (List.mem_filter.mp hn).2
  · intro h
    exact ⟨.int (i : Nat), List.mem_map.mpr ⟨i, List.mem_filter.mpr ⟨List.mem_range.mpr hi, h⟩, rfl⟩, by simp [deq]⟩
theorem deqL_ints : ∀ l : List Nat, deqL (l.map fun n => D.int (n : Nat)) (l.map fun n => D.int (n : Nat)) = true
  | [] => rfl
  | x :: l => by
    rw [List.map_cons, deqL, deqL_ints l]
    simp [deq]
theorem ne_sets (s : List Nat) : dNe (.bor (sets s)) (.val (.lst (sets s))) = some (.val (.bl false)) := by
  have h1 : shp 60 (.lst (sets s)) = true := by
    show (sets s).all (shp 59) = true
    rw [List.all_eq_true]
    intro d hd
    obtain ⟨n, _, rfl⟩ := List.mem_map.mp hd
    rfl
  show (if shp 60 (.lst (sets s)) && shp 60 (.lst (sets s)) then some (R.val (.bl (!deq (.lst (sets s)) (.lst (sets s))))) else none) = _
  rw [h1]
  show some (R.val (.bl (!deqL (sets s) (sets s)))) = _
  rw [sets, deqL_ints]; rfl
theorem shp_s {s : List Nat} (h : Sg s) : shp 60 (.str s) = true := by
  show (s.all fun c => decide (c < 1114112)) = true
  rw [List.all_eq_true]
  intro c hc
  rcases h c hc with rfl | rfl | rfl <;> decide
theorem ne_s {s : List Nat} (h : Sg s) : dNe (.val (.str s)) (.val (.str s)) = some (.val (.bl false)) := by
  show (if shp 60 (.str s) && shp 60 (.str s) then some (R.val (.bl (!(s == s)))) else none) = _
  rw [shp_s h]; simp
/-- a sign at a place, by slices -/
theorem put_o {es : Fw.Env} {fs fk fk1 fc : Fw.Env → O R} {s : List Nat} {k c : Nat} (h1 : fs es = .ok (.val (.str s))) (h2 : fk es = .ok (.val (.int k))) (h3 : fk1 es = .ok (.val (.int ((k : Int) + 1)))) (h4 : fc es = .ok (.val (.str [c]))) (hl : s.length ≤ 5) :
    fBin dAdd (fBin dAdd (fSl fs fNoPart (fPart fk)) fc) (fSl fs (fPart fk1) fNoPart) es = .ok (.val (.str (put s k c))) := by
  have g1 : s.length ≤ 100000 := small rfl (by omega)
  exact bin_o (bin_o (slt h1 h2 g1) h4 (add_s (le100k (by simp; omega)))) (sld1 h1 h3 g1) (add_s (le100k (by simp; omega)))
theorem g_freed_eq {s : List Nat} {k : Nat} (hl : s.length ≤ 5) : g_freed [.str s, .int k] = .ok (.val (.str (put s k 45))) := by
  refine congrArg fin (?_ : b_freed [.val (.str s), .val (.int k)] = .rt _)
  unfold b_freed
  exact ret_v (put_o rfl rfl (bin_o rfl rfl rfl) rfl hl)
/-! ### is_term -/
def pb (c : Nat) : Bool := decide (c = 49) || (decide (c = 48) || decide (c = 45))
theorem ty_o {x : D} {n : String} (h : fa es = .ok (.val x)) (e : tyD2 x = some n) : fBi dType (fCons fa fNil) es = .ok (.val (.ty n)) := by
  refine bi_o (cons_o h nil_o) ?_
  show (tyD2 x).map _ = _
  rw [e]; rfl
theorem nis_ty (m n : String) : dNis (.val (.ty m)) (.val (.ty n)) = some (.val (.bl (!decide (m = n)))) := rfl
theorem g_is_term_other {x : D} {t : String} {n : Int} (hf : slotD x = .val x) (h : tyD2 x = some t) (ht : t ≠ "str") : g_is_term [x, .int n] = .ok (.val (.bl false)) := by
  have e : startE 2 [x, .int n] = [.val x, .val (.int n)] := by
    show [slotD x, slotD (.int n)] = _
    rw [hf]; rfl
  have : b_is_term [.val x, .val (.int n)] = .rt (.val (.bl false)) := by
    unfold b_is_term
    refine seq_r ((if_t (or_t (test_o (bin_o (ty_o rfl h) rfl ?_)))).trans (ret_v rfl))
    rw [nis_ty]; simp [ht]
  show fin (b_is_term (startE 2 [x, .int n])) = _
  rw [e, this]; rfl
theorem nrm_brw {x : D} (h : flat x = false) : nrm x = .brw x := by unfold nrm; rw [h]; rfl
theorem g_is_term_brw {x : D} {t : String} {n : Int} (hf : flat x = false) (h : tyD2 x = some t) (ht : t ≠ "str") : g_is_term [x, .int n] = .ok (.val (.bl false)) := by
  have e : startE 2 [x, .int n] = [.brw x, .val (.int n)] := by
    show [slotD x, slotD (.int n)] = _
    unfold slotD
    rw [hf]; rfl
  have h0 : fBi dType (fCons (fVar 0) fNil) [.brw x, .val (.int n)] = .ok (.val (.ty t)) := by
    refine bi_o (rs := [.brw x]) ?_ (by show (tyD2 x).map _ = _; rw [h]; rfl)
    unfold fCons
    show (O.ok (nrm x)).bind _ = _
    rw [nrm_brw hf]; rfl
  have : b_is_term [.brw x, .val (.int n)] = .rt (.val (.bl false)) := by
    unfold b_is_term
    refine seq_r ((if_t (or_t (test_o (bin_o h0 rfl ?_)))).trans (ret_v rfl))
    rw [nis_ty]; simp [ht]
  show fin (b_is_term (startE 2 [x, .int n])) = _
  rw [e, this]; rfl
theorem ne_i (x y : Int) : dNe (.val (.int x)) (.val (.int y)) = some (.val (.bl (!(x == y)))) := by
  simp [dNe, R.dat, shp, deq]
theorem inT_pb : inT [45, 48, 49] = pb := by
  funext c
  unfold inT pb
  rw [Bool.eq_iff_iff]
  simp
  omega
theorem g_is_term_str {w : List Nat} {n : Nat} (hw : w.length ≤ 10) : g_is_term [.str w, .int n] = .ok (.val (.bl (decide (w.length = n) && w.all pb))) := by
  have g1 : w.length ≤ 100000 := small rfl hw
  have t1 : fTest (fBin dNis (fBi dType (fCons (fVar 0) fNil)) (fC (.ty "str"))) [.val (.str w), .val (.int n)] = .ok false := test_o (bin_o (ty_o rfl rfl) rfl (by rw [nis_ty]; simp))
  have t2 : fTest (fBin dNe (fBi dLen (fCons (fVar 0) fNil)) (fVar 1)) [.val (.str w), .val (.int n)] = .ok (!(((w.length : Nat) : Int) == (n : Int))) := test_o (bin_o (len_o rfl g1) rfl (ne_i _ _))
  refine congrArg fin (?_ : b_is_term [.val (.str w), .val (.int n)] = .rt _)
  unfold b_is_term
  by_cases h : w.length = n
  · have hh : (!(((w.length : Nat) : Int) == (n : Int))) = false := by simp [h]
    rw [hh] at t2
    rw [seq_n (if_f ((or_f t1).trans t2)), decide_eq_true h, Bool.true_and, ← inT_pb]
    exact ret_v rfl
  · have hh : (!(((w.length : Nat) : Int) == (n : Int))) = true := by
      simp; omega
    rw [hh] at t2
    rw [decide_eq_false h, Bool.false_and]
    exact seq_r ((if_t ((or_f t1).trans t2)).trans (ret_v rfl))
theorem all_pb {s : List Nat} (h : Sg s) : s.all pb = true := by
  rw [List.all_eq_true]
  intro c hc
  rcases h c hc with rfl | rfl | rfl <;> decide
theorem put_pb {s : List Nat} {k c : Nat} (hc : pb c = false) : (put s k c).all pb = false := by
  simp [put, hc]
end
end K01
namespace K01
open PySem PySem.Spec PyProof.Rows L2 Fw
/-! ### laid together -/
def pU (s t : List Nat) (i : Nat) : Bool := !([s.getD i 0] == [t.getD i 0])
def jn (s t : List Nat) : D := match (List.range s.length).filter (pU s t) with
  | [u] => if s.getD u 0 = 45 ∨ t.getD u 0 = 45 then .non else .str (put s u 45)
  | _ => .non
theorem gD {s : List Nat} {i : Nat} (hi : i < s.length) : s.getD i 0 = s[i] := by simp [hi]
theorem getD_sg {s : List Nat} (h : Sg s) {i : Nat} (hi : i < s.length) : s.getD i 0 = 48 ∨ s.getD i 0 = 49 ∨ s.getD i 0 = 45 := by
  have e : s.getD i 0 = s[i] := by simp [hi]
  rw [e]; exact h _ (List.getElem_mem hi)
theorem at_o {s : List Nat} {i : Nat} (hi : i < s.length) : atI s (i : Int) = some (s.getD i 0) := by
  rw [atI_nat]; simp [hi]
theorem ne_one {a b : Nat} (ha : a = 48 ∨ a = 49 ∨ a = 45) (hb : b = 48 ∨ b = 49 ∨ b = 45) : dNe (.val (.str [a])) (.val (.str [b])) = some (.val (.bl (!([a] == [b])))) := by
  rcases ha with rfl | rfl | rfl <;> rcases hb with rfl | rfl | rfl <;> rfl
theorem eq_one {a b : Nat} (ha : a = 48 ∨ a = 49 ∨ a = 45) (hb : b = 48 ∨ b = 49 ∨ b = 45) : dEq (.val (.str [a])) (.val (.str [b])) = some (.val (.bl ([a] == [b]))) := by
  rcases ha with rfl | rfl | rfl <;> rcases hb with rfl | rfl | rfl <;> rfl
theorem len_l {es : Fw.Env} {fa : Fw.Env → O R} {xs : List D} (h : fa es = .ok (.val (.lst xs))) : fBi dLen (fCons fa fNil) es = .ok (.val (.int (xs.length : Nat))) := bi_o (cons_o h nil_o) rfl
theorem take_eq {s t : List Nat} (hl : s.length = t.length) {u : Nat} (h : ∀ i, i < s.length → i ≠ u → s.getD i 0 = t.getD i 0) : put s u 45 = put t u 45 := by
  have h1 : s.take u = t.take u := by
    apply List.ext_getElem
    · simp [hl]
    · intro i h1 h2
      simp at h1 h2
      have := h i (by omega) (by omega)
      rw [gD (s := s) (i := i) (by omega), gD (s := t) (i := i) (by omega)] at this
      simpa using this
  have h2 : s.drop (u + 1) = t.drop (u + 1) := by
    apply List.ext_getElem
    · simp [hl]
    · intro i h1 h2
      simp at h1 h2
      have := h (u + 1 + i) (by omega) (by omega)
      have e1 : u + 1 + i < s.length := by omega
      have e2 : u + 1 + i < t.length := by omega
      rw [gD e1, gD e2] at this
      simpa using this
  unfold put
  rw [h1, h2]
theorem jn_symm {s t : List Nat} (hl : s.length = t.length) : jn t s = jn s t := by
  have hp : pU t s = pU s t := by
    funext i
    unfold pU
    rw [Bool.eq_iff_iff]
    simp
    exact ⟨fun h e => h e.symm, fun h e => h e.symm⟩
  unfold jn
  rw [hp, ← hl]
  cases hU : (List.range s.length).filter (pU s t) with
  | nil => rfl
  | cons u r =>
    cases r with
    | cons v r => rfl
    | nil =>
      have he : ∀ i, i < s.length → i ≠ u → s.getD i 0 = t.getD i 0 := by
        intro i hi hu
        by_cases h : pU s t i = true
        · have : i ∈ (List.range s.length).filter (pU s t) := List.mem_filter.mpr ⟨List.mem_range.mpr hi, h⟩
          rw [hU] at this
          exact absurd (List.mem_singleton.mp this) hu
        · simpa [pU] using h
      simp only
      rw [take_eq hl he]
      by_cases h1 : s.getD u 0 = 45 ∨ t.getD u 0 = 45
      · rw [if_pos h1, if_pos h1.symm]
      · rw [if_neg h1, if_neg fun h => h1 h.symm]
theorem unlike_o {s t : List Nat} {n : Nat} (hs : Tm n s) (ht : Tm n t) (n1 : n ≤ 5) {j : Nat} {es : Fw.Env} {vs : List Nat} (e0 : es[0]? = some (.val (.str s))) (e1 : ∀ x, ((wipeE es vs).set j x)[0]? = some (.val (.str s))) (e2 : ∀ x, ((wipeE es vs).set j x)[1]? = some (.val (.str t)))
    (ej : ∀ x, ((wipeE es vs).set j x)[j]? = some x) :
    fLc (fRg1 (fCons (fBi dLen (fCons (fVar 0) fNil)) fNil)) vs (.nm j) (fTest (fBin dNe (fBin dIx (fVar 0) (fVar j)) (fBin dIx (fVar 1) (fVar j)))) (fVar j) es = .ok (.new (((List.range n).filter (pU s t)).map fun i => .int (i : Nat))) := by
  have g1 : s.length ≤ 100000 := small hs.1 (by omega)
  have g2 : t.length ≤ 100000 := small ht.1 (by omega)
  have v0 : ∀ x, fVar 0 ((wipeE es vs).set j x) = .ok (.val (.str s)) := fun x => by unfold fVar; rw [e1]
  have v1 : ∀ x, fVar 1 ((wipeE es vs).set j x) = .ok (.val (.str t)) := fun x => by unfold fVar; rw [e2]
  have vj : ∀ x : D, fVar j ((wipeE es vs).set j (.val x)) = .ok (.val x) := fun x => by unfold fVar; rw [ej]
  refine lc_o (rg_o (n := n) ?_ (by omega)) (by omega) fun i hi => ⟨(wipeE es vs).set j (.val (.int i)), rfl, test_o (bin_o (bin_o (v0 _) (vj _) (ix_s g1 (at_o (by rw [hs.1]; exact hi)))) (bin_o (v1 _) (vj _) (ix_s g2 (at_o (by rw [ht.1]; exact hi)))) (ne_one (getD_sg hs.2 (by rw [hs.1]; exact hi)) (getD_sg ht.2 (by rw [ht.1]; exact hi)))), fun _ => vj _⟩
  have := len_o (es := es) (fa := fVar 0) (s := s) (by unfold fVar; rw [e0]) g1
  rw [this, hs.1]
theorem ix_l {es : Fw.Env} {fa fb : Fw.Env → O R} {u : Nat} {r : List D} (h : fa es = .ok (.val (.lst (.int u :: r)))) (h2 : fb es = .ok (.val (.int 0))) : fBin dIx fa fb es = .ok (.val (.int u)) := bin_o h h2 (by
  show (atI (D.int (u : Nat) :: r) ((0 : Nat) : Int)).map R.val = _
  rw [atI_nat]; rfl)
theorem dedup_s {a b : Nat} (ha : a = 48 ∨ a = 49 ∨ a = 45) (hb : b = 48 ∨ b = 49 ∨ b = 45) (hne : a ≠ b) :
    (dSortedL [.val (.lst [.str [a], .str [b]])]).bind (fun r => dNe r.fz (.val (.lst [.str [48], .str [49]]))) = some (.val (.bl (decide (a = 45 ∨ b = 45)))) := by
  rcases ha with rfl | rfl | rfl <;> rcases hb with rfl | rfl | rfl <;> first | exact absurd rfl hne | decide +kernel | rfl
end K01
namespace K01
open PySem PySem.Spec PyProof.Rows L2 Fw
theorem bin_g {es : Fw.Env} {fa fb : Fw.Env → O R} {d : R → R → Option R} {ra rb c : R} (ha : fa es = .ok ra) (hb : fb es = .ok rb) (hc : d ra.fz rb.fz = some c) : fBin d fa fb es = .ok c := by
  unfold fBin; rw [ha, O.bind_ok, hb, O.bind_ok, hc]; rfl
theorem lst2 {es : Fw.Env} {fa fb : Fw.Env → O R} {x y : D} (ha : fa es = .ok (.val x)) (hb : fb es = .ok (.val y)) : fLst (fCons fa (fCons fb fNil)) es = .ok (.new [x, y]) := by
  unfold fLst; rw [cons_o ha (cons_o hb nil_o), O.bind_ok]; rfl
theorem cons_n {es : Fw.Env} {fa : Fw.Env → O R} {fr : Fw.Env → O (List R)} {xs : List D} {rs : List R} (ha : fa es = .ok (.new xs)) (hr : fr es = .ok rs) : fCons fa fr es = .ok (.val (.lst xs) :: rs) := by
  unfold fCons; rw [ha, O.bind_ok, hr]; rfl
theorem pick {s t : List Nat} {u : Nat} {r : List Nat} (h : (List.range s.length).filter (pU s t) = u :: r) : u < s.length ∧ s.getD u 0 ≠ t.getD u 0 := by
  have : u ∈ (List.range s.length).filter (pU s t) := by rw [h]; simp
  obtain ⟨h1, h2⟩ := List.mem_filter.mp this
  exact ⟨List.mem_range.mp h1, by simpa [pU] using h2⟩
theorem joined_eq {s t : List Nat} {n : Nat} (hs : Tm n s) (ht : Tm n t) (n1 : n ≤ 5) : g_law_joined [.str s, .str t] = .ok (.val (jn s t)) := by
  refine congrArg fin (?_ : b_law_joined [.val (.str s), .val (.str t), .no, .no] = .rt _)
  unfold b_law_joined
  have h1 := unlike_o (es := [.val (.str s), .val (.str t), .no, .no]) (vs := [3]) (j := 3) hs ht n1 rfl (fun _ => rfl) (fun _ => rfl) (fun _ => rfl)
  rw [← hs.1] at h1
  rw [seq_n (set_n h1)]
  have hl : s.length ≤ 5 := by rw [hs.1]; exact n1
  have g1 : s.length ≤ 100000 := small rfl (by omega)
  have g2 : t.length ≤ 100000 := small ht.1 (by omega)
  unfold jn
  cases hU : (List.range s.length).filter (pU s t) with
  | nil =>
    have tst : fTest (fBin dNe (fBi dLen (fCons (fVar 2) fNil)) (fC (.int 1))) [.val (.str s), .val (.str t), .val (.lst []), .no] = .ok true := test_o (bin_o (len_l rfl) rfl (ne_i _ _))
    exact seq_r ((if_t (or_t tst)).trans (ret_v rfl))
  | cons u r =>
    obtain ⟨hu, hne⟩ := pick hU
    have hut : u < t.length := by rw [ht.1, ← hs.1]; exact hu
    cases r with
    | cons v r =>
      have tst : fTest (fBin dNe (fBi dLen (fCons (fVar 2) fNil)) (fC (.int 1))) [.val (.str s), .val (.str t), .val (.lst ((u :: v :: r).map fun i => .int (i : Nat))), .no] = .ok true := by
        refine test_o (bin_o (len_l rfl) rfl ?_)
        rw [ne_i]
        have : ((((u :: v :: r).map fun i => D.int (i : Nat)).length : Nat) : Int) ≠ 1 := by simp; omega
        simpa using this
      exact seq_r ((if_t (or_t tst)).trans (ret_v rfl))
    | nil =>
      show gSeq _ _ [.val (.str s), .val (.str t), .val (.lst [.int u]), .no] = _
      have ixu : fBin dIx (fVar 2) (fC (.int 0)) [.val (.str s), .val (.str t), .val (.lst [.int u]), .no] = .ok (.val (.int u)) := ix_l rfl rfl
      have ha := getD_sg hs.2 hu
      have hb := getD_sg ht.2 hut
      have tst : fTest (fBin dNe (fBi dLen (fCons (fVar 2) fNil)) (fC (.int 1))) [.val (.str s), .val (.str t), .val (.lst [.int u]), .no] = .ok false := test_o (bin_o (len_l rfl) rfl (ne_i _ _))
      obtain ⟨r, hr1, hr2⟩ := Option.bind_eq_some_iff.mp (dedup_s ha hb hne)
      have tst2 : fTest (fBin dNe (fBi dSortedL (fCons (fLst (fCons (fBin dIx (fVar 0) (fBin dIx (fVar 2) (fC (.int 0)))) (fCons (fBin dIx (fVar 1) (fBin dIx (fVar 2) (fC (.int 0)))) fNil))) fNil)) (fLst (fCons (fC (.str [48])) (fCons (fC (.str [49])) fNil)))) [.val (.str s), .val (.str t), .val (.lst [.int u]), .no] = .ok (decide (s.getD u 0 = 45 ∨ t.getD u 0 = 45)) :=
        test_o (bin_g (bi_o (cons_n (lst2 (bin_o rfl ixu (ix_s g1 (at_o hu))) (bin_o rfl ixu (ix_s g2 (at_o hut)))) nil_o) hr1) (lst2 rfl rfl) hr2)
      by_cases hd : s.getD u 0 = 45 ∨ t.getD u 0 = 45
      · rw [decide_eq_true hd] at tst2
        simp only
        rw [if_pos hd]
        exact seq_r ((if_t ((or_f tst).trans tst2)).trans (ret_v rfl))
      · rw [decide_eq_false hd] at tst2
        simp only
        rw [if_neg hd, seq_n (if_f ((or_f tst).trans tst2))]
        exact ret_v (put_o rfl ixu (bin_o ixu rfl rfl) rfl hl)
theorem laid_eq {s t : List Nat} {n : Nat} (hs : Tm n s) (ht : Tm n t) (n1 : n ≤ 5) : g_laid [.str s, .str t] = .ok (.val (jn s t)) := by
  refine congrArg fin (?_ : b_laid [.val (.str s), .val (.str t), .no, .no, .no] = .rt _)
  unfold b_laid
  have hl : s.length ≤ 5 := by rw [hs.1]; exact n1
  have g1 : s.length ≤ 100000 := small rfl (by omega)
  have g2 : t.length ≤ 100000 := small ht.1 (by omega)
  have t0 : fTest (fBin dNe (fBi dLen (fCons (fVar 0) fNil)) (fBi dLen (fCons (fVar 1) fNil))) [.val (.str s), .val (.str t), .no, .no, .no] = .ok false := by
    refine test_o (bin_o (len_o rfl g1) (len_o rfl g2) ?_)
    rw [ne_i, hs.1, ht.1]; simp
  rw [seq_n (if_f t0)]
  have h1 := unlike_o (es := [.val (.str s), .val (.str t), .no, .no, .no]) (vs := [4]) (j := 4) hs ht n1 rfl (fun _ => rfl) (fun _ => rfl) (fun _ => rfl)
  rw [← hs.1] at h1
  rw [seq_n (set_n h1)]
  unfold jn
  cases hU : (List.range s.length).filter (pU s t) with
  | nil =>
    have tst : fTest (fBin dNe (fBi dLen (fCons (fVar 2) fNil)) (fC (.int 1))) [.val (.str s), .val (.str t), .val (.lst []), .no, .no] = .ok true := test_o (bin_o (len_l rfl) rfl (ne_i _ _))
    exact seq_r ((if_t tst).trans (ret_v rfl))
  | cons u r =>
    obtain ⟨hu, hne⟩ := pick hU
    have hut : u < t.length := by rw [ht.1, ← hs.1]; exact hu
    cases r with
    | cons v r =>
      have tst : fTest (fBin dNe (fBi dLen (fCons (fVar 2) fNil)) (fC (.int 1))) [.val (.str s), .val (.str t), .val (.lst ((u :: v :: r).map fun i => .int (i : Nat))), .no, .no] = .ok true := by
        refine test_o (bin_o (len_l rfl) rfl ?_)
        rw [ne_i]
        have : ((((u :: v :: r).map fun i => D.int (i : Nat)).length : Nat) : Int) ≠ 1 := by simp; omega
        simpa using this
      exact seq_r ((if_t tst).trans (ret_v rfl))
    | nil =>
      show gSeq _ _ [.val (.str s), .val (.str t), .val (.lst [.int u]), .no, .no] = _
      have ha := getD_sg hs.2 hu
      have hb := getD_sg ht.2 hut
      have tst : fTest (fBin dNe (fBi dLen (fCons (fVar 2) fNil)) (fC (.int 1))) [.val (.str s), .val (.str t), .val (.lst [.int u]), .no, .no] = .ok false := test_o (bin_o (len_l rfl) rfl (ne_i _ _))
      rw [seq_n (if_f tst), seq_n (set_v (ix_l rfl rfl))]
      show gSeq _ _ [.val (.str s), .val (.str t), .val (.lst [.int u]), .val (.int u), .no] = _
      have ta : fTest (fBin dEq (fBin dIx (fVar 0) (fVar 3)) (fC (.str [45]))) [.val (.str s), .val (.str t), .val (.lst [.int u]), .val (.int u), .no] = .ok ([s.getD u 0] == [45]) :=
        test_o (bin_o (bin_o rfl rfl (ix_s g1 (at_o hu))) rfl (eq_one ha (by simp)))
      have tb : fTest (fBin dEq (fBin dIx (fVar 1) (fVar 3)) (fC (.str [45]))) [.val (.str s), .val (.str t), .val (.lst [.int u]), .val (.int u), .no] = .ok ([t.getD u 0] == [45]) :=
        test_o (bin_o (bin_o rfl rfl (ix_s g2 (at_o hut))) rfl (eq_one hb (by simp)))
      simp only
      by_cases h1 : s.getD u 0 = 45
      · rw [h1] at ta
        rw [if_pos (Or.inl h1)]
        exact seq_r ((if_t (or_t ta)).trans (ret_v rfl))
      · have e1 : ([s.getD u 0] == [45]) = false := by simpa using h1
        rw [e1] at ta
        by_cases h2 : t.getD u 0 = 45
        · rw [h2] at tb
          rw [if_pos (Or.inr h2)]
          exact seq_r ((if_t ((or_f ta).trans tb)).trans (ret_v rfl))
        · have e2 : ([t.getD u 0] == [45]) = false := by simpa using h2
          rw [e2] at tb
          rw [if_neg (fun h => h.elim h1 h2), seq_n (if_f ((or_f ta).trans tb))]
          exact ret_v (call_o (cons_o rfl (cons_o rfl nil_o)) (g_freed_eq hl))
end K01
namespace K01
open PySem PySem.Spec PyProof.Rows L2 Fw
/-! ### odd things -/
theorem lst_o {es : Fw.Env} {fr : Fw.Env → O (List R)} {rs : List R} {ds : List D} (h : fr es = .ok rs) (h2 : stoL rs = some ds) (h3 : ds.length ≤ 50) : fLst fr es = .ok (.new ds) := by
  unfold fLst; rw [h, O.bind_ok, h2]
  exact if_pos (le100k h3)
theorem tup1 {es : Fw.Env} {fa : Fw.Env → O R} {x : D} (h : fa es = .ok (.val x)) : fTup (fCons fa fNil) es = .ok (.val (.tup [x])) := by
  unfold fTup; rw [cons_o h nil_o, O.bind_ok]; rfl
def odds (s : List Nat) (k : Nat) : List D := [.str (s ++ [48]), .str (s.drop 1), .str (put s k 50), .str (put s k 32), .non, .int 0, .lst [.str s]] ++ [.lst (signsD s), .bl true, .str (s ++ [10]), .str [], .tup [.str s], .str (put s k 111)]
theorem odds_no {s : List Nat} {n k : Nat} (hs : Tm n s) (n0 : 0 < n) (n1 : n ≤ 5) (hk : k < n) : ∀ x ∈ odds s k, g_is_term [x, .int n] = .ok (.val (.bl false)) := by
  have hl := hs.1
  have st : ∀ w : List Nat, w.length ≤ 10 → (w.length ≠ n ∨ w.all pb = false) → g_is_term [.str w, .int n] = .ok (.val (.bl false)) := fun w h1 h2 => by
    rw [g_is_term_str h1]
    rcases h2 with h2 | h2
    · rw [decide_eq_false h2]; rfl
    · rw [h2, Bool.and_false]
  have pl : ∀ c, (put s k c).length ≤ 10 := fun c => by rw [put_len (by omega)]; omega
  intro x hx
  simp only [odds, List.mem_append, List.mem_cons, List.not_mem_nil, or_false] at hx
  rcases hx with (rfl | rfl | rfl | rfl | rfl | rfl | rfl) | (rfl | rfl | rfl | rfl | rfl | rfl)
  · exact st _ (by simp; omega) (Or.inl (by simp; omega))
  · exact st _ (by simp; omega) (Or.inl (by simp; omega))
  · exact st _ (pl _) (Or.inr (put_pb rfl))
  · exact st _ (pl _) (Or.inr (put_pb rfl))
  · exact g_is_term_other rfl rfl (by decide)
  · exact g_is_term_other rfl rfl (by decide)
  · exact g_is_term_brw rfl rfl (by decide)
  · exact g_is_term_brw rfl rfl (by decide)
  · exact g_is_term_other rfl rfl (by decide)
  · exact st _ (by simp; omega) (Or.inl (by simp; omega))
  · exact st _ (by simp) (Or.inl (by simp; omega))
  · exact g_is_term_brw rfl rfl (by decide)
  · exact st _ (pl _) (Or.inr (put_pb rfl))
theorem g_law_odd_eq {s : List Nat} {n : Nat} (hs : Tm n s) (n0 : 0 < n) (n1 : n ≤ 5) (d : Nat) : ∃ x k, k < n ∧ x ∈ odds s k ∧ g_law_odd [.str s, .int d] = .ok (.val x) := by
  have hl : s.length ≤ 5 := by rw [hs.1]; exact n1
  have g1 : s.length ≤ 100000 := small rfl (by omega)
  have hp : (0 : Int) < (s.length : Nat) := by have := hs.1; omega
  obtain ⟨q, hat⟩ := of_nat (Int.emod_nonneg (d : Int) (Int.ne_of_gt hp))
  have hlt : q < n := by
    have := Int.emod_lt_of_pos (d : Int) hp
    have := hs.1
    omega
  obtain ⟨j, hj⟩ := of_nat (i := (d : Int) / 5 % 13) (by omega)
  have hj2 : j < 13 := by omega
  have hjl : j < (odds s q).length := hj2
  refine ⟨(odds s q)[j], q, hlt, List.getElem_mem hjl, ?_⟩
  refine congrArg fin (?_ : b_law_odd [.val (.str s), .val (.int d), .no, .no] = .rt _)
  unfold b_law_odd
  have e1 : gSet 2 true (fBin dMod (fVar 1) (fBi dLen (fCons (fVar 0) fNil))) [.val (.str s), .val (.int d), .no, .no] = .nx [.val (.str s), .val (.int d), .val (.int q), .no] :=
    set_v (bin_o rfl (len_o rfl g1) (by rw [mod_i hp, hat]))
  rw [seq_n e1]
  have pt : ∀ (x : Sl) (c : Nat), fBin dAdd (fBin dAdd (fSl (fVar 0) fNoPart (fPart (fVar 2))) (fC (.str [c]))) (fSl (fVar 0) (fPart (fBin dAdd (fVar 2) (fC (.int 1)))) fNoPart) [.val (.str s), .val (.int d), .val (.int q), x] = .ok (.val (.str (put s q c))) :=
    fun x c => put_o rfl rfl (bin_o rfl rfl rfl) rfl hl
  have ad : ∀ (x : Sl) (c : Nat), fBin dAdd (fVar 0) (fC (.str [c])) [.val (.str s), .val (.int d), .val (.int q), x] = .ok (.val (.str (s ++ [c]))) := fun x c => bin_o rfl rfl (add_s (le100k (by simp; omega)))
  have d1 : fSl (fVar 0) (fPart (fC (.int 1))) fNoPart [.val (.str s), .val (.int d), .val (.int q), .no] = .ok (.val (.str (s.drop 1))) := sld (k := 1) rfl rfl g1
  have e2 : fLst (fCons (fBin dAdd (fVar 0) (fC (.str [48]))) (fCons (fSl (fVar 0) (fPart (fC (.int 1))) fNoPart) (fCons (fBin dAdd (fBin dAdd (fSl (fVar 0) fNoPart (fPart (fVar 2))) (fC (.str [50]))) (fSl (fVar 0) (fPart (fBin dAdd (fVar 2) (fC (.int 1)))) fNoPart)) (fCons (fBin dAdd (fBin dAdd (fSl (fVar 0) fNoPart (fPart (fVar 2))) (fC (.str [32]))) (fSl (fVar 0) (fPart (fBin dAdd (fVar 2) (fC (.int 1)))) fNoPart)) (fCons (fC .non) (fCons (fC (.int 0)) (fCons (fLst (fCons (fVar 0) fNil)) fNil)))))))
      [.val (.str s), .val (.int d), .val (.int q), .no] = .ok (.new [.str (s ++ [48]), .str (s.drop 1), .str (put s q 50), .str (put s q 32), .non, .int 0, .lst [.str s]]) :=
    lst_o (cons_o (ad _ _) (cons_o d1 (cons_o (pt _ _) (cons_o (pt _ _) (cons_o rfl (cons_o rfl (cons_n (lst_o (ds := [.str s]) (cons_o rfl nil_o) rfl (by simp)) nil_o))))))) rfl (by simp)
  rw [seq_n (set_n e2)]
  show gRet _ [.val (.str s), .val (.int d), .val (.int q), .val (.lst [.str (s ++ [48]), .str (s.drop 1), .str (put s q 50), .str (put s q 32), .non, .int 0, .lst [.str s]])] = _
  refine ret_v (bin_g (bin_g (rb := .new [.lst (signsD s), .bl true, .str (s ++ [10]), .str [], .tup [.str s], .str (put s q 111)]) (c := .new (odds s q)) rfl (lst_o (cons_n (bi_o (cons_o rfl nil_o) (if_pos g1)) (cons_o rfl (cons_o (ad _ _) (cons_o rfl (cons_o (tup1 rfl) (cons_o (pt _ _) nil_o)))))) rfl (by simp)) rfl) (bin_o (bin_o rfl rfl (div_i (by decide))) rfl (mod_i (by decide))) ?_)
  show (atI (odds s q) ((d : Int) / 5 % 13)).map R.val = _
  rw [hj, atI_nat, List.getElem?_eq_getElem hjl]; rfl
/-! ### what is asked of a term -/
theorem isb_t : dIs (.val (.bl true)) (.val (.bl true)) = some (.val (.bl true)) := rfl
theorem isb_f : dIs (.val (.bl false)) (.val (.bl false)) = some (.val (.bl true)) := rfl
theorem put_sg45 {s : List Nat} {k : Nat} (h : Sg s) : Sg (put s k 45) := put_sg h (by simp)
theorem term_right_eq {s : List Nat} {n : Nat} (hs : Tm n s) (n0 : 0 < n) (n1 : n ≤ 5) (d : Nat) : g_law_term_right [.str s, .int d] = .ok (.val (.bl true)) := by
  have hl : s.length ≤ 5 := by rw [hs.1]; exact n1
  have g1 : s.length ≤ 100000 := small rfl (by omega)
  refine congrArg fin (?_ : b_law_term_right [.val (.str s), .val (.int d), .no, .no, .no, .no, .no] = .rt _)
  unfold b_law_term_right
  have s1 : gSet 3 true (fLc (fRg1 (fCons (fBin dShl (fC (.int 1)) (fBi dLen (fCons (fVar 0) fNil))) fNil)) [2] (.nm 2) (fTest (fCall0 g_law_agrees (fCons (fVar 0) (fCons (fVar 2) fNil)))) (fVar 2)) [.val (.str s), .val (.int d), .no, .no, .no, .no, .no]
      = .nx [.val (.str s), .val (.int d), .no, .val (.lst (sets s)), .no, .no, .no] :=
    set_n (lc_o (rg2 rfl hl) (Nat.le_trans (pow_le hl) (by decide)) fun i hi => ⟨_, rfl, test_o (call_o (cons_o rfl (cons_o rfl nil_o)) (g_law_agrees_eq s hs.2 i)), fun _ => rfl⟩)
  rw [seq_n s1]
  obtain ⟨e2, h2, a2, b2, rfl⟩ := forL_rg (t := .nm 2) (n := 2 ^ s.length) (es := [.val (.str s), .val (.int d), .no, .val (.lst (sets s)), .no, .no, .no])
    (I := fun _ es => ∃ a b, es = [.val (.str s), .val (.int d), a, .val (.lst (sets s)), b, .no, .no])
    (body := (gSeq (gSet 4 false (fCall0 g_has (fCons (fVar 0) (fCons (fVar 2) fNil))))
    (gIf (fOr (fNot (fTest (fBi dIsi (fCons (fVar 4) (fCons (fC (.ty "bool")) fNil))))) (fTest (fBin dNe (fVar 4) (fBin dIn (fVar 2) (fVar 3))))) (gRet (fC (.bl false))) gNext)))
    (fun i hi es ⟨a, b, h⟩ => by
      subst h
      refine ⟨_, rfl, [.val (.str s), .val (.int d), .val (.int i), .val (.lst (sets s)), .val (.bl (agB i 0 s)), .no, .no], ?_, _, _, rfl⟩
      rw [seq_n (set_v (call_o (cons_o rfl (cons_o rfl nil_o)) (g_has_eq s hs.2 i)))]
      exact if_f ((or_f (not_o (k := true) (test_o (bi_o (cons_o rfl (cons_o rfl nil_o)) (isi_o _))))).trans (test_o (bin_o rfl (bin_o rfl rfl (in_sets hi)) (ne_b _))))) ⟨_, _, rfl⟩
  rw [seq_n ((for_o (rg2 rfl hl)).trans h2)]
  obtain ⟨e3, h3, a3, b3, rfl⟩ := forL_rg (t := .nm 5) (n := 2) (es := [.val (.str s), .val (.int d), a2, .val (.lst (sets s)), b2, .no, .no])
    (I := fun _ es => ∃ a b, es = [.val (.str s), .val (.int d), a2, .val (.lst (sets s)), a, b, .no])
    (body := (gSeq (gSet 4 false (fCall0 g_settings_of (fCons (fVar 0) fNil)))
    (gSeq (gIf (fTest (fBin dNe (fVar 4) (fVar 3))) (gRet (fC (.bl false))) gNext)
    (gApp 4 (fC .non)))))
    (fun i hi es ⟨a, b, h⟩ => by
      subst h
      refine ⟨_, rfl, [.val (.str s), .val (.int d), a2, .val (.lst (sets s)), .own (sets s ++ [.non]), .val (.int i), .no], ?_, _, _, rfl⟩
      rw [seq_n (set_own (call_n (cons_o rfl nil_o) (g_settings_of_eq hs.2 hl)))]
      show gSeq _ _ [.val (.str s), .val (.int d), a2, .val (.lst (sets s)), .own (sets s), .val (.int i), .no] = _
      rw [seq_n (if_f (test_o (bin_g (ra := .bor (sets s)) (rb := .val (.lst (sets s))) rfl rfl (ne_sets s))))]
      show (if (sets s).length < 90000 then Out.nx _ else .no) = _
      have : (sets s).length ≤ 32 := by
        unfold sets
        rw [List.length_map]
        exact Nat.le_trans (List.length_filter_le _ _) (by rw [List.length_range]; exact pow_le hl)
      rw [if_pos (Nat.lt_of_le_of_lt this (by decide))]; rfl) ⟨_, _, rfl⟩
  rw [seq_n ((for_o (rg_o (n := 2) rfl (by decide))).trans h3)]
  obtain ⟨e4, h4, a4, rfl⟩ := forL_rg (t := .nm 6) (n := s.length) (es := [.val (.str s), .val (.int d), a2, .val (.lst (sets s)), a3, b3, .no])
    (I := fun _ es => ∃ a, es = [.val (.str s), .val (.int d), a2, .val (.lst (sets s)), a3, b3, a])
    (body := (gIf (fTest (fBin dNe (fCall0 g_freed (fCons (fVar 0) (fCons (fVar 6) fNil))) (fBin dAdd (fBin dAdd (fSl (fVar 0) fNoPart (fPart (fVar 6))) (fC (.str [45]))) (fSl (fVar 0) (fPart (fBin dAdd (fVar 6) (fC (.int 1)))) fNoPart)))) (gRet (fC (.bl false))) gNext))
    (fun i hi es ⟨a, h⟩ => by
      subst h
      exact ⟨_, rfl, [.val (.str s), .val (.int d), a2, .val (.lst (sets s)), a3, b3, .val (.int i)], if_f (test_o (bin_o (call_o (cons_o rfl (cons_o rfl nil_o)) (g_freed_eq hl)) (put_o rfl rfl (bin_o rfl rfl rfl) rfl hl) (ne_s (put_sg45 hs.2)))), _, rfl⟩) ⟨_, rfl⟩
  rw [seq_n ((for_o (rg_o (n := s.length) (len_o rfl g1) (by omega))).trans h4)]
  obtain ⟨x, k, hk, hx, ho⟩ := g_law_odd_eq hs n0 n1 d
  have i1 : g_is_term [.str s, .int s.length] = .ok (.val (.bl true)) := by
    rw [g_is_term_str (by omega), all_pb hs.2]; simp
  have i2 : g_is_term [x, .int s.length] = .ok (.val (.bl false)) := by
    rw [hs.1]; exact odds_no hs n0 n1 hk x hx
  refine ret_v ?_
  rw [andv_t (bin_o (call_o (cons_o rfl (cons_o (len_o rfl g1) nil_o)) i1) rfl isb_t)]
  exact bin_o (call_o (cons_o (call_o (cons_o rfl (cons_o rfl nil_o)) ho) (cons_o (len_o rfl g1) nil_o)) i2) rfl isb_f
end K01
namespace K01
open PySem PySem.Spec PyProof.Rows L2 Fw
/-! ### the law -/
theorem forL_en {t : Tg} {body : Fw.Env → Out} (I : Fw.Env → Prop) (hb : ∀ (k : Nat) (c : Int) (es : Fw.Env), I es → ∃ e1, stTg t (.val (.tup [.int (k : Int), .int c])) es = some e1 ∧ ∃ e2, body e1 = .nx e2 ∧ I e2) :
    ∀ (cs : List Int) (k : Nat) (es : Fw.Env), I es → ∃ e2, forL t body (enD k (cs.map D.int)) es = .nx e2 ∧ I e2
  | [], k, es, h => ⟨es, rfl, h⟩
  | c :: cs, k, es, h => by
    obtain ⟨e1, h1, e2, h2, h3⟩ := hb k c es h
    obtain ⟨e3, h4, h5⟩ := forL_en I hb cs (k + 1) e2 h3
    refine ⟨e3, ?_, h5⟩
    show forL t body (.val (.tup [.int (k : Int), .int c]) :: enD (k + 1) (cs.map D.int)) es = _
    rw [forL, h1]
    simp only [h2]
    exact h4
theorem ne_jn {s t : List Nat} (hs : Sg s) : dNe (.val (jn s t)) (.val (jn s t)) = some (.val (.bl false)) := by
  unfold jn
  split
  · split
    · rfl
    · exact ne_s (put_sg45 hs)
  · rfl
theorem asg_v {es e2 : Fw.Env} {f : Fw.Env → O R} {t : Tg} {d : D} (h : f es = .ok (.val d)) (h2 : stTg t (.val d) es = some e2) : gAsg t f es = .nx e2 := by
  unfold gAsg; rw [h]
  show (match stTg t (R.fz (.val d)) es with | some es' => Out.nx es' | none => .no) = _
  show (match stTg t (.val d) es with | some es' => Out.nx es' | none => .no) = _
  rw [h2]
theorem law_body {L : Sl} {k : Nat} {c : Int} {x3 x4 x5 x6 : Sl} : ∃ y3 y4 y5 y6, (gSeq (gSet 3 true (fCall0 g_law_spread (fCons (fVar 2) (fCons (fBin dMod (fVar 1) (fC (.int 60))) fNil))))
    (gSeq (gAsg (.tp [4, 5]) (fCall0 g_law_pair (fCons (fVar 2) (fCons (fBin dMod (fVar 1) (fC (.int 60))) fNil))))
    (gSeq (gIf (fOr (fNot (fTest (fCall0 g_law_term_right (fCons (fVar 4) (fCons (fBin dDiv (fVar 3) (fC (.int 7))) fNil))))) (fNot (fTest (fCall0 g_law_term_right (fCons (fVar 5) (fCons (fBin dDiv (fVar 3) (fC (.int 13))) fNil)))))) (gRet (fC (.bl false))) gNext)
    (gSeq (gSet 6 true (fCall0 g_law_joined (fCons (fVar 4) (fCons (fVar 5) fNil))))
    (gIf (fOr (fTest (fBin dNe (fCall0 g_laid (fCons (fVar 4) (fCons (fVar 5) fNil))) (fVar 6))) (fTest (fBin dNe (fCall0 g_laid (fCons (fVar 5) (fCons (fVar 4) fNil))) (fVar 6)))) (gRet (fC (.bl false))) gNext)))))
    [L, .val (.int k), .val (.int c), x3, x4, x5, x6] = .nx [L, .val (.int k), .val (.int c), y3, y4, y5, y6] := by
  obtain ⟨d, hd⟩ := spr_nat c ((k : Int) % 60) (by omega) (by omega)
  obtain ⟨n, s, u, n0, n1, hs, hu, hp⟩ := pair_eq c ((k : Int) % 60) (by omega) (by omega)
  obtain ⟨d7, h7⟩ := of_nat (i := (d : Int) / 7) (by omega)
  obtain ⟨d13, h13⟩ := of_nat (i := (d : Int) / 13) (by omega)
  refine ⟨.val (.int d), .val (.str s), .val (.str u), .val (jn s u), ?_⟩
  have m60 : ∀ a b c d : Sl, fBin dMod (fVar 1) (fC (.int 60)) [L, .val (.int k), a, b, c, d, x6] = .ok (.val (.int ((k : Int) % 60))) := fun a b c d => bin_o rfl rfl (mod_i (by decide))
  rw [seq_n (set_v (call_o (cons_o rfl (cons_o (m60 _ _ _ _) nil_o)) hd))]
  show gSeq _ _ [L, .val (.int k), .val (.int c), .val (.int d), x4, x5, x6] = _
  rw [seq_n (asg_v (call_o (cons_o rfl (cons_o (m60 _ _ _ _) nil_o)) hp) rfl)]
  show gSeq _ _ [L, .val (.int k), .val (.int c), .val (.int d), .val (.str s), .val (.str u), x6] = _
  have d7' : fBin dDiv (fVar 3) (fC (.int 7)) [L, .val (.int k), .val (.int c), .val (.int d), .val (.str s), .val (.str u), x6] = .ok (.val (.int d7)) := by
    rw [← h7]; exact bin_o rfl rfl (div_i (by decide))
  have d13' : fBin dDiv (fVar 3) (fC (.int 13)) [L, .val (.int k), .val (.int c), .val (.int d), .val (.str s), .val (.str u), x6] = .ok (.val (.int d13)) := by
    rw [← h13]; exact bin_o rfl rfl (div_i (by decide))
  have t1 := not_o (k := true) (test_o (call_o (fr := fCons (fVar 4) (fCons (fBin dDiv (fVar 3) (fC (.int 7))) fNil)) (cons_o rfl (cons_o d7' nil_o)) (term_right_eq hs n0 n1 d7)))
  have t2 := not_o (k := true) (test_o (call_o (fr := fCons (fVar 5) (fCons (fBin dDiv (fVar 3) (fC (.int 13))) fNil)) (cons_o rfl (cons_o d13' nil_o)) (term_right_eq hu n0 n1 d13)))
  rw [seq_n (if_f ((or_f t1).trans t2))]
  have ln : s.length = u.length := by rw [hs.1, hu.1]
  rw [seq_n (set_v (call_o (cons_o rfl (cons_o rfl nil_o)) (joined_eq hs hu n1)))]
  show gIf _ _ _ [L, .val (.int k), .val (.int c), .val (.int d), .val (.str s), .val (.str u), .val (jn s u)] = _
  have l2 := laid_eq hu hs n1
  rw [jn_symm ln] at l2
  exact if_f ((or_f (test_o (bin_o (call_o (cons_o rfl (cons_o rfl nil_o)) (laid_eq hs hu n1)) rfl (ne_jn hs.2)))).trans (test_o (bin_o (call_o (cons_o rfl (cons_o rfl nil_o)) l2) rfl (ne_jn hs.2))))
theorem flat_ints (ns : List Int) : (ns.map D.int).all flat = true := by
  rw [List.all_eq_true]
  intro d hd
  obtain ⟨n, _, rfl⟩ := List.mem_map.mp hd
  rfl
theorem law_eq (ns : List Int) (hn : ns.length ≤ 1000) : g_law [.lst (ns.map .int)] = .ok (.val (.bl true)) := by
  refine congrArg fin (?_ : b_law [.brw (.lst (ns.map .int)), .no, .no, .no, .no, .no, .no] = .rt (.val (.bl true)))
  unfold b_law
  have hsrc : fEnum true (fCons (fBin dAdd (fVar 0) (fLst (fCons (fC (.int 0)) fNil))) fNil) [.brw (.lst (ns.map .int)), .no, .no, .no, .no, .no, .no] = .ok (enD 0 ((ns ++ [0]).map D.int)) := by
    have h1 : fBin dAdd (fVar 0) (fLst (fCons (fC (.int 0)) fNil)) [.brw (.lst (ns.map .int)), .no, .no, .no, .no, .no, .no] = .ok (.new ((ns ++ [0]).map D.int)) := by
      refine bin_g (ra := .brw (.lst (ns.map .int))) (rb := .new [.int 0]) rfl (lst_o (cons_o rfl nil_o) rfl (by simp)) ?_
      show (match (if (ns.map D.int).all flat then some (ns.map D.int) else none), some [D.int 0] with
        | some xs, some ys => if xs.length + ys.length ≤ 100000 then some (R.new (xs ++ ys)) else none
        | _, _ => none) = _
      rw [flat_ints]
      show (if _ then _ else _) = _
      rw [if_pos (by simp; omega)]
      simp
    unfold fEnum
    rw [cons_n h1 nil_o]; rfl
  obtain ⟨e2, h2, _⟩ := forL_en (t := .tp [1, 2]) (I := fun es => ∃ L x1 x2 x3 x4 x5 x6, es = [L, x1, x2, x3, x4, x5, x6]) (fun k c es ⟨L, x1, x2, x3, x4, x5, x6, h⟩ => by
    subst h
    obtain ⟨y3, y4, y5, y6, e⟩ := law_body (L := L) (k := k) (c := c) (x3 := x3) (x4 := x4) (x5 := x5) (x6 := x6)
    exact ⟨_, rfl, _, e, _, _, _, _, _, _, _, rfl⟩) (ns ++ [0]) 0 [.brw (.lst (ns.map .int)), .no, .no, .no, .no, .no, .no] ⟨_, _, _, _, _, _, _, rfl⟩
  rw [seq_n ((for_o hsrc).trans h2)]
  rfl
end K01
namespace K01.N
open PySem PySem.Spec PyProof.Rows L2 Fw
theorem g_is_term_other {x : D} {t : String} {n : Int} (h : tyD2 x = some t) (ht : t ≠ "str") : g_is_term [x, .int n] = .ok (.val (.bl false)) := Mt4.isT_other h ht
theorem g_is_term_str {w : List Nat} {n : Nat} (hw : w.length ≤ 10) (hc : (w.all fun c => decide (c < 1114112)) = true) : g_is_term [.str w, .int n] = .ok (.val (.bl (decide (w.length = n) && w.all K01.pb))) := Mt4.isT_str (Nat.le_trans hw (by decide)) hc
theorem ag_same (n : Nat) : ∀ (k : Nat) (s : List Nat), Fw.agB n k s = K01.agB n k s
  | _, [] => rfl
  | k, c :: s => by
    show (Fw.okS n k c && Fw.agB n (k + 1) s) = (K01.okS n k c && K01.agB n (k + 1) s)
    rw [ag_same n (k + 1) s]; rfl
theorem g_settings_of_eq {s : List Nat} (hs : K01.Sg s) (hn : s.length ≤ 5) : g_settings_of [.str s] = .ok (.new (K01.sets s)) := by
  have ht : Fw.Tm s.length s := ⟨rfl, hs⟩
  refine run0_rt (e := [.val (.str s)]) rfl ?_
  unfold b_settings_of
  have h1 : g_mask_had [.str s] = .ok (.val (.int ((Mw.mkh s : Nat) : Int))) := Mt4.mh_eq hs hn
  have hlt := Mw.mkh_lt ht
  have p32 := Fw.pow_le hn
  have h2 : g_settings_in [.int ((Mw.mkh s : Nat) : Int)] = .ok (.new (Mb.its (Mb.bts (Mw.mkh s)))) := Mt4.si_eq hlt (by omega)
  refine Fw.ret_n (Fw.call_n (rs := [.val (.int ((Mw.mkh s : Nat) : Int))]) (Fw.cons_o (Fw.call_o (rs := [.val (.str s)]) rfl h1) Fw.nil_o) ?_)
  refine h2.trans ?_
  rw [Mt4.bts_mkh ht]
  have e : (fun x => Fw.agB x 0 s) = fun x => K01.agB x 0 s := funext fun x => ag_same x 0 s
  rw [e]; rfl
theorem odds_no {s : List Nat} {n k : Nat} (hs : K01.Tm n s) (n0 : 0 < n) (n1 : n ≤ 5) (hk : k < n) : ∀ x ∈ odds s k, g_is_term [x, .int n] = .ok (.val (.bl false)) := by
  have hl := hs.1
  have st : ∀ w : List Nat, w.length ≤ 10 → (w.all fun c => decide (c < 1114112)) = true → (w.length ≠ n ∨ w.all K01.pb = false) → g_is_term [.str w, .int n] = .ok (.val (.bl false)) := fun w h1 hc h2 => by
    rw [g_is_term_str h1 hc]
    rcases h2 with h2 | h2
    · rw [decide_eq_false h2]; rfl
    · rw [h2, Bool.and_false]
  have pl : ∀ c, (K01.put s k c).length ≤ 10 := fun c => by rw [K01.put_len (by omega)]; omega
  have sg : ∀ c ∈ s, c < 1114112 := fun c hc => by rcases hs.2 c hc with rfl | rfl | rfl <;> decide
  have al : ∀ w : List Nat, (∀ c ∈ w, c < 1114112) → (w.all fun c => decide (c < 1114112)) = true := fun w h => List.all_eq_true.mpr fun c hc => decide_eq_true (h c hc)
  have pc : ∀ d, d < 1114112 → ∀ c ∈ K01.put s k d, c < 1114112 := fun d hd c hc => by
    simp only [K01.put, List.mem_append, List.mem_singleton] at hc
    rcases hc with (hc | hc) | hc
    · exact sg c (List.mem_of_mem_take hc)
    · omega
    · exact sg c (List.mem_of_mem_drop hc)
  have ac : ∀ d, d < 1114112 → ∀ c ∈ s ++ [d], c < 1114112 := fun d hd c hc => by
    rcases List.mem_append.mp hc with hc | hc
    · exact sg c hc
    · rw [List.mem_singleton.mp hc]; exact hd
  intro x hx
  simp only [odds, List.mem_append, List.mem_cons, List.not_mem_nil, or_false] at hx
  rcases hx with (rfl | rfl | rfl | rfl | rfl | rfl | rfl) | (rfl | rfl | rfl | rfl | rfl | rfl)
  · exact st _ (by simp; omega) (al _ (ac _ (by decide))) (Or.inl (by simp; omega))
  · exact st _ (by simp; omega) (al _ fun c hc => sg c (List.mem_of_mem_drop hc)) (Or.inl (by simp; omega))
  · exact st _ (pl _) (al _ (pc _ (by decide))) (Or.inr (K01.put_pb rfl))
  · exact st _ (pl _) (al _ (pc _ (by decide))) (Or.inr (K01.put_pb rfl))
  · exact g_is_term_other rfl (by decide)
  · exact g_is_term_other rfl (by decide)
  · exact g_is_term_other rfl (by decide)
  · exact g_is_term_other rfl (by decide)
  · exact g_is_term_other rfl (by decide)
  · exact st _ (by simp; omega) (al _ (ac _ (by decide))) (Or.inl (by simp; omega))
  · exact st _ (by simp) rfl (Or.inl (by simp; omega))
  · exact g_is_term_other rfl (by decide)
  · exact st _ (pl _) (al _ (pc _ (by decide))) (Or.inr (K01.put_pb rfl))
theorem term_right_eq {s : List Nat} {n : Nat} (hs : Tm n s) (n0 : 0 < n) (n1 : n ≤ 5) (d : Nat) : g_law_term_right [.str s, .int d] = .ok (.val (.bl true)) := by
  have hl : s.length ≤ 5 := by rw [hs.1]; exact n1
  have g1 : s.length ≤ 100000 := small rfl (by omega)
  refine congrArg fin (?_ : b_law_term_right [.val (.str s), .val (.int d), .no, .no, .no, .no, .no] = .rt _)
  unfold b_law_term_right
  have s1 : gSet 3 true (fLc (fRg1 (fCons (fBin dShl (fC (.int 1)) (fBi dLen (fCons (fVar 0) fNil))) fNil)) [2] (.nm 2) (fTest (fCall0 g_law_agrees (fCons (fVar 0) (fCons (fVar 2) fNil)))) (fVar 2)) [.val (.str s), .val (.int d), .no, .no, .no, .no, .no]
      = .nx [.val (.str s), .val (.int d), .no, .val (.lst (sets s)), .no, .no, .no] :=
    set_n (lc_o (rg2 rfl hl) (Nat.le_trans (pow_le hl) (by decide)) fun i hi => ⟨_, rfl, test_o (call_o (cons_o rfl (cons_o rfl nil_o)) (g_law_agrees_eq s hs.2 i)), fun _ => rfl⟩)
  rw [seq_n s1]
  obtain ⟨e2, h2, a2, b2, rfl⟩ := forL_rg (t := .nm 2) (n := 2 ^ s.length) (es := [.val (.str s), .val (.int d), .no, .val (.lst (sets s)), .no, .no, .no])
    (I := fun _ es => ∃ a b, es = [.val (.str s), .val (.int d), a, .val (.lst (sets s)), b, .no, .no])
    (body := (gSeq (gSet 4 false (fCall0 g_has (fCons (fVar 0) (fCons (fVar 2) fNil))))
    (gIf (fOr (fNot (fTest (fBi dIsi (fCons (fVar 4) (fCons (fC (.ty "bool")) fNil))))) (fTest (fBin dNe (fVar 4) (fBin dIn (fVar 2) (fVar 3))))) (gRet (fC (.bl false))) gNext)))
    (fun i hi es ⟨a, b, h⟩ => by
      subst h
      refine ⟨_, rfl, [.val (.str s), .val (.int d), .val (.int i), .val (.lst (sets s)), .val (.bl (agB i 0 s)), .no, .no], ?_, _, _, rfl⟩
      rw [seq_n (set_v (call_o (cons_o rfl (cons_o rfl nil_o)) (g_has_eq s hs.2 i)))]
      exact if_f ((or_f (not_o (k := true) (test_o (bi_o (cons_o rfl (cons_o rfl nil_o)) (isi_o _))))).trans (test_o (bin_o rfl (bin_o rfl rfl (in_sets hi)) (ne_b _))))) ⟨_, _, rfl⟩
  rw [seq_n ((for_o (rg2 rfl hl)).trans h2)]
  obtain ⟨e3, h3, a3, b3, rfl⟩ := forL_rg (t := .nm 5) (n := 2) (es := [.val (.str s), .val (.int d), a2, .val (.lst (sets s)), b2, .no, .no])
    (I := fun _ es => ∃ a b, es = [.val (.str s), .val (.int d), a2, .val (.lst (sets s)), a, b, .no])
    (body := (gSeq (gSet 4 false (fCall0 g_settings_of (fCons (fVar 0) fNil)))
    (gSeq (gIf (fTest (fBin dNe (fVar 4) (fVar 3))) (gRet (fC (.bl false))) gNext)
    (gApp 4 (fC .non)))))
    (fun i hi es ⟨a, b, h⟩ => by
      subst h
      refine ⟨_, rfl, [.val (.str s), .val (.int d), a2, .val (.lst (sets s)), .own (sets s ++ [.non]), .val (.int i), .no], ?_, _, _, rfl⟩
      rw [seq_n (set_own (call_n (cons_o rfl nil_o) (g_settings_of_eq hs.2 hl)))]
      show gSeq _ _ [.val (.str s), .val (.int d), a2, .val (.lst (sets s)), .own (sets s), .val (.int i), .no] = _
      rw [seq_n (if_f (test_o (bin_g (ra := .bor (sets s)) (rb := .val (.lst (sets s))) rfl rfl (ne_sets s))))]
      show (if (sets s).length < 90000 then Out.nx _ else .no) = _
      have : (sets s).length ≤ 32 := by
        unfold sets
        rw [List.length_map]
        exact Nat.le_trans (List.length_filter_le _ _) (by rw [List.length_range]; exact pow_le hl)
      rw [if_pos (Nat.lt_of_le_of_lt this (by decide))]; rfl) ⟨_, _, rfl⟩
  rw [seq_n ((for_o (rg_o (n := 2) rfl (by decide))).trans h3)]
  obtain ⟨e4, h4, a4, rfl⟩ := forL_rg (t := .nm 6) (n := s.length) (es := [.val (.str s), .val (.int d), a2, .val (.lst (sets s)), a3, b3, .no])
    (I := fun _ es => ∃ a, es = [.val (.str s), .val (.int d), a2, .val (.lst (sets s)), a3, b3, a])
    (body := (gIf (fTest (fBin dNe (fCall0 g_freed (fCons (fVar 0) (fCons (fVar 6) fNil))) (fBin dAdd (fBin dAdd (fSl (fVar 0) fNoPart (fPart (fVar 6))) (fC (.str [45]))) (fSl (fVar 0) (fPart (fBin dAdd (fVar 6) (fC (.int 1)))) fNoPart)))) (gRet (fC (.bl false))) gNext))
    (fun i hi es ⟨a, h⟩ => by
      subst h
      exact ⟨_, rfl, [.val (.str s), .val (.int d), a2, .val (.lst (sets s)), a3, b3, .val (.int i)], if_f (test_o (bin_o (call_o (cons_o rfl (cons_o rfl nil_o)) (g_freed_eq hl)) (put_o rfl rfl (bin_o rfl rfl rfl) rfl hl) (ne_s (put_sg45 hs.2)))), _, rfl⟩) ⟨_, rfl⟩
  rw [seq_n ((for_o (rg_o (n := s.length) (len_o rfl g1) (by omega))).trans h4)]
  obtain ⟨x, k, hk, hx, ho⟩ := g_law_odd_eq hs n0 n1 d
  have i1 : g_is_term [.str s, .int s.length] = .ok (.val (.bl true)) := by
    rw [g_is_term_str (by omega) (List.all_eq_true.mpr fun c hc => by rcases hs.2 c hc with rfl | rfl | rfl <;> decide), K01.all_pb hs.2]; simp
  have i2 : g_is_term [x, .int s.length] = .ok (.val (.bl false)) := by
    rw [hs.1]; exact odds_no hs n0 n1 hk x hx
  refine ret_v ?_
  rw [andv_t (bin_o (call_o (cons_o rfl (cons_o (len_o rfl g1) nil_o)) i1) rfl isb_t)]
  exact bin_o (call_o (cons_o (call_o (cons_o rfl (cons_o rfl nil_o)) ho) (cons_o (len_o rfl g1) nil_o)) i2) rfl isb_f
theorem law_body {L : Sl} {k : Nat} {c : Int} {x3 x4 x5 x6 : Sl} : ∃ y3 y4 y5 y6, (gSeq (gSet 3 true (fCall0 g_law_spread (fCons (fVar 2) (fCons (fBin dMod (fVar 1) (fC (.int 60))) fNil))))
    (gSeq (gAsg (.tp [4, 5]) (fCall0 g_law_pair (fCons (fVar 2) (fCons (fBin dMod (fVar 1) (fC (.int 60))) fNil))))
    (gSeq (gIf (fOr (fNot (fTest (fCall0 g_law_term_right (fCons (fVar 4) (fCons (fBin dDiv (fVar 3) (fC (.int 7))) fNil))))) (fNot (fTest (fCall0 g_law_term_right (fCons (fVar 5) (fCons (fBin dDiv (fVar 3) (fC (.int 13))) fNil)))))) (gRet (fC (.bl false))) gNext)
    (gSeq (gSet 6 true (fCall0 g_law_joined (fCons (fVar 4) (fCons (fVar 5) fNil))))
    (gIf (fOr (fTest (fBin dNe (fCall0 g_laid (fCons (fVar 4) (fCons (fVar 5) fNil))) (fVar 6))) (fTest (fBin dNe (fCall0 g_laid (fCons (fVar 5) (fCons (fVar 4) fNil))) (fVar 6)))) (gRet (fC (.bl false))) gNext)))))
    [L, .val (.int k), .val (.int c), x3, x4, x5, x6] = .nx [L, .val (.int k), .val (.int c), y3, y4, y5, y6] := by
  obtain ⟨d, hd⟩ := spr_nat c ((k : Int) % 60) (by omega) (by omega)
  obtain ⟨n, s, u, n0, n1, hs, hu, hp⟩ := pair_eq c ((k : Int) % 60) (by omega) (by omega)
  obtain ⟨d7, h7⟩ := of_nat (i := (d : Int) / 7) (by omega)
  obtain ⟨d13, h13⟩ := of_nat (i := (d : Int) / 13) (by omega)
  refine ⟨.val (.int d), .val (.str s), .val (.str u), .val (jn s u), ?_⟩
  have m60 : ∀ a b c d : Sl, fBin dMod (fVar 1) (fC (.int 60)) [L, .val (.int k), a, b, c, d, x6] = .ok (.val (.int ((k : Int) % 60))) := fun a b c d => bin_o rfl rfl (mod_i (by decide))
  rw [seq_n (set_v (call_o (cons_o rfl (cons_o (m60 _ _ _ _) nil_o)) hd))]
  show gSeq _ _ [L, .val (.int k), .val (.int c), .val (.int d), x4, x5, x6] = _
  rw [seq_n (asg_v (call_o (cons_o rfl (cons_o (m60 _ _ _ _) nil_o)) hp) rfl)]
  show gSeq _ _ [L, .val (.int k), .val (.int c), .val (.int d), .val (.str s), .val (.str u), x6] = _
  have d7' : fBin dDiv (fVar 3) (fC (.int 7)) [L, .val (.int k), .val (.int c), .val (.int d), .val (.str s), .val (.str u), x6] = .ok (.val (.int d7)) := by
    rw [← h7]; exact bin_o rfl rfl (div_i (by decide))
  have d13' : fBin dDiv (fVar 3) (fC (.int 13)) [L, .val (.int k), .val (.int c), .val (.int d), .val (.str s), .val (.str u), x6] = .ok (.val (.int d13)) := by
    rw [← h13]; exact bin_o rfl rfl (div_i (by decide))
  have t1 := not_o (k := true) (test_o (call_o (fr := fCons (fVar 4) (fCons (fBin dDiv (fVar 3) (fC (.int 7))) fNil)) (cons_o rfl (cons_o d7' nil_o)) (term_right_eq hs n0 n1 d7)))
  have t2 := not_o (k := true) (test_o (call_o (fr := fCons (fVar 5) (fCons (fBin dDiv (fVar 3) (fC (.int 13))) fNil)) (cons_o rfl (cons_o d13' nil_o)) (term_right_eq hu n0 n1 d13)))
  rw [seq_n (if_f ((or_f t1).trans t2))]
  have ln : s.length = u.length := by rw [hs.1, hu.1]
  rw [seq_n (set_v (call_o (cons_o rfl (cons_o rfl nil_o)) (joined_eq hs hu n1)))]
  show gIf _ _ _ [L, .val (.int k), .val (.int c), .val (.int d), .val (.str s), .val (.str u), .val (jn s u)] = _
  have l2 := laid_eq hu hs n1
  rw [jn_symm ln] at l2
  exact if_f ((or_f (test_o (bin_o (call_o (cons_o rfl (cons_o rfl nil_o)) (laid_eq hs hu n1)) rfl (ne_jn hs.2)))).trans (test_o (bin_o (call_o (cons_o rfl (cons_o rfl nil_o)) l2) rfl (ne_jn hs.2))))
theorem law_eq (ns : List Int) (hn : ns.length ≤ 1000) : g_law [.lst (ns.map .int)] = .ok (.val (.bl true)) := by
  refine congrArg fin (?_ : b_law [.brw (.lst (ns.map .int)), .no, .no, .no, .no, .no, .no] = .rt (.val (.bl true)))
  unfold b_law
  have hsrc : fEnum true (fCons (fBin dAdd (fVar 0) (fLst (fCons (fC (.int 0)) fNil))) fNil) [.brw (.lst (ns.map .int)), .no, .no, .no, .no, .no, .no] = .ok (enD 0 ((ns ++ [0]).map D.int)) := by
    have h1 : fBin dAdd (fVar 0) (fLst (fCons (fC (.int 0)) fNil)) [.brw (.lst (ns.map .int)), .no, .no, .no, .no, .no, .no] = .ok (.new ((ns ++ [0]).map D.int)) := by
      refine bin_g (ra := .brw (.lst (ns.map .int))) (rb := .new [.int 0]) rfl (lst_o (cons_o rfl nil_o) rfl (by simp)) ?_
      show (match (if (ns.map D.int).all flat then some (ns.map D.int) else none), some [D.int 0] with
        | some xs, some ys => if xs.length + ys.length ≤ 100000 then some (R.new (xs ++ ys)) else none
        | _, _ => none) = _
      rw [flat_ints]
      show (if _ then _ else _) = _
      rw [if_pos (by simp; omega)]
      simp
    unfold fEnum
    rw [cons_n h1 nil_o]; rfl
  obtain ⟨e2, h2, _⟩ := forL_en (t := .tp [1, 2]) (I := fun es => ∃ L x1 x2 x3 x4 x5 x6, es = [L, x1, x2, x3, x4, x5, x6]) (fun k c es ⟨L, x1, x2, x3, x4, x5, x6, h⟩ => by
    subst h
    obtain ⟨y3, y4, y5, y6, e⟩ := law_body (L := L) (k := k) (c := c) (x3 := x3) (x4 := x4) (x5 := x5) (x6 := x6)
    exact ⟨_, rfl, _, e, _, _, _, _, _, _, _, rfl⟩) (ns ++ [0]) 0 [.brw (.lst (ns.map .int)), .no, .no, .no, .no, .no, .no] ⟨_, _, _, _, _, _, _, rfl⟩
  rw [seq_n ((for_o hsrc).trans h2)]
  rfl
end K01.N
namespace K01.N
open PySem PySem.Spec PyProof.Rows L2 Fw
theorem all_mk {w : World} {K : PySem.W.Frag} {h : Heap} {mg : Str → Option Value} {fa : Addr} {q : Program} (X : K.In h) (G : h.Ns mainGlobals mg) (hfa : mg "law" = some (.ref fa))
    (own : ∀ (y : Str) (f : Addr), ((recsOf q).any fun e => e.name == y) = true → mg y = some (.ref f) → OwnT K f h)
    {f_law_joined : Addr} {od_law_joined an_law_joined : Option Addr} {sl_law_joined : Array (Option Value)} {oc_law_joined kV_law_joined dc_law_joined pm_law_joined ct_law_joined cd_law_joined : Value}
    {f_law_spread : Addr} {od_law_spread an_law_spread : Option Addr} {sl_law_spread : Array (Option Value)} {oc_law_spread kV_law_spread dc_law_spread pm_law_spread ct_law_spread cd_law_spread : Value}
    {f_law_bent : Addr} {od_law_bent an_law_bent : Option Addr} {sl_law_bent : Array (Option Value)} {oc_law_bent kV_law_bent dc_law_bent pm_law_bent ct_law_bent cd_law_bent : Value}
    {f_law_pair : Addr} {od_law_pair an_law_pair : Option Addr} {sl_law_pair : Array (Option Value)} {oc_law_pair kV_law_pair dc_law_pair pm_law_pair ct_law_pair cd_law_pair : Value}
    {f_law_agrees : Addr} {od_law_agrees an_law_agrees : Option Addr} {sl_law_agrees : Array (Option Value)} {oc_law_agrees kV_law_agrees dc_law_agrees pm_law_agrees ct_law_agrees cd_law_agrees : Value}
    {f_law_odd : Addr} {od_law_odd an_law_odd : Option Addr} {sl_law_odd : Array (Option Value)} {oc_law_odd kV_law_odd dc_law_odd pm_law_odd ct_law_odd cd_law_odd : Value}
    {f_freed : Addr} {od_freed an_freed : Option Addr} {sl_freed : Array (Option Value)} {oc_freed kV_freed dc_freed pm_freed ct_freed cd_freed : Value}
    {f_is_lit : Addr} {od_is_lit an_is_lit : Option Addr} {sl_is_lit : Array (Option Value)} {oc_is_lit kV_is_lit dc_is_lit pm_is_lit ct_is_lit cd_is_lit : Value}
    {f_sign_at : Addr} {od_sign_at an_sign_at : Option Addr} {sl_sign_at : Array (Option Value)} {oc_sign_at kV_sign_at dc_sign_at pm_sign_at ct_sign_at cd_sign_at : Value}
    {f_has : Addr} {od_has an_has : Option Addr} {sl_has : Array (Option Value)} {oc_has kV_has dc_has pm_has ct_has cd_has : Value}
    {f_is_term : Addr} {od_is_term an_is_term : Option Addr} {sl_is_term : Array (Option Value)} {oc_is_term kV_is_term dc_is_term pm_is_term ct_is_term cd_is_term : Value}
    {f_mask_had : Addr} {od_mask_had an_mask_had : Option Addr} {sl_mask_had : Array (Option Value)} {oc_mask_had kV_mask_had dc_mask_had pm_mask_had ct_mask_had cd_mask_had : Value}
    {f_settings_in : Addr} {od_settings_in an_settings_in : Option Addr} {sl_settings_in : Array (Option Value)} {oc_settings_in kV_settings_in dc_settings_in pm_settings_in ct_settings_in cd_settings_in : Value}
    {f_settings_of : Addr} {od_settings_of an_settings_of : Option Addr} {sl_settings_of : Array (Option Value)} {oc_settings_of kV_settings_of dc_settings_of pm_settings_of ct_settings_of cd_settings_of : Value}
    {f_law_term_right : Addr} {od_law_term_right an_law_term_right : Option Addr} {sl_law_term_right : Array (Option Value)} {oc_law_term_right kV_law_term_right dc_law_term_right pm_law_term_right ct_law_term_right cd_law_term_right : Value}
    {f_laid : Addr} {od_laid an_laid : Option Addr} {sl_laid : Array (Option Value)} {oc_laid kV_laid dc_laid pm_laid ct_laid cd_laid : Value}
    {f_law : Addr} {od_law an_law : Option Addr} {sl_law : Array (Option Value)} {oc_law kV_law dc_law pm_law ct_law cd_law : Value}
    {v_DARK : Str} {tk_DARK : Tok}
    {v_EITHER : Str} {tk_EITHER : Tok}
    {v_LIT : Str} {tk_LIT : Tok}
    {v_SIGNS : Str} {tk_SIGNS : Tok}
    (a_law_joined : PySem.W.nsIn K mainGlobals "_law_joined" = some (some (.ref f_law_joined)))
    (l_law_joined : K.lookup f_law_joined = some ⟨oc_law_joined, od_law_joined, .func (PySem.W.fnOf "_law_joined" "_law_joined" (defArgs s_law_joined) (defBody s_law_joined) (defScope s_law_joined) .none kV_law_joined dc_law_joined pm_law_joined an_law_joined cd_law_joined ct_law_joined), sl_law_joined⟩)
    (i_law_joined : PySem.W.codeIn K cd_law_joined "_law_joined" = true)
    (k_law_joined : PySem.W.keepIn K (.ref f_law_joined) = true)
    (a_law_spread : PySem.W.nsIn K mainGlobals "_law_spread" = some (some (.ref f_law_spread)))
    (l_law_spread : K.lookup f_law_spread = some ⟨oc_law_spread, od_law_spread, .func (PySem.W.fnOf "_law_spread" "_law_spread" (defArgs s_law_spread) (defBody s_law_spread) (defScope s_law_spread) .none kV_law_spread dc_law_spread pm_law_spread an_law_spread cd_law_spread ct_law_spread), sl_law_spread⟩)
    (i_law_spread : PySem.W.codeIn K cd_law_spread "_law_spread" = true)
    (k_law_spread : PySem.W.keepIn K (.ref f_law_spread) = true)
    (a_law_bent : PySem.W.nsIn K mainGlobals "_law_bent" = some (some (.ref f_law_bent)))
    (l_law_bent : K.lookup f_law_bent = some ⟨oc_law_bent, od_law_bent, .func (PySem.W.fnOf "_law_bent" "_law_bent" (defArgs s_law_bent) (defBody s_law_bent) (defScope s_law_bent) .none kV_law_bent dc_law_bent pm_law_bent an_law_bent cd_law_bent ct_law_bent), sl_law_bent⟩)
    (i_law_bent : PySem.W.codeIn K cd_law_bent "_law_bent" = true)
    (k_law_bent : PySem.W.keepIn K (.ref f_law_bent) = true)
    (a_law_pair : PySem.W.nsIn K mainGlobals "_law_pair" = some (some (.ref f_law_pair)))
    (l_law_pair : K.lookup f_law_pair = some ⟨oc_law_pair, od_law_pair, .func (PySem.W.fnOf "_law_pair" "_law_pair" (defArgs s_law_pair) (defBody s_law_pair) (defScope s_law_pair) .none kV_law_pair dc_law_pair pm_law_pair an_law_pair cd_law_pair ct_law_pair), sl_law_pair⟩)
    (i_law_pair : PySem.W.codeIn K cd_law_pair "_law_pair" = true)
    (k_law_pair : PySem.W.keepIn K (.ref f_law_pair) = true)
    (a_law_agrees : PySem.W.nsIn K mainGlobals "_law_agrees" = some (some (.ref f_law_agrees)))
    (l_law_agrees : K.lookup f_law_agrees = some ⟨oc_law_agrees, od_law_agrees, .func (PySem.W.fnOf "_law_agrees" "_law_agrees" (defArgs s_law_agrees) (defBody s_law_agrees) (defScope s_law_agrees) .none kV_law_agrees dc_law_agrees pm_law_agrees an_law_agrees cd_law_agrees ct_law_agrees), sl_law_agrees⟩)
    (i_law_agrees : PySem.W.codeIn K cd_law_agrees "_law_agrees" = true)
    (k_law_agrees : PySem.W.keepIn K (.ref f_law_agrees) = true)
    (a_law_odd : PySem.W.nsIn K mainGlobals "_law_odd" = some (some (.ref f_law_odd)))
    (l_law_odd : K.lookup f_law_odd = some ⟨oc_law_odd, od_law_odd, .func (PySem.W.fnOf "_law_odd" "_law_odd" (defArgs s_law_odd) (defBody s_law_odd) (defScope s_law_odd) .none kV_law_odd dc_law_odd pm_law_odd an_law_odd cd_law_odd ct_law_odd), sl_law_odd⟩)
    (i_law_odd : PySem.W.codeIn K cd_law_odd "_law_odd" = true)
    (k_law_odd : PySem.W.keepIn K (.ref f_law_odd) = true)
    (a_freed : PySem.W.nsIn K mainGlobals "freed" = some (some (.ref f_freed)))
    (l_freed : K.lookup f_freed = some ⟨oc_freed, od_freed, .func (PySem.W.fnOf "freed" "freed" (defArgs s_freed) (defBody s_freed) (defScope s_freed) .none kV_freed dc_freed pm_freed an_freed cd_freed ct_freed), sl_freed⟩)
    (i_freed : PySem.W.codeIn K cd_freed "freed" = true)
    (k_freed : PySem.W.keepIn K (.ref f_freed) = true)
    (a_is_lit : PySem.W.nsIn K mainGlobals "is_lit" = some (some (.ref f_is_lit)))
    (l_is_lit : K.lookup f_is_lit = some ⟨oc_is_lit, od_is_lit, .func (PySem.W.fnOf "is_lit" "is_lit" (defArgs s_is_lit) (defBody s_is_lit) (defScope s_is_lit) .none kV_is_lit dc_is_lit pm_is_lit an_is_lit cd_is_lit ct_is_lit), sl_is_lit⟩)
    (i_is_lit : PySem.W.codeIn K cd_is_lit "is_lit" = true)
    (k_is_lit : PySem.W.keepIn K (.ref f_is_lit) = true)
    (a_sign_at : PySem.W.nsIn K mainGlobals "sign_at" = some (some (.ref f_sign_at)))
    (l_sign_at : K.lookup f_sign_at = some ⟨oc_sign_at, od_sign_at, .func (PySem.W.fnOf "sign_at" "sign_at" (defArgs s_sign_at) (defBody s_sign_at) (defScope s_sign_at) .none kV_sign_at dc_sign_at pm_sign_at an_sign_at cd_sign_at ct_sign_at), sl_sign_at⟩)
    (i_sign_at : PySem.W.codeIn K cd_sign_at "sign_at" = true)
    (k_sign_at : PySem.W.keepIn K (.ref f_sign_at) = true)
    (a_has : PySem.W.nsIn K mainGlobals "has" = some (some (.ref f_has)))
    (l_has : K.lookup f_has = some ⟨oc_has, od_has, .func (PySem.W.fnOf "has" "has" (defArgs s_has) (defBody s_has) (defScope s_has) .none kV_has dc_has pm_has an_has cd_has ct_has), sl_has⟩)
    (i_has : PySem.W.codeIn K cd_has "has" = true)
    (k_has : PySem.W.keepIn K (.ref f_has) = true)
    (a_is_term : PySem.W.nsIn K mainGlobals "is_term" = some (some (.ref f_is_term)))
    (l_is_term : K.lookup f_is_term = some ⟨oc_is_term, od_is_term, .func (PySem.W.fnOf "is_term" "is_term" (defArgs s_is_term) (defBody s_is_term) (defScope s_is_term) .none kV_is_term dc_is_term pm_is_term an_is_term cd_is_term ct_is_term), sl_is_term⟩)
    (i_is_term : PySem.W.codeIn K cd_is_term "is_term" = true)
    (k_is_term : PySem.W.keepIn K (.ref f_is_term) = true)
    (a_mask_had : PySem.W.nsIn K mainGlobals "mask_had" = some (some (.ref f_mask_had)))
    (l_mask_had : K.lookup f_mask_had = some ⟨oc_mask_had, od_mask_had, .func (PySem.W.fnOf "mask_had" "mask_had" (defArgs s_mask_had) (defBody s_mask_had) (defScope s_mask_had) .none kV_mask_had dc_mask_had pm_mask_had an_mask_had cd_mask_had ct_mask_had), sl_mask_had⟩)
    (i_mask_had : PySem.W.codeIn K cd_mask_had "mask_had" = true)
    (k_mask_had : PySem.W.keepIn K (.ref f_mask_had) = true)
    (a_settings_in : PySem.W.nsIn K mainGlobals "settings_in" = some (some (.ref f_settings_in)))
    (l_settings_in : K.lookup f_settings_in = some ⟨oc_settings_in, od_settings_in, .func (PySem.W.fnOf "settings_in" "settings_in" (defArgs s_settings_in) (defBody s_settings_in) (defScope s_settings_in) .none kV_settings_in dc_settings_in pm_settings_in an_settings_in cd_settings_in ct_settings_in), sl_settings_in⟩)
    (i_settings_in : PySem.W.codeIn K cd_settings_in "settings_in" = true)
    (k_settings_in : PySem.W.keepIn K (.ref f_settings_in) = true)
    (a_settings_of : PySem.W.nsIn K mainGlobals "settings_of" = some (some (.ref f_settings_of)))
    (l_settings_of : K.lookup f_settings_of = some ⟨oc_settings_of, od_settings_of, .func (PySem.W.fnOf "settings_of" "settings_of" (defArgs s_settings_of) (defBody s_settings_of) (defScope s_settings_of) .none kV_settings_of dc_settings_of pm_settings_of an_settings_of cd_settings_of ct_settings_of), sl_settings_of⟩)
    (i_settings_of : PySem.W.codeIn K cd_settings_of "settings_of" = true)
    (k_settings_of : PySem.W.keepIn K (.ref f_settings_of) = true)
    (a_law_term_right : PySem.W.nsIn K mainGlobals "_law_term_right" = some (some (.ref f_law_term_right)))
    (l_law_term_right : K.lookup f_law_term_right = some ⟨oc_law_term_right, od_law_term_right, .func (PySem.W.fnOf "_law_term_right" "_law_term_right" (defArgs s_law_term_right) (defBody s_law_term_right) (defScope s_law_term_right) .none kV_law_term_right dc_law_term_right pm_law_term_right an_law_term_right cd_law_term_right ct_law_term_right), sl_law_term_right⟩)
    (i_law_term_right : PySem.W.codeIn K cd_law_term_right "_law_term_right" = true)
    (k_law_term_right : PySem.W.keepIn K (.ref f_law_term_right) = true)
    (a_laid : PySem.W.nsIn K mainGlobals "laid" = some (some (.ref f_laid)))
    (l_laid : K.lookup f_laid = some ⟨oc_laid, od_laid, .func (PySem.W.fnOf "laid" "laid" (defArgs s_laid) (defBody s_laid) (defScope s_laid) .none kV_laid dc_laid pm_laid an_laid cd_laid ct_laid), sl_laid⟩)
    (i_laid : PySem.W.codeIn K cd_laid "laid" = true)
    (k_laid : PySem.W.keepIn K (.ref f_laid) = true)
    (a_law : PySem.W.nsIn K mainGlobals "law" = some (some (.ref f_law)))
    (l_law : K.lookup f_law = some ⟨oc_law, od_law, .func (PySem.W.fnOf "law" "law" (defArgs s_law) (defBody s_law) (defScope s_law) .none kV_law dc_law pm_law an_law cd_law ct_law), sl_law⟩)
    (i_law : PySem.W.codeIn K cd_law "law" = true)
    (k_law : PySem.W.keepIn K (.ref f_law) = true)
    (z_bool : PySem.W.nsIn K mainGlobals "bool" = some none)
    (z_enumerate : PySem.W.nsIn K mainGlobals "enumerate" = some none)
    (z_int : PySem.W.nsIn K mainGlobals "int" = some none)
    (z_isinstance : PySem.W.nsIn K mainGlobals "isinstance" = some none)
    (z_len : PySem.W.nsIn K mainGlobals "len" = some none)
    (z_list : PySem.W.nsIn K mainGlobals "list" = some none)
    (z_range : PySem.W.nsIn K mainGlobals "range" = some none)
    (z_sorted : PySem.W.nsIn K mainGlobals "sorted" = some none)
    (z_str : PySem.W.nsIn K mainGlobals "str" = some none)
    (z_type : PySem.W.nsIn K mainGlobals "type" = some none)
    (b_DARK : PySem.W.nsIn K mainGlobals "DARK" = some (some (.str v_DARK tk_DARK)))
    (e_DARK : v_DARK = tx [48])
    (b_EITHER : PySem.W.nsIn K mainGlobals "EITHER" = some (some (.str v_EITHER tk_EITHER)))
    (e_EITHER : v_EITHER = tx [45])
    (b_LIT : PySem.W.nsIn K mainGlobals "LIT" = some (some (.str v_LIT tk_LIT)))
    (e_LIT : v_LIT = tx [49])
    (b_SIGNS : PySem.W.nsIn K mainGlobals "SIGNS" = some (some (.str v_SIGNS tk_SIGNS)))
    (e_SIGNS : v_SIGNS = tx [45, 48, 49])
    : LamX.LawAtS PySem.Challenge.rw_fewterms_k01_terms w K CX0 5 63 "_law_script" mg fa h := by
  have e := hfa.symm.trans (PySem.W.mg_of X G a_law)
  have e2 : f_law = fa := by cases e; rfl
  subst e2
  have F_law_joined := fun_mk (st := s_law_joined) l_law_joined i_law_joined k_law_joined
  have D_law_joined : Def K mg "_law_joined" s_law_joined P_law_joined f_law_joined _ := ⟨F_law_joined, PySem.W.mg_of X G a_law_joined, F_law_joined.binds (ps := P_law_joined) fun _ _ _ _ _ _ us hl => match us, hl with | [_, _], _ => rfl⟩
  have F_law_spread := fun_mk (st := s_law_spread) l_law_spread i_law_spread k_law_spread
  have D_law_spread : Def K mg "_law_spread" s_law_spread P_law_spread f_law_spread _ := ⟨F_law_spread, PySem.W.mg_of X G a_law_spread, F_law_spread.binds (ps := P_law_spread) fun _ _ _ _ _ _ us hl => match us, hl with | [_, _], _ => rfl⟩
  have F_law_bent := fun_mk (st := s_law_bent) l_law_bent i_law_bent k_law_bent
  have D_law_bent : Def K mg "_law_bent" s_law_bent P_law_bent f_law_bent _ := ⟨F_law_bent, PySem.W.mg_of X G a_law_bent, F_law_bent.binds (ps := P_law_bent) fun _ _ _ _ _ _ us hl => match us, hl with | [_, _], _ => rfl⟩
  have F_law_pair := fun_mk (st := s_law_pair) l_law_pair i_law_pair k_law_pair
  have D_law_pair : Def K mg "_law_pair" s_law_pair P_law_pair f_law_pair _ := ⟨F_law_pair, PySem.W.mg_of X G a_law_pair, F_law_pair.binds (ps := P_law_pair) fun _ _ _ _ _ _ us hl => match us, hl with | [_, _], _ => rfl⟩
  have F_law_agrees := fun_mk (st := s_law_agrees) l_law_agrees i_law_agrees k_law_agrees
  have D_law_agrees : Def K mg "_law_agrees" s_law_agrees P_law_agrees f_law_agrees _ := ⟨F_law_agrees, PySem.W.mg_of X G a_law_agrees, F_law_agrees.binds (ps := P_law_agrees) fun _ _ _ _ _ _ us hl => match us, hl with | [_, _], _ => rfl⟩
  have F_law_odd := fun_mk (st := s_law_odd) l_law_odd i_law_odd k_law_odd
  have D_law_odd : Def K mg "_law_odd" s_law_odd P_law_odd f_law_odd _ := ⟨F_law_odd, PySem.W.mg_of X G a_law_odd, F_law_odd.binds (ps := P_law_odd) fun _ _ _ _ _ _ us hl => match us, hl with | [_, _], _ => rfl⟩
  have F_freed := fun_mk (st := s_freed) l_freed i_freed k_freed
  have D_freed : Def K mg "freed" s_freed P_freed f_freed _ := ⟨F_freed, PySem.W.mg_of X G a_freed, F_freed.binds (ps := P_freed) fun _ _ _ _ _ _ us hl => match us, hl with | [_, _], _ => rfl⟩
  have F_is_lit := fun_mk (st := s_is_lit) l_is_lit i_is_lit k_is_lit
  have D_is_lit : Def K mg "is_lit" s_is_lit P_is_lit f_is_lit _ := ⟨F_is_lit, PySem.W.mg_of X G a_is_lit, F_is_lit.binds (ps := P_is_lit) fun _ _ _ _ _ _ us hl => match us, hl with | [_, _], _ => rfl⟩
  have F_sign_at := fun_mk (st := s_sign_at) l_sign_at i_sign_at k_sign_at
  have D_sign_at : Def K mg "sign_at" s_sign_at P_sign_at f_sign_at _ := ⟨F_sign_at, PySem.W.mg_of X G a_sign_at, F_sign_at.binds (ps := P_sign_at) fun _ _ _ _ _ _ us hl => match us, hl with | [_, _], _ => rfl⟩
  have F_has := fun_mk (st := s_has) l_has i_has k_has
  have D_has : Def K mg "has" s_has P_has f_has _ := ⟨F_has, PySem.W.mg_of X G a_has, F_has.binds (ps := P_has) fun _ _ _ _ _ _ us hl => match us, hl with | [_, _], _ => rfl⟩
  have F_is_term := fun_mk (st := s_is_term) l_is_term i_is_term k_is_term
  have D_is_term : Def K mg "is_term" s_is_term P_is_term f_is_term _ := ⟨F_is_term, PySem.W.mg_of X G a_is_term, F_is_term.binds (ps := P_is_term) fun _ _ _ _ _ _ us hl => match us, hl with | [_, _], _ => rfl⟩
  have F_mask_had := fun_mk (st := s_mask_had) l_mask_had i_mask_had k_mask_had
  have D_mask_had : Def K mg "mask_had" s_mask_had P_mask_had f_mask_had _ := ⟨F_mask_had, PySem.W.mg_of X G a_mask_had, F_mask_had.binds (ps := P_mask_had) fun _ _ _ _ _ _ us hl => match us, hl with | [_], _ => rfl⟩
  have F_settings_in := fun_mk (st := s_settings_in) l_settings_in i_settings_in k_settings_in
  have D_settings_in : Def K mg "settings_in" s_settings_in P_settings_in f_settings_in _ := ⟨F_settings_in, PySem.W.mg_of X G a_settings_in, F_settings_in.binds (ps := P_settings_in) fun _ _ _ _ _ _ us hl => match us, hl with | [_], _ => rfl⟩
  have F_settings_of := fun_mk (st := s_settings_of) l_settings_of i_settings_of k_settings_of
  have D_settings_of : Def K mg "settings_of" s_settings_of P_settings_of f_settings_of _ := ⟨F_settings_of, PySem.W.mg_of X G a_settings_of, F_settings_of.binds (ps := P_settings_of) fun _ _ _ _ _ _ us hl => match us, hl with | [_], _ => rfl⟩
  have F_law_term_right := fun_mk (st := s_law_term_right) l_law_term_right i_law_term_right k_law_term_right
  have D_law_term_right : Def K mg "_law_term_right" s_law_term_right P_law_term_right f_law_term_right _ := ⟨F_law_term_right, PySem.W.mg_of X G a_law_term_right, F_law_term_right.binds (ps := P_law_term_right) fun _ _ _ _ _ _ us hl => match us, hl with | [_, _], _ => rfl⟩
  have F_laid := fun_mk (st := s_laid) l_laid i_laid k_laid
  have D_laid : Def K mg "laid" s_laid P_laid f_laid _ := ⟨F_laid, PySem.W.mg_of X G a_laid, F_laid.binds (ps := P_laid) fun _ _ _ _ _ _ us hl => match us, hl with | [_, _], _ => rfl⟩
  have F_law := fun_mk (st := s_law) l_law i_law k_law
  have D_law : Def K mg "law" s_law P_law f_law _ := ⟨F_law, PySem.W.mg_of X G a_law, F_law.binds (ps := P_law) fun _ _ _ _ _ _ us hl => match us, hl with | [_], _ => rfl⟩
  have c_DARK : ∃ t, mg "DARK" = some (.str (tx [48]) t) := ⟨tk_DARK, by rw [← e_DARK]; exact PySem.W.mg_of X G b_DARK⟩
  have c_EITHER : ∃ t, mg "EITHER" = some (.str (tx [45]) t) := ⟨tk_EITHER, by rw [← e_EITHER]; exact PySem.W.mg_of X G b_EITHER⟩
  have c_LIT : ∃ t, mg "LIT" = some (.str (tx [49]) t) := ⟨tk_LIT, by rw [← e_LIT]; exact PySem.W.mg_of X G b_LIT⟩
  have c_SIGNS : ∃ t, mg "SIGNS" = some (.str (tx [45, 48, 49]) t) := ⟨tk_SIGNS, by rw [← e_SIGNS]; exact PySem.W.mg_of X G b_SIGNS⟩
  have y_bool := PySem.W.mg_none_of X G z_bool
  have y_enumerate := PySem.W.mg_none_of X G z_enumerate
  have y_int := PySem.W.mg_none_of X G z_int
  have y_isinstance := PySem.W.mg_none_of X G z_isinstance
  have y_len := PySem.W.mg_none_of X G z_len
  have y_list := PySem.W.mg_none_of X G z_list
  have y_range := PySem.W.mg_none_of X G z_range
  have y_sorted := PySem.W.mg_none_of X G z_sorted
  have y_str := PySem.W.mg_none_of X G z_str
  have y_type := PySem.W.mg_none_of X G z_type
  have plT := Tb.of_plain []
  refine ⟨PySem.W.fnOf "law" "law" (defArgs s_law) (defBody s_law) (defScope s_law) .none kV_law dc_law pm_law an_law cd_law ct_law, [], spD K (Tb.of []) 1 (g_law), fun p hp => (by cases hp), fun p hp => (by cases hp), fun p hp => (by cases hp), fun s v => .of_eq rfl, fun H a ns hl _ hT hS => law_sp (law_eq ns (by omega)) hT hS, fun base kb gb tb => ?_⟩
  have G_law_joined := ok_law_joined (P := PySem.Challenge.rw_fewterms_k01_terms.prog) (w := w) (mg := mg) (base := base) (T := (Tb.of [])) D_law_joined y_len y_range y_sorted
  have G_law_spread := ok_law_spread (P := PySem.Challenge.rw_fewterms_k01_terms.prog) (w := w) (mg := mg) (base := base) (T := (Tb.of [])) D_law_spread
  have G_law_bent := ok_law_bent (P := PySem.Challenge.rw_fewterms_k01_terms.prog) (w := w) (mg := mg) (base := base) (T := (Tb.of [])) D_law_bent D_law_spread G_law_spread y_len y_range
  have G_law_pair := ok_law_pair (P := PySem.Challenge.rw_fewterms_k01_terms.prog) (w := w) (mg := mg) (base := base) (T := (Tb.of [])) D_law_pair D_law_bent D_law_spread G_law_bent G_law_spread y_range
  have G_law_agrees := ok_law_agrees (P := PySem.Challenge.rw_fewterms_k01_terms.prog) (w := w) (mg := mg) (base := base) (T := (Tb.of [])) D_law_agrees y_enumerate y_int
  have G_law_odd := ok_law_odd (P := PySem.Challenge.rw_fewterms_k01_terms.prog) (w := w) (mg := mg) (base := base) (T := (Tb.of [])) D_law_odd y_len y_list
  have G_freed := ok_freed (P := PySem.Challenge.rw_fewterms_k01_terms.prog) (w := w) (mg := mg) (base := base) (T := (Tb.of [])) D_freed c_EITHER
  have G_is_lit := ok_is_lit (P := PySem.Challenge.rw_fewterms_k01_terms.prog) (w := w) (mg := mg) (base := base) (T := (Tb.of [])) D_is_lit
  have G_sign_at := ok_sign_at (P := PySem.Challenge.rw_fewterms_k01_terms.prog) (w := w) (mg := mg) (base := base) (T := (Tb.of [])) D_sign_at D_is_lit G_is_lit c_DARK c_LIT
  have G_has := ok_has (P := PySem.Challenge.rw_fewterms_k01_terms.prog) (w := w) (mg := mg) (base := base) (T := (Tb.of [])) D_has D_sign_at G_sign_at y_enumerate c_EITHER
  have G_is_term := ok_is_term (P := PySem.Challenge.rw_fewterms_k01_terms.prog) (w := w) (mg := mg) (base := base) (T := (Tb.of [])) D_is_term y_len y_str y_type c_SIGNS
  have G_mask_had := ok_mask_had (P := PySem.Challenge.rw_fewterms_k01_terms.prog) (w := w) (mg := mg) (base := base) (T := (Tb.of [])) D_mask_had y_enumerate c_EITHER c_LIT
  have G_settings_in := ok_settings_in (P := PySem.Challenge.rw_fewterms_k01_terms.prog) (w := w) (mg := mg) (base := base) (T := (Tb.of [])) D_settings_in y_range
  have G_settings_of := ok_settings_of (P := PySem.Challenge.rw_fewterms_k01_terms.prog) (w := w) (mg := mg) (base := base) (T := (Tb.of [])) D_settings_of D_mask_had D_settings_in G_mask_had G_settings_in
  have G_law_term_right := ok_law_term_right (P := PySem.Challenge.rw_fewterms_k01_terms.prog) (w := w) (mg := mg) (base := base) (T := (Tb.of [])) D_law_term_right D_law_agrees D_law_odd D_freed D_has D_is_term D_settings_of G_law_agrees G_law_odd G_freed G_has G_is_term G_settings_of y_bool y_isinstance y_len y_range
  have G_laid := ok_laid (P := PySem.Challenge.rw_fewterms_k01_terms.prog) (w := w) (mg := mg) (base := base) (T := (Tb.of [])) D_laid D_freed G_freed y_len y_range c_EITHER
  have G_law := ok_law (P := PySem.Challenge.rw_fewterms_k01_terms.prog) (w := w) (mg := mg) (base := base) (T := (Tb.of [])) D_law D_law_joined D_law_pair D_law_spread D_law_term_right D_laid G_law_joined G_law_pair G_law_spread G_law_term_right G_laid y_enumerate
  exact G_law
end K01.N
open PySem PySem.W PyProof.Rows
set_option maxHeartbeats 0 in
theorem PySem.Challenge.cw_fewterms_k01_terms_holds : PySem.Challenge.rw_fewterms_k01_terms.Holds := by
  w_on; o_law; k_head; (case hw => w_witness2)
  k_fill
  refine Fw.walk_all (l := PySem.Challenge.rw_fewterms_k01_terms) (n := 63) (k := 5) (x := "_law_script") (CX := fun _ => L2.CX0) rfl (by decide) rfl ⟨rfl, by decide, by decide⟩ (fun w h Y => PySem.W.kIn_of Y) ?F (fun _ _ _ _ _ h => h)
  case F =>
    intro w mg fa h Y KX G hmg own
    refine' K01.N.all_mk KX G hmg own ?a_law_joined ?l_law_joined ?i_law_joined ?k_law_joined ?a_law_spread ?l_law_spread ?i_law_spread ?k_law_spread ?a_law_bent ?l_law_bent ?i_law_bent ?k_law_bent ?a_law_pair ?l_law_pair ?i_law_pair ?k_law_pair ?a_law_agrees ?l_law_agrees ?i_law_agrees ?k_law_agrees ?a_law_odd ?l_law_odd ?i_law_odd ?k_law_odd ?a_freed ?l_freed ?i_freed ?k_freed ?a_is_lit ?l_is_lit ?i_is_lit ?k_is_lit ?a_sign_at ?l_sign_at ?i_sign_at ?k_sign_at ?a_has ?l_has ?i_has ?k_has ?a_is_term ?l_is_term ?i_is_term ?k_is_term ?a_mask_had ?l_mask_had ?i_mask_had ?k_mask_had ?a_settings_in ?l_settings_in ?i_settings_in ?k_settings_in ?a_settings_of ?l_settings_of ?i_settings_of ?k_settings_of ?a_law_term_right ?l_law_term_right ?i_law_term_right ?k_law_term_right ?a_laid ?l_laid ?i_laid ?k_laid ?a_law ?l_law ?i_law ?k_law ?z_bool ?z_enumerate ?z_int ?z_isinstance ?z_len ?z_list ?z_range ?z_sorted ?z_str ?z_type ?b_DARK ?e_DARK ?b_EITHER ?e_EITHER ?b_LIT ?e_LIT ?b_SIGNS ?e_SIGNS
    (case a_law_joined => k_is)
    (case l_law_joined => k_is)
    (case i_law_joined => k_is)
    (case k_law_joined => k_is)
    (case a_law_spread => k_is)
    (case l_law_spread => k_is)
    (case i_law_spread => k_is)
    (case k_law_spread => k_is)
    (case a_law_bent => k_is)
    (case l_law_bent => k_is)
    (case i_law_bent => k_is)
    (case k_law_bent => k_is)
    (case a_law_pair => k_is)
    (case l_law_pair => k_is)
    (case i_law_pair => k_is)
    (case k_law_pair => k_is)
    (case a_law_agrees => k_is)
    (case l_law_agrees => k_is)
    (case i_law_agrees => k_is)
    (case k_law_agrees => k_is)
    (case a_law_odd => k_is)
    (case l_law_odd => k_is)
    (case i_law_odd => k_is)
    (case k_law_odd => k_is)
    (case a_freed => k_is)
    (case l_freed => k_is)
    (case i_freed => k_is)
    (case k_freed => k_is)
    (case a_is_lit => k_is)
    (case l_is_lit => k_is)
    (case i_is_lit => k_is)
    (case k_is_lit => k_is)
    (case a_sign_at => k_is)
    (case l_sign_at => k_is)
    (case i_sign_at => k_is)
    (case k_sign_at => k_is)
    (case a_has => k_is)
    (case l_has => k_is)
    (case i_has => k_is)
    (case k_has => k_is)
    (case a_is_term => k_is)
    (case l_is_term => k_is)
    (case i_is_term => k_is)
    (case k_is_term => k_is)
    (case a_mask_had => k_is)
    (case l_mask_had => k_is)
    (case i_mask_had => k_is)
    (case k_mask_had => k_is)
    (case a_settings_in => k_is)
    (case l_settings_in => k_is)
    (case i_settings_in => k_is)
    (case k_settings_in => k_is)
    (case a_settings_of => k_is)
    (case l_settings_of => k_is)
    (case i_settings_of => k_is)
    (case k_settings_of => k_is)
    (case a_law_term_right => k_is)
    (case l_law_term_right => k_is)
    (case i_law_term_right => k_is)
    (case k_law_term_right => k_is)
    (case a_laid => k_is)
    (case l_laid => k_is)
    (case i_laid => k_is)
    (case k_laid => k_is)
    (case a_law => k_is)
    (case l_law => k_is)
    (case i_law => k_is)
    (case k_law => k_is)
    (case z_bool => k_is)
    (case z_enumerate => k_is)
    (case z_int => k_is)
    (case z_isinstance => k_is)
    (case z_len => k_is)
    (case z_list => k_is)
    (case z_range => k_is)
    (case z_sorted => k_is)
    (case z_str => k_is)
    (case z_type => k_is)
    (case b_DARK => k_is)
    (case e_DARK => first | rfl | decide +kernel)
    (case b_EITHER => k_is)
    (case e_EITHER => first | rfl | decide +kernel)
    (case b_LIT => k_is)
    (case e_LIT => first | rfl | decide +kernel)
    (case b_SIGNS => k_is)
    (case e_SIGNS => first | rfl | decide +kernel)
