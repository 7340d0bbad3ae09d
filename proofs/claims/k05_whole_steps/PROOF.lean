import PyProof.Rows.All
import Wide.All
import OpenK.AllK
import Wide.FinOn
import PyProof.EqAt
import PyProof.EqKinds
import PyProof.TupleCall
import KE.KExcIs
import HandS.ForMost
import HandS.ForExc
import HandS.ExcInit
import HandS.ExcField
import HandS.IsInst
import HandS.ClsMeth
import HandS.Wide
import HandS.SetFor
import HandS.Codes
import HandS.Style
import HandS.NoneIn
import HandS.Comp
import HandS.AnyAll
import HandS.GenOver
import HandS.Text
import HandS.Iter
import HandS.FStr
import KE.KExcStr
import HandS.ExcValue
import HandS.Walk
import HandS.MakeKw
import HandS.MakeKwOnly
import KE.KNestM
import HandS.Defaults
import HandS.Head0
import HandS.Head1
import HandS.Head2
import HandS.HeadHook1
import HandS.HeadHook2
import HandS.HeadHook3
import HandS.HeadHook4
import HandS.EndTab
import HandS.HeadWalk
import PySem.Challenge.RW_timesrow_k05_whole_steps
set_option Elab.async false
set_option linter.all false
set_option maxRecDepth 100000
set_option maxHeartbeats 4000000
/-! Own rules over the hand layer: a caught exception kept as a value, its class asked, its field read; the base's own initialiser reached through an own class; products and quotients by plain bounds. -/
namespace Tw
open PySem PySem.Spec PyProof.Rows L2

/-! ### an exception held as a value -/
def exv (a : Addr) (cls : Value) (d : Option Addr) : HO := .ext fun h => ∃ (oe : Obj) (vs : Array Value), h.get? a = some oe ∧ Zc cls d oe ∧ oe.data = .fields vs
theorem exv_ok {P : Program} {w : World} {H : Hp} {h : Heap} {a : Addr} {cls : Value} {d : Option Addr} {oe : Obj} {vs : Array Value} (he : h.get? a = some oe) (hz : Zc cls d oe) (hd : oe.data = .fields vs) : ObjOk P w H h a (exv a cls d) :=
  ⟨⟨oe, vs, he, hz, hd⟩, ⟨oe, he⟩, fun _ _ z k => by
    obtain ⟨o, v, e, q⟩ := z
    exact ⟨o, v, k _ e, q⟩⟩
theorem exv_at {P : Program} {w : World} {H : Hp} {h : Heap} {a : Addr} {cls : Value} {d : Option Addr} (hok : HOk P w H h) (he : H a = some (exv a cls d)) : ∃ (oe : Obj) (vs : Array Value), h.get? a = some oe ∧ Zc cls d oe ∧ oe.data = .fields vs := by
  have x : ObjOk P w H h a (.ext fun h => ∃ (oe : Obj) (vs : Array Value), h.get? a = some oe ∧ Zc cls d oe ∧ oe.data = .fields vs) := hok a _ he
  exact x.1
section
variable {X : Cx} {pins : List (Addr × Obj)} {σ : L2.St} {H : Hp} {s : Shared}
/-- an object of ours that was not tracked is tracked from here on -/
theorem track {a : Addr} {o : HO} (I : Inv X pins σ H s) (na : H a = none) (h0 : ∀ ob, X.s_0.heap.get? a = some ob → X.H_0 a = none → a ∉ X.ex → False) (hL : a ≠ X.env.locals)
    (hc : ∀ x c, X.env.cells.lookup x = some c → c ≠ a) (hp : ∀ p ∈ X.pn ++ pins, p.1 ≠ a) (new : ObjOk X.prog X.w (upd H a o) s.heap a o) : Inv X pins σ (upd H a o) s := by
  have ne : ∀ {b : Addr} {u : HO}, H b = some u → b ≠ a := fun {b u} e => ne_of_none e na
  refine ⟨I.ok, I.os, I.bare, ⟨I.base.keep, I.base.slot, fun b ob e n hx => ?_, I.base.there, fun b xs e => ?_, fun b ob u e => ?_, fun b ps e => ?_⟩, I.loc, I.cell, ?_, fun x c e => ?_, fun p q => ?_, fun b u e => ?_, I.len⟩
  · have nb : b ≠ a := fun z => h0 ob (z ▸ e) (z ▸ n) (z ▸ hx)
    rw [upd_ne nb]
    exact I.base.free b ob e n hx
  · have q := I.base.tups b xs e
    rw [upd_ne (ne q)]
    exact q
  · have q := I.base.frzs b ob u e
    rw [upd_ne (ne q)]
    exact q
  · obtain ⟨more, q⟩ := I.base.tbls b ps e
    exact ⟨more, by rw [upd_ne (ne q)]; exact q⟩
  · rw [upd_ne (Ne.symm hL)]
    exact I.free
  · rw [upd_ne (hc x c e)]
    exact I.freeC x c e
  · obtain ⟨e, n, l, f, d⟩ := I.pin p q
    exact ⟨e, by rw [upd_ne (hp p q)]; exact n, l, f, d⟩
  · by_cases hb : b = a
    · subst hb
      rw [upd_same] at e
      cases e
      exact new
    · rw [upd_ne hb] at e
      exact (I.hok b u e).stay (fun _ _ _ q => q) (fun c q => by rw [upd_ne (ne q)]; exact q) (fun c xs q => by rw [upd_ne (ne q)]; exact q)
/-- into an except suite and out of it: nothing more is pinned there than was before -/
theorem toSuite (I : Inv X pins σ H s) (a : Addr) : Inv (X.suite a (X.pn ++ pins)) [] σ H s :=
  { ok := I.ok.suite _ _, os := I.os, bare := I.bare, base := I.base, loc := I.loc, cell := I.cell, free := I.free, freeC := I.freeC, hok := I.hok, len := I.len
    pin := fun p hp => I.pin p ((List.append_nil (X.pn ++ pins)) ▸ hp) }
theorem ofSuite {a : Addr} {more : List (Addr × Obj)} (I : Inv (X.suite a (X.pn ++ pins)) more σ H s) (ok : X.Ok) : Inv X pins σ H s :=
  { ok := ok, os := I.os, bare := I.bare, base := I.base, loc := I.loc, cell := I.cell, free := I.free, freeC := I.freeC, hok := I.hok, len := I.len
    pin := fun p hp => I.pin p (List.mem_append_left more hp) }
/-- no frame is a record -/
theorem rec_noframe {h B : Heap} {l : List Env} {a : Addr} {o : Obj} {vs : Array Value} (ff : h.FunFrames B l) (e : h.get? a = some o) (dd : o.data = .fields vs) : a ∉ frs l := fun hm => by
  obtain ⟨_, o2, e2, nf⟩ := ff.mem hm
  have z := Option.some.inj (e.symm.trans e2)
  subst z
  exact nf vs dd
/-- an address that the ground does not know is younger than the def's entry, and is not pinned -/
theorem young {B : Heap} {a : Addr} (J : Inv X pins σ H s) (gr : ∀ b o, s.heap.get? b = some o → b ∉ frs X.stack → B.get? b = some o) (hB : B.get? a = none) (nS : a ∉ frs X.stack) (nF : a ∉ X.fs) :
    (∀ ob, X.s_0.heap.get? a = some ob → X.H_0 a = none → a ∉ X.ex → False) ∧ ∀ p ∈ X.pn ++ pins, p.1 ≠ a := by
  constructor
  · intro ob e n hx
    have z := gr a ob (J.base.keep a ob e n nF hx) nS
    rw [hB] at z
    cases z
  · intro p hp z
    obtain ⟨e, _, l, f, _⟩ := J.pin p hp
    have y := gr p.1 p.2 e (fun hm => (List.mem_cons.mp (J.stkSub p.1 hm)).elim l f)
    rw [z, hB] at y
    cases y
end
/-- what the clause wishes of an exception of the body: the clause takes it; it is held, and stays held behind the suite -/
def wKeep (K : PySem.W.Frag) (c : Value) (i : Nat) (ts : TS) (D : Ends) : WX := fun cls d σ H =>
  PySem.W.exmOne K cls c = some true ∧ ∀ a, H a = none → ts { nx := fun σ1 H1 => D.nx (σ1.set i none) H1, rt := D.rt, bk := fun σ1 H1 => D.bk (σ1.set i none) H1, ct := fun σ1 H1 => D.ct (σ1.set i none) H1 } (σ.set i (some (.ref a))) (upd H a (exv a cls d))
section
variable {X : Cx} {x n : Str} {c : Value} {i : Nat} {body suite : List Stmt} {b0 : Stmt} {np pos pos' : Pos} {tb : WX → TS} {ts : TS}
/-- the clause's name is looked up while the exception is handled -/
theorem clause_name {pins : List (Addr × Obj)} {σ : L2.St} {H : Hp} {s : Shared} {a : Addr} {Q : Value → Shared → Prop} {E : Value → Shared → Prop} (hc : Names X x c) (I : Inv X pins σ H s) (q : Q c s) :
    wpAny (model X.prog X.w) (X.A.mark (some (.ref a))) (eval (.Name x np) X.env) Q E s := by
  have J := toSuite I a
  obtain ⟨g, nd, m | ⟨m, v, nn⟩⟩ := hc
  · exact ld_glob (X := X.suite a (X.pn ++ pins)) J g m q nd
  · exact ld_blt (X := X.suite a (X.pn ++ pins)) J g m v q nn nd
/-- behind the suite: the name goes, and the way goes on as it would -/
theorem suite_done {pins : List (Addr × Obj)} {a : Addr} {D : Ends} {fl : Flow} {s : Shared} (ok : X.Ok) (hN : X.N.Nodup) (hi : X.N[i]? = some n) (hln : X.env.kindOf n = some .local)
    (h : SP (X.suite a (X.pn ++ pins)) [] { nx := fun σ1 H1 => D.nx (σ1.set i none) H1, rt := D.rt, bk := fun σ1 H1 => D.bk (σ1.set i none) H1, ct := fun σ1 H1 => D.ct (σ1.set i none) H1 } fl s) :
    wpAny (model X.prog X.w) X.A (do bindName X.env n .none; unbindBehindTheSuite X.env n pos') (fun _ s7 => SP X pins D fl s7) X.xe s := by
  cases fl with
  | next => obtain ⟨_, _, S, q⟩ := h; exact gone_ok (ofSuite S ok) hN hi hln fun _ J => ⟨_, _, J, q⟩
  | brk => obtain ⟨_, _, S, q⟩ := h; exact gone_ok (ofSuite S ok) hN hi hln fun _ J => ⟨_, _, J, q⟩
  | cont => obtain ⟨_, _, S, q⟩ := h; exact gone_ok (ofSuite S ok) hN hi hln fun _ J => ⟨_, _, J, q⟩
  | ret u => obtain ⟨_, _, _, S, r, q⟩ := h; exact gone_ok (ofSuite S ok) hN hi hln fun _ J => ⟨_, _, _, J, r, q⟩
/-- an exception in the air of the try's body, met by the clause -/
theorem met {pins : List (Addr × Obj)} {xe : Value → Shared → Prop} {D : Ends} {u : Value} {s1 : Shared} (ok : X.Ok) (hs : X.stack = X.env :: X.outer) (hf : X.env.frame = some X.env.locals) (hN : X.N.Nodup) (hi : X.N[i]? = some n) (hln : X.env.kindOf n = some .local) (hc : Names X x c)
    (hsu : ∀ (a : Addr) (pn : List (Addr × Obj)), PSs (X.suite a pn) (b0 :: suite) ts) (air : XE (X.tr (X.pn ++ pins) xe) (wKeep X.K c i ts D) u s1) :
    wpAny (model X.prog X.w) X.A (noteFrame u X.env) (fun _ s2 => wpAny (model X.prog X.w) X.A (setFlight u none) (fun _ s3 =>
      wpAny (model X.prog X.w) X.A (handleBy u X.env [.ExceptHandler (some (.Name x np)) (some n) (b0 :: suite) pos']) (SP X pins D) X.xe s3) X.xe s2) X.xe s1 := by
  obtain ⟨a, B, sI, _, σ1, H1, cls, d, rfl, J0, gr, up, sky, na, os, ag, xm, yes⟩ := air
  have J : Inv X pins σ1 H1 sI := J0.ofTry ok
  have top : X.A.frames = some (X.env :: X.outer) := ok.frames.trans (congrArg some hs)
  have sky1 : Sky B (X.env :: X.outer) a (Zc cls d) X.env.locals s1.heap := hs ▸ sky
  refine Sky.land Zc.steady top hf sky1 fun h3 fly3 up3 => ?_
  have J3 : Inv X pins σ1 H1 { s1 with heap := h3 } := J.landed gr fly3.1 (up.trans up3) os ag
  obtain ⟨oe3, vs3, at3, z3, d3⟩ := fly3.there
  have nfr : a ∉ frs (X.env :: X.outer) := rec_noframe fly3.2.2.1 at3 d3
  have nS : a ∉ frs X.stack := hs ▸ nfr
  have nL : a ≠ X.env.locals := fun z => nfr (List.mem_filterMap.mpr ⟨X.env, List.mem_cons_self, by rw [hf, z]⟩)
  have nF : a ∉ X.fs := fun hm => let ⟨e, he, q⟩ := List.mem_filterMap.mp hm; nfr (List.mem_filterMap.mpr ⟨e, List.mem_cons_of_mem _ he, q⟩)
  have TY : PySem.W.Looks (model X.prog X.w) h3 (typeOf (.ref a)) cls := fun _ _ _ _ k q => wpAny_typeOf_ref (k _ _ at3) (z3.1.symm ▸ q)
  refine wpAny_handleBy_cons (codeAny_handlers_test (clause_name hc J3 ((PySem.W.exm_one (M := model X.prog X.w) J3.kIn TY xm).here ?_))) (fun q => by cases q)
  refine codeAny_handlers_suite_as (HandSPX.lands_againZ fly3 fun h4 fly4 up4 => ?_)
  have J4 : Inv X pins σ1 H1 { s1 with heap := h4 } := J.landed gr fly4.1 ((up.trans up3).trans up4) os ag
  obtain ⟨oe, vs, at4, z4, d4⟩ := fly4.there
  obtain ⟨y1, y2⟩ := young J gr fly4.2.1 nS nF
  have ncell : ∀ y cc, X.env.cells.lookup y = some cc → cc ≠ a := fun y cc e z => by
    obtain ⟨_, oc, hoc, hdc⟩ := J4.cell y cc e
    subst z
    have w1 : oe = oc := Option.some.inj (at4.symm.trans hoc)
    rw [← w1, d4] at hdc
    cases hdc
  have J5 := toSuite (track (o := exv a cls d) J4 na y1 nL ncell y2 (exv_ok at4 z4 d4)) a
  refine store_ok (X := X.suite a (X.pn ++ pins)) (v := .ref a) J5 hN hi (.inl hln) rfl (fun s5 S5 => ?_) (.inr hln)
  exact wpAny_mono ((hsu a (X.pn ++ pins)).run [] s5 _ _ _ S5 (yes a na)) (fun fl s6 h6 => suite_done ok hN hi hln h6) (fun _ _ z => z.elim)
theorem ps_try_keep (hs : X.stack = X.env :: X.outer) (hf : X.env.frame = some X.env.locals) (hN : X.N.Nodup) (hi : X.N[i]? = some n) (hln : X.env.kindOf n = some .local) (hc : Names X x c)
    (hb : ∀ (W : WX) (pn : List (Addr × Obj)) (xe : Value → Shared → Prop), Takes (X.tr pn xe) W → PassesOwn (model X.prog X.w) X.A X.env xe → PSs (X.tr pn xe) body (tb W))
    (hsu : ∀ (a : Addr) (pn : List (Addr × Obj)), PSs (X.suite a pn) (b0 :: suite) ts) :
    PS X (.Try body [.ExceptHandler (some (.Name x np)) (some n) (b0 :: suite) pos'] [] [] pos) (fun D σ H => tb (wKeep X.K c i ts D) D σ H) := by
  refine ⟨fun pins s σ H D I h => wpAny_Try_except ?_⟩
  have ok := I.ok
  refine wpAny_mono ((hb _ (X.pn ++ pins) _ (fun u s1 air => met ok hs hf hN hi hln hc hsu air) PassesOwn.looking).run [] s σ H D (I.toTry _) h) (fun fl s1 r => ?_) (fun _ _ q => q)
  cases fl with
  | next => obtain ⟨_, _, J, q⟩ := r; exact wpAny_execs_nil ⟨_, _, J.ofTry ok, q⟩
  | brk => obtain ⟨_, _, J, q⟩ := r; exact ⟨_, _, J.ofTry ok, q⟩
  | cont => obtain ⟨_, _, J, q⟩ := r; exact ⟨_, _, J.ofTry ok, q⟩
  | ret u => obtain ⟨_, _, _, J, v, q⟩ := r; exact ⟨_, _, _, J.ofTry ok, v, q⟩
end

/-! ### isinstance of a held exception -/
/-- what is asked of an own exception class -/
structure XcC (K : PySem.W.Frag) (D : Addr) : Prop where
  hc : PySem.W.isClsIn K D = true
  hg : PySem.W.findIn K (.ref D) "__getattribute__" = some (some (.builtin "BaseException.__getattribute__"))
  hk : PySem.W.findIn K (.ref D) "__getattr__" = some none
  hs : PySem.W.subIn K (.ref D) (.type "BaseException") = some true
  hd : PySem.W.hasDictIn K D = true
  ha : PySem.W.findIn K (.ref D) "__class__" = some (some (.builtin "object.__class__"))
  hn : PySem.W.specialIn K (.builtin "object.__class__") "__get__" = some (some (.builtin "getset_descriptor.__get__"))
  ht : PySem.W.takesIn K (.builtin "object.__class__") = some true
  hm : PySem.W.mroIn K D (.type "object") = some true
section
variable {X : Cx} {pins : List (Addr × Obj)} {σ : L2.St} {H : Hp} {s : Shared}
/-- a held exception, its dict as the heap tells it -/
def HasD (H : Hp) (d : Option Addr) : Prop := ∀ dx, d = some dx → ∃ fs, H dx = some (.xd fs)
theorem inst_of {a D : Addr} {d : Option Addr} (I : Inv X pins σ H s) (e : H a = some (exv a (.ref D) d)) (hd : HasD H d) : ∃ oe od, PySem.W.InstAt s.heap a oe D od := by
  obtain ⟨oe, vs, he, hz, hv⟩ := exv_at I.hok e
  have nc : PySem.W.notCls oe = true := by unfold PySem.W.notCls; rw [hv] <;> rfl
  cases d with
  | none => exact ⟨oe, none, he, hz.1, nc, by rw [hz.2]; trivial⟩
  | some dx =>
    obtain ⟨fs, ed⟩ := hd dx rfl
    have hx : ObjOk X.prog X.w H s.heap dx (.xd fs) := I.hok dx _ ed
    obtain ⟨mA, hns, hr⟩ := hx
    obtain ⟨od, ho, hl⟩ := lookIn_ns hns
    exact ⟨oe, some od, he, hz.1, nc, by rw [hz.2]; exact ho⟩
end
/-- isinstance(e, c), e a held exception of the class at D -/
def rIsX (K : PySem.W.Frag) : List V → Hp → VK → Prop := fun xs H Q => ∃ (a D : Addr) (d : Option Addr) (c : V) (u : Value) (b : Bool), xs = [.ref a, c] ∧ ClsV c u ∧ H a = some (exv a (.ref D) d) ∧ HasD H d ∧ XcC K D ∧ PySem.W.kitOne K (.ref D) u = some b ∧ Q (.bl b) H
theorem call_isX {X : Cx} : CallR X (.builtin "isinstance") (rIsX X.K) := by
  intro pins s σ H xs us Q I r h
  obtain ⟨a, D, d, c, u, b, rfl, k, ea, hd, T, e, q⟩ := h
  obtain ⟨u1, u2, rfl, r1, r2⟩ := vals2 r
  cases (show u1 = Value.ref a from r1)
  have e2 := k.eq r2
  subst e2
  obtain ⟨oe, od, J⟩ := inst_of I ea hd
  exact PySem.W.kia_one (PySem.W.kitx_exc T.hc T.hg T.hk T.hs T.ha T.hn T.ht T.hm) I.kIn J e (fun z => nomatch z) fun tk => ⟨.bl b, H, I.tok tk, rfl, q⟩
/-- both: a held exception, or anything that the layer knows -/
def rIsA (K : PySem.W.Frag) : List V → Hp → VK → Prop := fun xs H Q => rIsX K xs H Q ∨ rIsi K xs H Q
theorem call_isA {X : Cx} : CallR X (.builtin "isinstance") (rIsA X.K) := by
  intro pins s σ H xs us Q I r h
  rcases h with h | h
  · exact call_isX pins s σ H xs us Q I r h
  · exact call_isi pins s σ H xs us Q I r h

/-! ### a field of a held exception -/
def tXv (K : PySem.W.Frag) (f : Str) (te : TE) : TE := fun σ H Q => te σ H fun x H1 => ∃ (a C dd : Addr) (fs : List (Str × V)) (v : V), x = .ref a ∧ H1 a = some (exv a (.ref C) (some dd)) ∧ XcC K C ∧ PySem.W.findIn K (.ref C) f = some none ∧ H1 dd = some (.xd fs) ∧ fs.lookup f = some v ∧ Q v H1
theorem pe_xv {X : Cx} {e : Expr} {te : TE} {pos : Pos} {n : Str} (he : PE X e te) (hb : attributeBase e n X.env (eval e X.env) = eval e X.env := by rfl) : PE X (.Attribute e n pos) (tXv X.K n te) := by
  refine ⟨fun pins s σ H Q I h => ?_⟩
  refine attr_of hb (thn (he.run pins s σ H _ I h) fun u s1 hh => ?_)
  obtain ⟨x, H1, I1, rx, a, C, dd, fs, v, ex, ea, T, hno, ed, l, q⟩ := hh
  subst ex
  obtain rfl : u = Value.ref a := rx
  obtain ⟨oe, vs, ha, hz, hd⟩ := exv_at I1.hok ea
  have hx : ObjOk X.prog X.w H1 s1.heap dd (.xd fs) := I1.hok dd _ ed
  obtain ⟨mA, hns, hr⟩ := hx
  obtain ⟨od, ho, hl⟩ := lookIn_ns hns
  obtain ⟨u, hu, ru⟩ := RelO.some_of (v := v) (o := mA n) (by rw [← l]; exact hr n)
  have J : PySem.W.InstAt s1.heap a oe C (some od) := ⟨ha, hz.1, by unfold PySem.W.notCls; rw [hd] <;> rfl, by rw [hz.2]; exact ho⟩
  exact HandSPX.exc_get I1.kIn J T.hg T.hk T.hs (PySem.W.findObj_own T.hd hno rfl (by rw [hl, hu])) (handed_of ru) ⟨v, H1, I1.tok _, ru, q⟩

/-! ### B.__init__(self, ..), B an own class over ValueError -/
theorem pe_ownInit {X : Cx} {B : Addr} {mc : Value} {x : Str} {e : Expr} {es : List Expr} {ta : TA} {p1 p2 pos : Pos} {pl : Sem Bool} (hg : Gl X x) (hm : X.mg x = some (.ref B)) (r : ClX.CRead X.K B mc)
    (k : PySem.W.findCls X.K (.ref B) mc "__init__" = some (.val (.builtin "ValueError.__init__"))) (ha : PA X (e :: es) ta)
    (hc : eval (.Call (.Attribute (.Name x p1) "__init__" p2) (e :: es) [] pos) X.env = (do
      let ov ← eval (.Name x p1) X.env
      standAt p2.atName
      let (f, first) ← holding [ov] (getMethod ov "__init__" pl)
      callWith pos f first (backTo pos (starEach (e :: es) X.env)) (backToKw pos (keywordEach [] X.env))) := by rfl)
    (he : starEach (e :: es) X.env = (false, eval e X.env) :: starEach es X.env := by rfl) (hpl : (backTo pos (starEach es X.env)).any (·.1) = false := by rfl) (hdb : (x == ("__debug__" : Str)) = false := by decide) :
    PE X (.Call (.Attribute (.Name x p1) "__init__" p2) (e :: es) [] pos) (tVeI X.K ta) := by
  refine ⟨fun pins s σ H Q I h => ?_⟩
  refine PySem.W.methodCall_KW (ld_glob I hg hm ?_ hdb) hc
  refine PySem.W.method_cls I.kIn r.ga (PySem.W.cls_value I.kIn r.rd k rfl ?_)
  show wpAny _ _ (callWith pos (Value.builtin "ValueError.__init__") [] (backTo pos (starEach (e :: es) X.env)) []) _ _ _
  refine PyProof.Rows.callWith_method1 (thn (ha.run pos pins _ σ H _ (I.tok _) h) fun us s1 ⟨vs, H1, I1, r1, a, C, ws, ev, hl, T, ea, q⟩ => ?_) he hpl
  subst ev
  cases r1 with
  | @cons _ u0 _ ur ra rw' =>
    obtain rfl : u0 = Value.ref a := ra
    have hlen : ur.length ≤ sizeLine := by
      rw [← Paired.length rw', sizeLine_eq]
      omega
    exact oinit_ok T I1 ea hlen fun s' J => ⟨.non, H1, J, rfl, q⟩

/-! ### products and quotients by plain bounds -/
def Big (i : Int) : Prop := -1000000000000000000000000000000000000000000 < i ∧ i < 1000000000000000000000000000000000000000000
theorem Big.abs {i : Int} (h : Big i) : i.natAbs < 2 ^ 140 := by
  obtain ⟨a, b⟩ := h
  have : (2 : Nat) ^ 140 = 1393796574908163946345982392040522594123776 := by decide
  rw [this]
  omega
def CMulB (i j : Int) : Prop := Big i ∧ Big j
def CDivB (_ j : Int) : Prop := 0 < j ∧ j < 1000000000000000000000000000000000000000000
theorem op_mulB {X : Cx} : OpR X (binaryOp .Mult) (rI CMulB fun i j => .int (i * j)) := by
  intro pins s σ H x y u v Q I r1 r2 h
  obtain ⟨i, j, e1, e2, hc, q⟩ := h
  exact op_mulW pins s σ H x y u v Q I r1 r2 ⟨i, j, e1, e2, wide_mul hc.1.abs hc.2.abs (by decide) (by decide) (by decide), q⟩
theorem op_fdivB {X : Cx} : OpR X (binaryOp .FloorDiv) (rI CDivB fun i j => .int (i / j)) := by
  intro pins s σ H x y u v Q I r1 r2 h
  obtain ⟨i, j, e1, e2, hc, q⟩ := h
  have hb : Big j := ⟨by have := hc.1; omega, hc.2⟩
  exact op_fdivW pins s σ H x y u v Q I r1 r2 ⟨i, j, e1, e2, wide_div hc.1 hb.abs (by decide) (by decide), q⟩
end Tw

/-! Short words: a def of the top, its promise, its call; readings. -/
namespace Tw
open PySem PySem.Spec PyProof.Rows L2

/-- a def of the text as the top has left it -/
def Top (K : PySem.W.Frag) (mg : Str → Option Value) (x : Str) (st : Stmt) (ps : List Str) : Prop :=
  ∃ (f : Addr) (fd : FuncData), Fun K x x st f fd ∧ mg x = some (.ref f) ∧ Binds K fd ps []
/-- a def that keeps its promise, ready to be called -/
def Lk (K : PySem.W.Frag) (f : Addr) (fd : FuncData) : Prop := ∃ (oc : Value) (od : Option Addr) (osl : Array (Option Value)), K.lookup f = some ⟨oc, od, .func fd, osl⟩
theorem Lk.eq {K : PySem.W.Frag} {f : Addr} {fd fe : FuncData} (a : Lk K f fd) (b : Lk K f fe) : fd = fe := by
  obtain ⟨oc, od, osl, e⟩ := a
  obtain ⟨oc', od', osl', e'⟩ := b
  rw [e] at e'
  cases e'
  rfl
theorem lk_of {K : PySem.W.Frag} {x q : Str} {st : Stmt} {f : Addr} {fd : FuncData} (F : Fun K x q st f fd) : Lk K f fd := by
  obtain ⟨oc, od, kV, doc, pm, an, cdv, ct, osl, _, lk, _⟩ := F.ex
  exact ⟨oc, od, osl, lk⟩
def Has (P : Program) (w : World) (K : PySem.W.Frag) (mg : Str → Option Value) (base : Heap) (CX : CXT) (k : Nat) (x : Str) (ps : List Str) (sp : Sp) : Prop :=
  ∃ (f : Addr) (fd : FuncData), FnOk P w K mg base CX k f fd ps sp ∧ mg x = some (.ref f) ∧ PySem.W.keepIn K (.ref f) = true ∧ Binds K fd ps [] ∧ Lk K f fd
theorem Has.mono {P : Program} {w : World} {K : PySem.W.Frag} {mg : Str → Option Value} {base : Heap} {CX : CXT} {j k : Nat} {x : Str} {ps : List Str} {sp : Sp} (h : Has P w K mg base CX j x ps sp) (l : j ≤ k) : Has P w K mg base CX k x ps sp := by
  obtain ⟨f, fd, F, g, kp, b, lk⟩ := h
  exact ⟨f, fd, F.mono l, g, kp, b, lk⟩
/-! promises by the number of arguments -/
def sp1 (p : V → Hp → VK → XK → Prop) : Sp := fun vs H Q E => ∃ a, vs = [a] ∧ p a H Q E
def sp2 (p : V → V → Hp → VK → XK → Prop) : Sp := fun vs H Q E => ∃ a b, vs = [a, b] ∧ p a b H Q E
def sp3 (p : V → V → V → Hp → VK → XK → Prop) : Sp := fun vs H Q E => ∃ a b c, vs = [a, b, c] ∧ p a b c H Q E
def sp4 (p : V → V → V → V → Hp → VK → XK → Prop) : Sp := fun vs H Q E => ∃ a b c d, vs = [a, b, c, d] ∧ p a b c d H Q E
section
variable {P : Program} {w : World} {K : PySem.W.Frag} {mg : Str → Option Value} {base : Heap} {x : Str} {st : Stmt} {N : List Str} {k : Nat}
theorem Top.ok {ps : List Str} {sp : Sp} (D : Top K mg x st ps) (S : FnScope N ps (defScope st)) (len : ∀ vs H Q E, sp vs H Q E → vs.length = ps.length)
    (hbody : ∀ (f : Addr) (cdv : Value) (A : Around) (outer : List Env) (s : Shared) (H : Hp) (vs : List V) (Q : VK) (E : XK), Room k (A.deeper (envOfC x (defScope st) s.heap.objs.size f cdv)) → sp vs H Q E →
      ∃ t, PSs (cxOf CX0 P w K mg base N x (defScope st) f cdv A outer s H E).nox (defBody st) t ∧ t { nx := fun _ H' => Q .non H', rt := Q } (start N vs) H) : Has P w K mg base CX0 (k + 1) x ps sp := by
  obtain ⟨f, fd, F, g, b⟩ := D
  exact ⟨f, fd, F.ok S len (fun cdv A outer s H vs Q E hr h => hbody f cdv A outer s H vs Q E hr h), g, F.kp, b, lk_of F⟩
theorem Top.okX {ps : List Str} {sp : Sp} (D : Top K mg x st ps) (S : FnScope N ps (defScope st)) (len : ∀ vs H Q E, sp vs H Q E → vs.length = ps.length)
    (hbody : ∀ (f : Addr) (cdv : Value) (A : Around) (outer : List Env) (s : Shared) (H : Hp) (vs : List V) (Q : VK) (E : XK), Room k (A.deeper (envOfC x (defScope st) s.heap.objs.size f cdv)) → sp vs H Q E →
      ∃ t, PSs (cxOf (L2.CX P w) P w K mg base N x (defScope st) f cdv A outer s H E) (defBody st) t ∧ t { nx := fun _ H' => Q .non H', rt := Q } (start N vs) H) : Has P w K mg base (L2.CX P w) (k + 1) x ps sp := by
  obtain ⟨f, fd, F, g, b⟩ := D
  exact ⟨f, fd, F.okX S len (fun cdv A outer s H vs Q E hr h => hbody f cdv A outer s H vs Q E hr h), g, F.kp, b, lk_of F⟩
theorem Top.ok1 {a : Str} {p : V → Hp → VK → XK → Prop} (D : Top K mg x st [a]) (S : FnScope N [a] (defScope st))
    (hbody : ∀ (f : Addr) (cdv : Value) (A : Around) (outer : List Env) (s : Shared) (H : Hp) (v1 : V) (Q : VK) (E : XK), Room k (A.deeper (envOfC x (defScope st) s.heap.objs.size f cdv)) → p v1 H Q E →
      ∃ t, PSs (cxOf CX0 P w K mg base N x (defScope st) f cdv A outer s H E).nox (defBody st) t ∧ t { nx := fun _ H' => Q .non H', rt := Q } (start N [v1]) H) : Has P w K mg base CX0 (k + 1) x [a] (sp1 p) :=
  D.ok S (fun vs H Q E h => by obtain ⟨_, rfl, _⟩ := h; rfl) (fun f cdv A outer s H vs Q E hr h => by obtain ⟨v1, rfl, h⟩ := h; exact hbody f cdv A outer s H v1 Q E hr h)
theorem Top.ok2 {a b : Str} {p : V → V → Hp → VK → XK → Prop} (D : Top K mg x st [a, b]) (S : FnScope N [a, b] (defScope st))
    (hbody : ∀ (f : Addr) (cdv : Value) (A : Around) (outer : List Env) (s : Shared) (H : Hp) (v1 v2 : V) (Q : VK) (E : XK), Room k (A.deeper (envOfC x (defScope st) s.heap.objs.size f cdv)) → p v1 v2 H Q E →
      ∃ t, PSs (cxOf CX0 P w K mg base N x (defScope st) f cdv A outer s H E).nox (defBody st) t ∧ t { nx := fun _ H' => Q .non H', rt := Q } (start N [v1, v2]) H) : Has P w K mg base CX0 (k + 1) x [a, b] (sp2 p) :=
  D.ok S (fun vs H Q E h => by obtain ⟨_, _, rfl, _⟩ := h; rfl) (fun f cdv A outer s H vs Q E hr h => by obtain ⟨v1, v2, rfl, h⟩ := h; exact hbody f cdv A outer s H v1 v2 Q E hr h)
theorem Top.ok3 {a b c : Str} {p : V → V → V → Hp → VK → XK → Prop} (D : Top K mg x st [a, b, c]) (S : FnScope N [a, b, c] (defScope st))
    (hbody : ∀ (f : Addr) (cdv : Value) (A : Around) (outer : List Env) (s : Shared) (H : Hp) (v1 v2 v3 : V) (Q : VK) (E : XK), Room k (A.deeper (envOfC x (defScope st) s.heap.objs.size f cdv)) → p v1 v2 v3 H Q E →
      ∃ t, PSs (cxOf CX0 P w K mg base N x (defScope st) f cdv A outer s H E).nox (defBody st) t ∧ t { nx := fun _ H' => Q .non H', rt := Q } (start N [v1, v2, v3]) H) : Has P w K mg base CX0 (k + 1) x [a, b, c] (sp3 p) :=
  D.ok S (fun vs H Q E h => by obtain ⟨_, _, _, rfl, _⟩ := h; rfl) (fun f cdv A outer s H vs Q E hr h => by obtain ⟨v1, v2, v3, rfl, h⟩ := h; exact hbody f cdv A outer s H v1 v2 v3 Q E hr h)
theorem Top.ok1X {a : Str} {p : V → Hp → VK → XK → Prop} (D : Top K mg x st [a]) (S : FnScope N [a] (defScope st))
    (hbody : ∀ (f : Addr) (cdv : Value) (A : Around) (outer : List Env) (s : Shared) (H : Hp) (v1 : V) (Q : VK) (E : XK), Room k (A.deeper (envOfC x (defScope st) s.heap.objs.size f cdv)) → p v1 H Q E →
      ∃ t, PSs (cxOf (L2.CX P w) P w K mg base N x (defScope st) f cdv A outer s H E) (defBody st) t ∧ t { nx := fun _ H' => Q .non H', rt := Q } (start N [v1]) H) : Has P w K mg base (L2.CX P w) (k + 1) x [a] (sp1 p) :=
  D.okX S (fun vs H Q E h => by obtain ⟨_, rfl, _⟩ := h; rfl) (fun f cdv A outer s H vs Q E hr h => by obtain ⟨v1, rfl, h⟩ := h; exact hbody f cdv A outer s H v1 Q E hr h)
theorem Top.ok2X {a b : Str} {p : V → V → Hp → VK → XK → Prop} (D : Top K mg x st [a, b]) (S : FnScope N [a, b] (defScope st))
    (hbody : ∀ (f : Addr) (cdv : Value) (A : Around) (outer : List Env) (s : Shared) (H : Hp) (v1 v2 : V) (Q : VK) (E : XK), Room k (A.deeper (envOfC x (defScope st) s.heap.objs.size f cdv)) → p v1 v2 H Q E →
      ∃ t, PSs (cxOf (L2.CX P w) P w K mg base N x (defScope st) f cdv A outer s H E) (defBody st) t ∧ t { nx := fun _ H' => Q .non H', rt := Q } (start N [v1, v2]) H) : Has P w K mg base (L2.CX P w) (k + 1) x [a, b] (sp2 p) :=
  D.okX S (fun vs H Q E h => by obtain ⟨_, _, rfl, _⟩ := h; rfl) (fun f cdv A outer s H vs Q E hr h => by obtain ⟨v1, v2, rfl, h⟩ := h; exact hbody f cdv A outer s H v1 v2 Q E hr h)
theorem Top.ok3X {a b c : Str} {p : V → V → V → Hp → VK → XK → Prop} (D : Top K mg x st [a, b, c]) (S : FnScope N [a, b, c] (defScope st))
    (hbody : ∀ (f : Addr) (cdv : Value) (A : Around) (outer : List Env) (s : Shared) (H : Hp) (v1 v2 v3 : V) (Q : VK) (E : XK), Room k (A.deeper (envOfC x (defScope st) s.heap.objs.size f cdv)) → p v1 v2 v3 H Q E →
      ∃ t, PSs (cxOf (L2.CX P w) P w K mg base N x (defScope st) f cdv A outer s H E) (defBody st) t ∧ t { nx := fun _ H' => Q .non H', rt := Q } (start N [v1, v2, v3]) H) : Has P w K mg base (L2.CX P w) (k + 1) x [a, b, c] (sp3 p) :=
  D.okX S (fun vs H Q E h => by obtain ⟨_, _, _, rfl, _⟩ := h; rfl) (fun f cdv A outer s H vs Q E hr h => by obtain ⟨v1, v2, v3, rfl, h⟩ := h; exact hbody f cdv A outer s H v1 v2 v3 Q E hr h)
end
section
variable {X : Cx} {CX : CXT} {k : Nat} {ps : List Str} {sp : Sp} {E : XK} {x : Str} {p pos : Pos} {e : Expr} {es : List Expr} {t : TA}
/-- f(e, ..): what may be raised is taken by E -/
theorem pe_own (h : Has X.prog X.w X.K X.mg X.base CX k x ps sp) (hr : Room k X.A) (hx : Passes CX X E) (ha : PA X (e :: es) t) (hg : Gl X x := by rfl)
    (hdb : (x == ("__debug__" : Str)) = false := by decide) (he : starEach (e :: es) X.env = (false, eval e X.env) :: starEach es X.env := by rfl) (hpl : (backTo pos (starEach es X.env)).any (·.1) = false := by rfl) :
    PE X (.Call (.Name x p) (e :: es) [] pos) (tCall sp [] E t) := by
  obtain ⟨f, fd, F, g, kp, b, _⟩ := h
  exact pe_call F hr hg g kp b .nil hx ha hdb he hpl
theorem pe_ownS {E : L2.St → XK} (h : Has X.prog X.w X.K X.mg X.base CX k x ps sp) (hr : Room k X.A) (hx : ∀ σ, PassesAt CX X σ (E σ)) (ha : PA X (e :: es) t) (hg : Gl X x := by rfl)
    (hdb : (x == ("__debug__" : Str)) = false := by decide) (he : starEach (e :: es) X.env = (false, eval e X.env) :: starEach es X.env := by rfl) (hpl : (backTo pos (starEach es X.env)).any (·.1) = false := by rfl) :
    PE X (.Call (.Name x p) (e :: es) [] pos) (tCallS sp E t) := by
  obtain ⟨f, fd, F, g, kp, b, _⟩ := h
  exact pe_callS F hr hg g kp b hx ha hdb he hpl
end
/-! ### tests -/
theorem ifD {p A B : Prop} [Decidable p] (h1 : p → A) (h2 : ¬ p → B) : if decide p = true then A else B := by
  by_cases h : p
  · rw [if_pos (decide_eq_true h)]; exact h1 h
  · rw [if_neg (by simp [h])]; exact h2 h
theorem ifN {p A B : Prop} [Decidable p] (h1 : ¬ p → A) (h2 : p → B) : if (!decide p) = true then A else B := by
  by_cases h : p
  · rw [if_neg (by simp [h])]; exact h2 h
  · rw [if_pos (by simp [h])]; exact h1 h
theorem ifI {i j : Int} {A B : Prop} (h1 : i = j → A) (h2 : i ≠ j → B) : if decide (V.int i = V.int j) = true then A else B := ifD (fun e => h1 (V.int.inj e)) (fun e => h2 fun z => e (by rw [z]))
theorem ifNI {i j : Int} {A B : Prop} (h1 : i ≠ j → A) (h2 : i = j → B) : if (!decide (V.int i = V.int j)) = true then A else B := ifN (fun e => h1 fun z => e (by rw [z])) (fun e => h2 (V.int.inj e))
theorem ifB {c : Bool} {A B : Prop} (h1 : c = true → A) (h2 : c = false → B) : if c = true then A else B := by
  cases c with
  | true => exact iteT (h1 rfl)
  | false => exact iteF (h2 rfl)
theorem ifT {c : Bool} {A B : Prop} (e : c = true) (h : A) : if c = true then A else B := by rw [if_pos e]; exact h
theorem ifF {c : Bool} {A B : Prop} (e : c = false) (h : B) : if c = true then A else B := by rw [e]; exact iteF h
/-! ### heaps -/
/-- the list at d begins with the object at c -/
def At (H : Hp) (d c : Addr) : Prop := ∃ r : List V, H d = some (.lst (.ref c :: r))
/-- all but what stands at d is as it was; a list at d keeps its first item -/
structure But (d : Addr) (H H' : Hp) : Prop where
  keep : ∀ b o, b ≠ d → H b = some o → H' b = some o
  hd : ∀ c, At H d c → At H' d c
instance {d : Addr} {H H' : Hp} : CoeFun (But d H H') (fun _ => ∀ b o, b ≠ d → H b = some o → H' b = some o) := ⟨But.keep⟩
theorem But.refl (d : Addr) (H : Hp) : But d H H := ⟨fun _ _ _ h => h, fun _ h => h⟩
theorem But.trans {d : Addr} {H H1 H2 : Hp} (a : But d H H1) (b : But d H1 H2) : But d H H2 := ⟨fun c o n h => b c o n (a c o n h), fun c h => b.hd c (a.hd c h)⟩
theorem _root_.L2.Same.but {d : Addr} {H H1 : Hp} (a : Same H H1) : But d H H1 := ⟨fun c o _ h => a c o h, fun c h => by
  obtain ⟨r, e⟩ := h
  exact ⟨r, a _ _ e⟩⟩
theorem same_new {H : Hp} {p : Addr} {o : HO} (h : H p = none) : Same H (upd H p o) := fun b x e => by
  rw [upd_ne (ne_of_none e h)]
  exact e
theorem same_mut {H H' : Hp} {p : Addr} {o : HO} (e : Same H H') (h : H p = none) : Same H (upd H' p o) := fun a u ha => by
  rw [upd_ne (ne_of_none ha h)]
  exact e a u ha
theorem but_mut {H H' : Hp} {d : Addr} {o : HO} (e : But d H H') (ho : ∀ c, At H' d c → ∃ r : List V, o = .lst (.ref c :: r)) : But d H (upd H' d o) := ⟨fun a u n ha => by
  rw [upd_ne n]
  exact e a u n ha, fun c h => by
  obtain ⟨r, z⟩ := ho c (e.hd c h)
  exact ⟨r, by rw [upd_same, z]⟩⟩
theorem but_mut2 {H H' : Hp} {d p : Addr} {o : HO} (e : But d H H') (h : H p = none) : But d H (upd H' p o) := ⟨fun a u n ha => by
  rw [upd_ne (ne_of_none ha h)]
  exact e a u n ha, fun c k => by
  obtain ⟨r, z⟩ := e.hd c k
  obtain ⟨_, y⟩ := k
  exact ⟨r, by rw [upd_ne (ne_of_none y h)]; exact z⟩⟩
theorem But.free {d : Addr} {H H' : Hp} (e : But d H H') {l : Addr} (n : l ≠ d) (h : H' l = none) : H l = none := by
  cases q : H l with
  | none => rfl
  | some o =>
    rw [e l o n q] at h
    cases h
theorem _root_.L2.Same.tup {K : PySem.W.Frag} {H H' : Hp} {a : Addr} {xs : List V} (e : Same H H') (h : SqT K H a xs) : SqT K H' a xs := by
  rcases h with (h | ⟨o, h⟩) | h
  · exact .inl (.inl (e _ _ h))
  · exact .inl (.inr ⟨o, e _ _ h⟩)
  · exact .inr h
theorem sz {n : Nat} (h : n ≤ 100000) : n ≤ sizeLine := Nat.le_trans h (by decide)
theorem szl {n : Nat} (h : n < 100000) : n < sizeLine := Nat.lt_of_lt_of_le h (by decide)
theorem szM {n : Nat} (h : n ≤ 1000000) : n < sizeLine := Nat.lt_of_le_of_lt h (by decide)
/-! ### arithmetic -/
theorem mul_bd {a b A B : Int} (ha : 0 ≤ a) (ha' : a ≤ A) (hb : 0 ≤ b) (hb' : b ≤ B) : 0 ≤ a * b ∧ a * b ≤ A * B :=
  ⟨Int.mul_nonneg ha hb, Int.mul_le_mul ha' hb' hb (Int.le_trans ha ha')⟩
theorem mod_bd (a : Int) {b : Int} (h : 0 < b) : 0 ≤ a % b ∧ a % b < b := ⟨Int.emod_nonneg a (by omega), Int.emod_lt_of_pos a h⟩
/-! ### xs.count(y), flat items -/
def rCntA (K : PySem.W.Frag) : V → List V → Hp → VK → Prop := fun x xs H Q => ∃ (p : Addr) (ys : List V) (y : V), x = .ref p ∧ xs = [y] ∧ SqL K H p ys ∧ flatV y = true ∧ ys.all flatV = true ∧ Q (.int (ys.countP (fun z => eqV z y) : Nat)) H
theorem countP_eqU {x : V} : ∀ {xs : List V} {us : List Value}, Vals xs us → xs.all flatV = true → us.countP (eqU x) = xs.countP fun y => eqV y x
  | _, _, .nil, _ => rfl
  | y :: xs, u :: us, .cons r t, f => by
    rw [List.all_cons, Bool.and_eq_true] at f
    rw [List.countP_cons, List.countP_cons, eqU_of r f.1, countP_eqU t f.2]
theorem mt_countA {X : Cx} : MtR X "list.count" (rCntA X.K) := by
  intro pins s σ H x xs v us Q I rx rxs h
  obtain ⟨p, ys, y, rfl, rfl, hs, fy, fs, q⟩ := h
  cases rx
  obtain ⟨u, rfl, ru⟩ := rxs.one
  obtain ⟨its, rv, ⟨⟨cls, dd, data, sl⟩, n, ho, hc, hdn, hd⟩, hlen⟩ := I.list hs
  simp only at hc hd
  subst hc hd
  refine call_meets PySem.F.slot_list_count ⟨_, ho, rfl⟩ PySem.F.entry_list_count (PySem.F.args_list_count_2 _ _)
    (SeqAt.list_countAt p its.toArray n dd sl u (eqU y)) ⟨ho, fun z hz => mem_eqAt ru fy rv fs z (by simpa using hz), ?_⟩
  have ec : its.toArray.toList.countP (eqU y) = ys.countP fun z => eqV z y := countP_eqU rv fs
  refine ⟨.int (ys.countP (fun z => eqV z y) : Nat), H, I.tok _, ⟨s.toks, ?_⟩, q⟩
  show Value.int ((its.toArray.toList.countP (eqU y) : Nat) : Int) s.toks = _
  rw [ec]
/-- while True -/
theorem pt_true {X : Cx} {j pos} : PT X (.Constant (.bool true) j pos) (fun _ H Q => Q true H) := by
  have h : PT X (.Constant (.bool true) j pos) (tB (tC (.bl true))) := pt_val pe_bl
  exact ⟨fun pins s σ H Q I q => h.run pins s σ H Q I ⟨true, rfl, q⟩⟩
/-- an item of a list of ints -/
theorem at_ints {ns : List Int} {v : Int} (h0 : 0 ≤ v) (h1 : v < ns.length) : ∃ x, x ∈ ns ∧ atI (ns.map V.int) v = some (.int x) := by
  obtain ⟨j, rfl⟩ := Int.eq_ofNat_of_zero_le h0
  have jl : j < ns.length := by omega
  refine ⟨ns[j], List.getElem_mem jl, atI_nat ?_⟩
  rw [List.getElem?_map, List.getElem?_eq_getElem jl]
  rfl
end Tw

/-! The draws: what each of the common defs promises. -/
namespace Tw
open PySem PySem.Spec PyProof.Rows L2

def pMix : V → V → Hp → VK → XK → Prop := fun a b H Q _ => ∃ c k : Int, a = .int c ∧ b = .int k ∧ 0 ≤ k ∧ k < 1000000000 ∧ ∀ v : Int, 0 ≤ v → Q (.int v) H
/-- a deck: its cells, where it stands, what is left of a great cell, how many were mixed, the sum -/
def Deck (H : Hp) (d : Addr) (n : Nat) : Prop := ∃ (c : Addr) (xs : List Int) (i r k t : Int), H d = some (.lst [.ref c, .int i, .int r, .int k, .int t]) ∧ H c = some (.lst (xs.map V.int)) ∧ c ≠ d ∧ xs.length ≤ 63 ∧ 0 ≤ i ∧ i ≤ (xs.length : Int) ∧ 0 ≤ r ∧ 0 ≤ k ∧ k ≤ (n : Int)
theorem Deck.mono {H : Hp} {d : Addr} {n m : Nat} (h : Deck H d n) (l : n ≤ m) : Deck H d m := by
  obtain ⟨c, xs, i, r, k, t, a1, a2, a3, a4, a5, a6, a7, a8, a9⟩ := h
  exact ⟨c, xs, i, r, k, t, a1, a2, a3, a4, a5, a6, a7, a8, by omega⟩
theorem Deck.same {H H' : Hp} {d : Addr} {n : Nat} (h : Deck H d n) (s : Same H H') : Deck H' d n := by
  obtain ⟨c, xs, i, r, k, t, a1, a2, a3⟩ := h
  exact ⟨c, xs, i, r, k, t, s _ _ a1, s _ _ a2, a3⟩
theorem Deck.ne {H : Hp} {d p : Addr} {n : Nat} (h : Deck H d n) (e : H p = none) : p ≠ d := by
  obtain ⟨c, xs, i, r, k, t, a1, _⟩ := h
  intro z
  rw [z, a1] at e
  cases e
theorem Deck.ne_tup {H : Hp} {d p : Addr} {n : Nat} {xs : List V} (h : Deck H d n) (e : H p = some (.tup xs)) : p ≠ d := by
  obtain ⟨c, xs, i, r, k, t, a1, _⟩ := h
  intro z
  rw [z, a1] at e
  cases e
theorem Deck.fresh {H H' : Hp} {d p : Addr} {n m : Nat} (h : Deck H d n) (h' : Deck H' d m) (b : But d H H') (e : H' p = none) : H p = none := b.free (h'.ne e) e
/-- a list that is none of the deck's -/
def Out (H : Hp) (d L : Addr) : Prop := L ≠ d ∧ ∀ c, At H d c → c ≠ L
theorem Deck.out {H : Hp} {d L : Addr} {n : Nat} {o : HO} (D : Deck H d n) (e : H L = none) : Out (upd H L o) d L := by
  obtain ⟨c, xs, i, r, k, t, a1, a2, a3⟩ := D
  have n1 : L ≠ d := fun z => by rw [z, a1] at e; cases e
  have n2 : c ≠ L := fun z => by rw [← z, a2] at e; cases e
  refine ⟨n1, fun c' h => ?_⟩
  obtain ⟨r', y⟩ := h
  rw [upd_ne (Ne.symm n1), a1] at y
  cases y
  exact n2
theorem Out.but {H H' : Hp} {d L : Addr} {n m : Nat} (h : Out H d L) (D : Deck H d n) (D' : Deck H' d m) (b : But d H H') : Out H' d L := by
  obtain ⟨c, xs, i, r, k, t, a1, a2, a3⟩ := D
  obtain ⟨r1, e1⟩ := b.hd c ⟨_, a1⟩
  refine ⟨h.1, fun c' hc => ?_⟩
  obtain ⟨r2, e2⟩ := hc
  rw [e1] at e2
  cases e2
  exact h.2 _ ⟨_, a1⟩
theorem Out.mut {H : Hp} {d L : Addr} {o : HO} (h : Out H d L) : Out (upd H L o) d L := ⟨h.1, fun c hc => h.2 c (by
  obtain ⟨r, e⟩ := hc
  rw [upd_ne (Ne.symm h.1)] at e
  exact ⟨r, e⟩)⟩
theorem Deck.mut {H : Hp} {d L : Addr} {n : Nat} {o : HO} (D : Deck H d n) (h : Out H d L) : Deck (upd H L o) d n := by
  obtain ⟨c, xs, i, r, k, t, a1, a2, a3⟩ := D
  exact ⟨c, xs, i, r, k, t, by rw [upd_ne (Ne.symm h.1)]; exact a1, by rw [upd_ne (h.2 c ⟨_, a1⟩)]; exact a2, a3⟩
def pDeck (K : PySem.W.Frag) : V → Hp → VK → XK → Prop := fun a H Q _ => ∃ (s : Addr) (xs : List Int), a = .ref s ∧ SqL K H s (xs.map V.int) ∧ ∀ H' d, Same H H' → H d = none → Deck H' d 0 → Q (.ref d) H'
/-- a draw below m -/
def pNext (c : Nat) : V → V → Hp → VK → XK → Prop := fun a b H Q _ => ∃ (d : Addr) (n : Nat) (m : Int), a = .ref d ∧ b = .int m ∧ 0 < m ∧ m < 1000000000000000000000000000000000000000000 ∧ Deck H d n ∧ n + c ≤ 100000000 ∧
  ∀ (H' : Hp) (v : Int), But d H H' → Deck H' d (n + c) → 0 ≤ v → v < m → Q (.int v) H'
/-- a bound -/
def pBound : V → V → Hp → VK → XK → Prop := fun a b H Q _ => ∃ (d : Addr) (n : Nat) (m : Int), a = .ref d ∧ b = .int m ∧ 100 ≤ m ∧ m ≤ 1000000000000 ∧ Deck H d n ∧ n < 90000000 ∧
  ∀ (H' : Hp) (v : Int), But d H H' → Deck H' d (n + 50) → 1 ≤ v → v ≤ m → Q (.int v) H'
/-- a rule (times, plus, bound), read at r -/
structure Rule (t p b : Int) : Prop where
  b1 : 1 ≤ b
  b2 : b ≤ 1000000000000
  t0 : 0 ≤ t
  t1 : t < b
  p0 : 0 ≤ p
  p1 : p < b
def pRule : V → V → Hp → VK → XK → Prop := fun a b H Q _ => ∃ (d : Addr) (n : Nat) (m : Int), a = .ref d ∧ b = .int m ∧ 100 ≤ m ∧ m ≤ 1000000000000 ∧ Deck H d n ∧ n < 80000000 ∧
  ∀ (H' : Hp) (r : Addr) (t p b : Int), But d H H' → Deck H' d (n + 60) → H r = none → H' r = some (.tup [.int t, .int p, .int b]) → Rule t p b → b ≤ m → Q (.ref r) H'
theorem cut_take (xs : List V) (n : Nat) : cutV xs none (some (n : Int)) = xs.take n := by
  unfold cutV
  rw [HT.sIx_none, HT.sIx_nat]
  show List.take (min n xs.length - 0) (List.drop 0 xs) = _
  rw [List.drop_zero, Nat.sub_zero]
  by_cases h : n ≤ xs.length
  · rw [Nat.min_eq_left h]
  · rw [Nat.min_eq_right (by omega), List.take_of_length_le (Nat.le_refl _), List.take_of_length_le (by omega)]
/-- the classes of the refusals as the top has left them -/
structure Err (K : PySem.W.Frag) (mg : Str → Option Value) (CR CA CB CF CN CU : Addr) : Prop where
  gR : mg "RowError" = some (.ref CR)
  gA : mg "NoAsk" = some (.ref CA)
  gB : mg "NoBack" = some (.ref CB)
  gF : mg "NoFit" = some (.ref CF)
  gN : mg "NoNumber" = some (.ref CN)
  gU : mg "NoRule" = some (.ref CU)
/-- an error's class against all: which of the five it is -/
structure Kit (K : PySem.W.Frag) (C CR CA CB CF CN CU : Addr) (a b f n u : Bool) : Prop where
  xc : XcC K C
  r : PySem.W.kitOne K (.ref C) (.ref CR) = some true
  v : PySem.W.kitOne K (.ref C) (.type "ValueError") = some true
  a : PySem.W.kitOne K (.ref C) (.ref CA) = some a
  b : PySem.W.kitOne K (.ref C) (.ref CB) = some b
  f : PySem.W.kitOne K (.ref C) (.ref CF) = some f
  n : PySem.W.kitOne K (.ref C) (.ref CN) = some n
  u : PySem.W.kitOne K (.ref C) (.ref CU) = some u
/-- a number that is none: kept by the error -/
def pKindN (CN : Addr) : V → Hp → VK → XK → Prop := fun a H Q _ => ∃ (e dd : Addr) (v : V), a = .ref e ∧ H e = some (exv e (.ref CN) (some dd)) ∧ H dd = some (.xd [("number", v)]) ∧
  ∀ H' p, Same H H' → H p = none → H' p = some (.tup [.str "number", v]) → Q (.ref p) H'
/-- a number that is none of a bound's -/
def pWrong : V → V → Hp → VK → XK → Prop := fun a b H Q _ => ∃ (d : Addr) (n : Nat) (m : Int), a = .ref d ∧ b = .int m ∧ 0 < m ∧ m ≤ 1000000000000 ∧ Deck H d n ∧ n + 4 ≤ 100000000 ∧
  ∀ (H' : Hp) (v : Int), But d H H' → Deck H' d (n + 4) → (v < 0 ∨ m ≤ v) → Q (.int v) H'
end Tw

/-! The program's steps and rounds: the mathematics of a walk, and the promises. -/
namespace Tw
open PySem PySem.Spec PyProof.Rows L2

/-! ### walks -/
def stp (t p m x : Int) : Int := (t * x + p) % m
theorem stp_rng {t p m : Int} (h : 0 < m) (x : Int) : 0 ≤ stp t p m x ∧ stp t p m x < m := mod_bd _ h
def wk (f : Int → Int) : Nat → List Int → Int → List Int × Int
  | 0, ws, x => (ws, x)
  | k + 1, ws, x => if x ∈ ws then (ws, x) else wk f k (ws ++ [x]) (f x)
theorem wk_in {f : Int → Int} {ws : List Int} {x : Int} (h : x ∈ ws) : ∀ k, wk f k ws x = (ws, x)
  | 0 => rfl
  | k + 1 => by unfold wk; rw [if_pos h]
theorem wk_out {f : Int → Int} {ws : List Int} {x : Int} (h : x ∉ ws) (k : Nat) : wk f (k + 1) ws x = wk f k (ws ++ [x]) (f x) := by
  conv => lhs; unfold wk
  rw [if_neg h]
theorem nat_len : ∀ (n : Nat) (l : List Nat), l.Nodup → (∀ x ∈ l, x < n) → l.length ≤ n
  | 0, l, _, h => by
    cases l with
    | nil => exact Nat.le_refl _
    | cons a r => exact absurd (h a List.mem_cons_self) (Nat.not_lt_zero _)
  | n + 1, l, nd, h => by
    by_cases hn : n ∈ l
    · have ih := nat_len n (l.erase n) (nd.erase n) (fun x hx => by
        obtain ⟨h1, h2⟩ := nd.mem_erase_iff.mp hx
        have := h x h2
        omega)
      rw [List.length_erase_of_mem hn] at ih
      omega
    · have ih := nat_len n l nd (fun x hx => by
        have := h x hx
        have : x ≠ n := fun e => hn (e ▸ hx)
        omega)
      omega
def Rng (m : Int) (ws : List Int) : Prop := ∀ x ∈ ws, 0 ≤ x ∧ x < m
theorem int_len {m : Int} {ws : List Int} (nd : ws.Nodup) (h : Rng m ws) : ws.length ≤ m.toNat := by
  have h1 : (ws.map Int.toNat).Nodup := by
    rw [List.nodup_iff_pairwise_ne] at nd ⊢
    rw [List.pairwise_map]
    refine List.Pairwise.imp_of_mem (fun {a b} ha hb hne => ?_) nd
    have := h a ha
    have := h b hb
    omega
  have := nat_len m.toNat (ws.map Int.toNat) h1 (fun x hx => by
    obtain ⟨y, hy, rfl⟩ := List.mem_map.mp hx
    have := h y hy
    omega)
  rw [List.length_map] at this
  exact this
theorem nodup_snoc {ws : List Int} {x : Int} (nd : ws.Nodup) (h : x ∉ ws) : (ws ++ [x]).Nodup := by
  rw [List.nodup_append]
  refine ⟨nd, by simp, fun a ha b hb => ?_⟩
  rw [List.mem_singleton] at hb
  subst hb
  exact fun e => h (e ▸ ha)
theorem rng_snoc {m : Int} {ws : List Int} {x : Int} (h : Rng m ws) (hx : 0 ≤ x ∧ x < m) : Rng m (ws ++ [x]) := fun y hy => by
  rcases List.mem_append.mp hy with hy | hy
  · exact h y hy
  · rw [List.mem_singleton.mp hy]; exact hx
theorem wk_good {t p m : Int} (m0 : 0 < m) : ∀ (k : Nat) (ws : List Int) (x : Int), ws.Nodup → Rng m ws → 0 ≤ x ∧ x < m → m.toNat + 1 ≤ k + ws.length →
    (wk (stp t p m) k ws x).1.Nodup ∧ Rng m (wk (stp t p m) k ws x).1 ∧ (wk (stp t p m) k ws x).2 ∈ (wk (stp t p m) k ws x).1
  | 0, ws, x, nd, rg, hx, hk => by
    have := int_len nd rg
    omega
  | k + 1, ws, x, nd, rg, hx, hk => by
    by_cases h : x ∈ ws
    · rw [wk_in h]
      exact ⟨nd, rg, h⟩
    · rw [wk_out h]
      exact wk_good m0 k (ws ++ [x]) (stp t p m x) (nodup_snoc nd h) (rng_snoc rg hx) (stp_rng m0 x) (by rw [List.length_append]; show m.toNat + 1 ≤ k + (ws.length + 1); omega)
/-! ### a dict of places -/
def enumD : Nat → List Int → List (Key × V)
  | _, [] => []
  | i, w :: ws => (Sum.inl w, V.int (i : Int)) :: enumD (i + 1) ws
theorem enumD_len : ∀ (i : Nat) (ws : List Int), (enumD i ws).length = ws.length
  | _, [] => rfl
  | i, w :: ws => by show (enumD (i + 1) ws).length + 1 = ws.length + 1; rw [enumD_len]
theorem enumD_snoc : ∀ (i : Nat) (ws : List Int) (x : Int), enumD i (ws ++ [x]) = enumD i ws ++ [(Sum.inl x, V.int ((i + ws.length : Nat) : Int))]
  | i, [], x => rfl
  | i, w :: ws, x => by
    show (Sum.inl w, V.int (i : Int)) :: enumD (i + 1) (ws ++ [x]) = (Sum.inl w, V.int (i : Int)) :: enumD (i + 1) ws ++ [(Sum.inl x, V.int ((i + (ws.length + 1) : Nat) : Int))]
    rw [enumD_snoc, show i + 1 + ws.length = i + (ws.length + 1) by omega]
    rfl
theorem enumD_none : ∀ (i : Nat) {ws : List Int} {x : Int}, x ∉ ws → valV (enumD i ws) (Sum.inl x) = none
  | _, [], _, _ => rfl
  | i, w :: ws, x, h => by
    show valV ((Sum.inl w, V.int (i : Int)) :: enumD (i + 1) ws) (Sum.inl x) = none
    rw [valV_neg (fun e => h (by rw [← Sum.inl.inj e]; exact List.mem_cons_self))]
    exact enumD_none (i + 1) (fun hm => h (List.mem_cons_of_mem _ hm))
theorem enumD_some : ∀ (i : Nat) {ws : List Int} {x : Int}, x ∈ ws → valV (enumD i ws) (Sum.inl x) = some (V.int ((i + ws.idxOf x : Nat) : Int))
  | i, w :: ws, x, h => by
    show valV ((Sum.inl w, V.int (i : Int)) :: enumD (i + 1) ws) (Sum.inl x) = _
    by_cases e : w = x
    · subst e
      rw [valV_pos rfl, List.idxOf_cons_self]
      rfl
    · have e2 : (w :: ws).idxOf x = ws.idxOf x + 1 := by
        rw [List.idxOf_cons]
        simp [beq_eq_false_iff_ne.mpr e]
      rw [valV_neg (fun z => e (Sum.inl.inj z)), e2, enumD_some (i + 1) ((List.mem_cons.mp h).resolve_left (fun z => e z.symm))]
      congr 2
      omega
theorem upd_self {H : Hp} {a : Addr} {o : HO} (h : H a = some o) : upd H a o = H := by
  funext b
  by_cases e : b = a
  · rw [e, upd_same, h]
  · rw [upd_ne e]
theorem sqT_upd {K : PySem.W.Frag} {H : Hp} {r a : Addr} {xs : List V} {o u : HO} (h : SqT K H r xs) (ha : H a = some u) (n1 : ∀ ys, u ≠ .tup ys) (n2 : ∀ ob v, u ≠ .frz ob v) : SqT K (upd H a o) r xs := by
  rcases h with (h | ⟨ob, h⟩) | h
  · refine .inl (.inl ?_)
    rw [upd_ne (fun e => n1 xs (by rw [e, ha] at h; exact Option.some.inj h))]
    exact h
  · refine .inl (.inr ⟨ob, ?_⟩)
    rw [upd_ne (fun e => n2 ob _ (by rw [e, ha] at h; exact Option.some.inj h))]
    exact h
  · exact .inr h
/-! ### refusals -/
/-- the error behind a number that is none: its own dict d, new -/
def Bad (CN : Addr) (n : Int) (H : Hp) (E : XK) : Prop := ∀ d, H d = none → E (.ref CN) (some d) (upd H d (.xd [("number", .int n)]))
theorem made_eq {H : Hp} {a d : Addr} {C : Addr} {fs : List (Str × V)} (na : H a = none) (nd : d ≠ a) :
    upd (L2.del (upd (upd (upd H a (exo a C none)) d (exd d fs)) a (exo a C (some d))) a) d (.xd fs) = upd H d (.xd fs) := by
  funext b
  by_cases hb : b = d
  · rw [hb, upd_same, upd_same]
  · rw [upd_ne hb, upd_ne hb]
    by_cases ha : b = a
    · rw [ha, del_same, na]
    · rw [del_ne ha, upd_ne ha, upd_ne hb, upd_ne ha]
def spInit (K : PySem.W.Frag) : Sp := sp2 fun x v H Q _ => ∃ (a C : Addr), x = .ref a ∧ OexC K C ∧ PySem.W.findIn K (.ref C) "number" = some none ∧ H a = some (exo a C none) ∧ ∀ d, H d = none → d ≠ a → Q .non (upd (upd H d (exd d [("number", v)])) a (exo a C (some d)))
def pWhole : V → Hp → VK → XK → Prop := fun a H Q _ => ∃ n : Int, a = .int n ∧ Q (.bl true) H
def pIsNum : V → V → Hp → VK → XK → Prop := fun a b H Q _ => ∃ n m : Int, a = .int n ∧ b = .int m ∧ Q (.bl (decide (0 ≤ n ∧ n < m))) H
def pCheck (CN : Addr) : V → V → Hp → VK → XK → Prop := fun a b H Q E => ∃ n m : Int, a = .int n ∧ b = .int m ∧ (0 ≤ n → n < m → Q .non H) ∧ (¬ (0 ≤ n ∧ n < m) → Bad CN n H E)
def pNextOf (K : PySem.W.Frag) (CN : Addr) : V → V → Hp → VK → XK → Prop := fun a b H Q E => ∃ (r : Addr) (t p m n : Int), a = .ref r ∧ b = .int n ∧ SqT K H r [.int t, .int p, .int m] ∧ Rule t p m ∧
  (0 ≤ n → n < m → Q (.int (stp t p m n)) H) ∧ (¬ (0 ≤ n ∧ n < m) → Bad CN n H E)
def pWalk (K : PySem.W.Frag) : V → V → V → Hp → VK → XK → Prop := fun a b c H Q _ => ∃ (r : Addr) (t p m s : Int) (l : Addr) (ws : List Int), a = .ref r ∧ b = .int s ∧ c = .ref l ∧ SqT K H r [.int t, .int p, .int m] ∧ Rule t p m ∧ m ≤ 1000000 ∧ 0 ≤ s ∧ s < m ∧
  H l = some (.dK (enumD 0 ws)) ∧ ws.Nodup ∧ Rng m ws ∧ Q (.int (wk (stp t p m) (m.toNat + 1 - ws.length) ws s).2) (upd H l (.dK (enumD 0 (wk (stp t p m) (m.toNat + 1 - ws.length) ws s).1)))
/-- tail and length -/
def rndW (t p m s : Int) : List Int × Int := wk (stp t p m) (m.toNat + 1) [] s
def rndT (t p m s : Int) : Int := (((rndW t p m s).1.idxOf (rndW t p m s).2 : Nat) : Int)
def rndL (t p m s : Int) : Int := ((rndW t p m s).1.length : Int) - rndT t p m s
def pRound (K : PySem.W.Frag) (CN : Addr) : V → V → Hp → VK → XK → Prop := fun a b H Q E => ∃ (r : Addr) (t p m s : Int), a = .ref r ∧ b = .int s ∧ SqT K H r [.int t, .int p, .int m] ∧ Rule t p m ∧ m ≤ 1000000 ∧
  (0 ≤ s → s < m → ∀ H' q, Same H H' → H q = none → H' q = some (.tup [.int (rndT t p m s), .int (rndL t p m s)]) → Q (.ref q) H') ∧ (¬ (0 ≤ s ∧ s < m) → Bad CN s H E)
def pRoundL (K : PySem.W.Frag) : V → V → Hp → VK → XK → Prop := fun a b H Q _ => ∃ (r : Addr) (t p m s : Int), a = .ref r ∧ b = .int s ∧ SqT K H r [.int t, .int p, .int m] ∧ Rule t p m ∧ m ≤ 1000000 ∧ 0 ≤ s ∧ s < m ∧
  ∀ H' q, Same H H' → H q = none → H' q = some (.tup [.int (rndT t p m s), .int (rndL t p m s)]) → Q (.ref q) H'
/-- a refusal that was asked for: True -/
def pRefR (K : PySem.W.Frag) : V → V → Hp → VK → XK → Prop := fun a b H Q _ => ∃ (r : Addr) (t p m n : Int), a = .ref r ∧ b = .int n ∧ SqT K H r [.int t, .int p, .int m] ∧ Rule t p m ∧ m ≤ 1000000 ∧ (n < 0 ∨ m ≤ n) ∧ ∀ H', Same H H' → Q (.bl true) H'
/-- data that are alike -/
theorem eqv_self {d : PyData} (h : SeqAt.shaped d = true) : PyData.eqv d d = true := SeqAt.eqv_refl d (SeqAt.canLay_of_shaped h)
theorem shp_sn (n : Int) : SeqAt.shaped (.tuple [.str "number", .int n]) = true := by
  have h : PyData.canLay0 (.str "number") = true := by decide +kernel
  show (PyData.canLay0 (.tuple [.str "number", .int n]) && decide (PyData.depth (.tuple [.str "number", .int n]) ≤ 64)) = true
  simp [PyData.canLay0, PyData.canLayAll0] at h ⊢
  exact ⟨h, of_decide_eq_true rfl⟩
theorem dp_ints {K : PySem.W.Frag} {H : Hp} : ∀ ns : List Int, DpAll K H (ns.map V.int) (ns.map PyData.int)
  | [] => .nil
  | n :: ns => .cons (.int n) (dp_ints ns)
/-! ### what the top has left -/
theorem top_mk {K : PySem.W.Frag} {h : Heap} {mg : Str → Option Value} {x : Str} {st : Stmt} {ps : List Str} {f : Addr} {oc : Value} {od an : Option Addr} {sl : Array (Option Value)} {kV dc pm cd ct : Value} (X : K.In h) (G : h.Ns mainGlobals mg)
    (a : PySem.W.nsIn K mainGlobals x = some (some (.ref f))) (l : K.lookup f = some ⟨oc, od, .func (PySem.W.fnOf x x (defArgs st) (defBody st) (defScope st) .none kV dc pm an cd ct), sl⟩) (c : PySem.W.codeIn K cd x = true) (k : PySem.W.keepIn K (.ref f) = true)
    (hb : ∀ (kV doc pm : Value) (an : Option Addr) (cdv ct : Value) (us : List Value), us.length = ps.length → bindArgs (PySem.W.fnOf x x (defArgs st) (defBody st) (defScope st) .none kV doc pm an cdv ct) ⟨us, []⟩ = pure (ps.zip us)) : Top K mg x st ps :=
  ⟨f, _, fun_mk l c k, PySem.W.mg_of X G a, (fun_mk l c k).binds hb⟩
end Tw

/-! Steps from one number to another. -/
namespace Tw
open PySem PySem.Spec PyProof.Rows L2
/-- what steps_to tells of a start and a number -/
def stV (t p m s n : Int) : V := if n ∈ (rndW t p m s).1 then .int (((rndW t p m s).1.idxOf n : Nat) : Int) else .non
def pSteps (K : PySem.W.Frag) (CN : Addr) : V → V → V → Hp → VK → XK → Prop := fun a b c H Q E => ∃ (r : Addr) (t p m s n : Int), a = .ref r ∧ b = .int s ∧ c = .int n ∧ SqT K H r [.int t, .int p, .int m] ∧ Rule t p m ∧ m ≤ 1000000 ∧
  ((0 ≤ s ∧ s < m) → (0 ≤ n ∧ n < m) → ∀ H', Same H H' → Q (stV t p m s n) H') ∧ (¬ (0 ≤ s ∧ s < m) → Bad CN s H E) ∧ ((0 ≤ s ∧ s < m) → ¬ (0 ≤ n ∧ n < m) → Bad CN n H E)
def seenD (ws : List Int) : List (Key × V) := ws.map fun x => (Sum.inl x, V.bl true)
theorem seenD_none : ∀ {ws : List Int} {x : Int}, x ∉ ws → valV (seenD ws) (Sum.inl x) = none
  | [], _, _ => rfl
  | w :: ws, x, h => by
    show valV ((Sum.inl w, V.bl true) :: seenD ws) (Sum.inl x) = none
    rw [valV_neg (fun e => h (by rw [← Sum.inl.inj e]; exact List.mem_cons_self))]
    exact seenD_none (fun hm => h (List.mem_cons_of_mem _ hm))
theorem seenD_some : ∀ {ws : List Int} {x : Int}, x ∈ ws → valV (seenD ws) (Sum.inl x) = some (.bl true)
  | w :: ws, x, h => by
    show valV ((Sum.inl w, V.bl true) :: seenD ws) (Sum.inl x) = _
    by_cases e : w = x
    · subst e
      rw [valV_pos rfl]
    · rw [valV_neg (fun z => e (Sum.inl.inj z)), seenD_some ((List.mem_cons.mp h).resolve_left (fun z => e z.symm))]
theorem seenD_snoc (ws : List Int) (x : Int) : seenD (ws ++ [x]) = seenD ws ++ [(Sum.inl x, V.bl true)] := List.map_append
def pRowL (K : PySem.W.Frag) : V → V → Hp → VK → XK → Prop := fun a b H Q _ => ∃ (r : Addr) (t p m s : Int), a = .ref r ∧ b = .int s ∧ SqT K H r [.int t, .int p, .int m] ∧ Rule t p m ∧ m ≤ 1000000 ∧ 0 ≤ s ∧ s < m ∧
  ∀ H' q, Same H H' → H q = none → H' q = some (.lst ((rndW t p m s).1.map V.int)) → Q (.ref q) H'
def pTold (K : PySem.W.Frag) : V → V → V → Hp → VK → XK → Prop := fun a b c H Q _ => ∃ (r : Addr) (t p m s n : Int), a = .ref r ∧ b = .int s ∧ c = .int n ∧ SqT K H r [.int t, .int p, .int m] ∧ Rule t p m ∧ m ≤ 1000000 ∧
  ((0 ≤ s ∧ s < m) → (0 ≤ n ∧ n < m) → ∀ H' q, Same H H' → H q = none → H' q = some (.lst [stV t p m s n]) → Q (.ref q) H') ∧
  (¬ (0 ≤ s ∧ s < m) → ∀ H' q, Same H H' → H q = none → H' q = some (.tup [.str "number", .int s]) → Q (.ref q) H') ∧
  ((0 ≤ s ∧ s < m) → ¬ (0 ≤ n ∧ n < m) → ∀ H' q, Same H H' → H q = none → H' q = some (.tup [.str "number", .int n]) → Q (.ref q) H')
theorem eqV_int (a b : Int) : eqV (.int a) (.int b) = (a == b) := rfl
theorem flat_ints (ns : List Int) : (ns.map V.int).all flatV = true := by
  rw [List.all_eq_true]
  intro x hx
  obtain ⟨y, _, rfl⟩ := List.mem_map.mp hx
  rfl
theorem inV_ints (n : Int) (ns : List Int) : inV (.int n) (ns.map V.int) = decide (n ∈ ns) := by
  unfold inV
  rw [Bool.eq_iff_iff, List.any_eq_true, decide_eq_true_eq]
  constructor
  · rintro ⟨x, hx, e⟩
    obtain ⟨y, hy, rfl⟩ := List.mem_map.mp hx
    have : y = n := by simpa [eqV_int] using e
    exact this ▸ hy
  · intro h
    exact ⟨.int n, List.mem_map.mpr ⟨n, h, rfl⟩, by simp [eqV_int]⟩
/-- the first place of a number in a list of ints, as index asks it -/
theorem idx_ints {n : Int} {ns : List Int} (h : n ∈ ns) : (ns.map V.int)[ns.idxOf n]? = some (.int n) ∧ ∀ (j : Nat) (z : V), j < ns.idxOf n → (ns.map V.int)[j]? = some z → eqV z (.int n) = false := by
  have hl := List.idxOf_lt_length_of_mem h
  constructor
  · rw [List.getElem?_map, List.getElem?_eq_getElem hl, List.getElem_idxOf hl]
    rfl
  · intro j z hj hz
    rw [List.getElem?_map] at hz
    have jl : j < ns.length := by omega
    rw [List.getElem?_eq_getElem jl] at hz
    obtain rfl : V.int ns[j] = z := Option.some.inj hz
    rw [eqV_int]
    refine beq_eq_false_iff_ne.mpr fun e => ?_
    have := List.not_of_lt_findIdx (p := fun x => x == n) (xs := ns) (i := j) hj
    simp [e] at this
theorem idx_app {n : Int} {ns : List Int} (h : n ∈ ns) : (ns ++ [n]).idxOf n = ns.idxOf n := by
  rw [List.idxOf_append, if_pos h]
end Tw

/-! Rows, and rests by taking away. -/
namespace Tw
open PySem PySem.Spec PyProof.Rows L2
def itr (f : Int → Int) : Nat → Int → Int
  | 0, x => x
  | n + 1, x => f (itr f n x)
def orb (f : Int → Int) (n : Nat) (x : Int) : List Int := (List.range n).map fun i => itr f i x
theorem orb_succ (f : Int → Int) (n : Nat) (x : Int) : orb f (n + 1) x = orb f n x ++ [itr f n x] := by
  unfold orb
  rw [List.range_succ, List.map_append]
  rfl
theorem orb_len (f : Int → Int) (n : Nat) (x : Int) : (orb f n x).length = n := by
  unfold orb
  rw [List.length_map, List.length_range]
theorem itr_rng {t p m s : Int} (m0 : 0 < m) (h : 0 ≤ s ∧ s < m) : ∀ n, 0 ≤ itr (stp t p m) n s ∧ itr (stp t p m) n s < m
  | 0 => h
  | n + 1 => stp_rng m0 _
def pRowFrom (K : PySem.W.Frag) (CN : Addr) : V → V → V → Hp → VK → XK → Prop := fun a b c H Q E => ∃ (r : Addr) (t p m s n : Int), a = .ref r ∧ b = .int s ∧ c = .int n ∧ SqT K H r [.int t, .int p, .int m] ∧ Rule t p m ∧ 0 ≤ n ∧ n ≤ 100000 ∧
  (0 ≤ s → s < m → ∀ H' q, Same H H' → H q = none → H' q = some (.tup ((orb (stp t p m) n.toNat s).map V.int)) → Q (.ref q) H') ∧ (¬ (0 ≤ s ∧ s < m) → Bad CN s H E)
def pRowLaw (K : PySem.W.Frag) : V → V → V → Hp → VK → XK → Prop := fun a b c H Q _ => ∃ (r : Addr) (t p m s n : Int), a = .ref r ∧ b = .int s ∧ c = .int n ∧ SqT K H r [.int t, .int p, .int m] ∧ Rule t p m ∧ 0 ≤ n ∧ n ≤ 100000 ∧ 0 ≤ s ∧ s < m ∧
  ∀ H' q, Same H H' → H q = none → H' q = some (.tup ((orb (stp t p m) n.toNat s).map V.int)) → Q (.ref q) H'
def pRest : V → V → Hp → VK → XK → Prop := fun a b H Q _ => ∃ x m : Int, a = .int x ∧ b = .int m ∧ 0 ≤ x ∧ x < 10000000000000000000000000 ∧ 1 ≤ m ∧ m ≤ 1000000000000 ∧ ∀ H', Same H H' → Q (.int (x % m)) H'
def pWhole2 : V → V → Hp → VK → XK → Prop := fun a b H Q _ => ∃ x : Int, a = .int x ∧ b = .int x ∧ Q (.bl true) H
def pRef2 (K : PySem.W.Frag) : V → V → V → Hp → VK → XK → Prop := fun a b c H Q _ => ∃ (r : Addr) (t p m n k : Int), a = .ref r ∧ b = .int n ∧ c = .int k ∧ SqT K H r [.int t, .int p, .int m] ∧ Rule t p m ∧ 0 ≤ k ∧ k ≤ 100000 ∧ (n < 0 ∨ m ≤ n) ∧ ∀ H', Same H H' → Q (.bl true) H'
theorem lay_ints : ∀ ns : List Int, PyData.canLayAll0 (ns.map PyData.int) = true ∧ PyData.depthAll (ns.map PyData.int) = 0
  | [] => ⟨rfl, rfl⟩
  | n :: ns => by
    obtain ⟨h1, h2⟩ := lay_ints ns
    constructor
    · show (PyData.canLay0 (.int n) && PyData.canLayAll0 (ns.map PyData.int)) = true
      rw [h1]
      rfl
    · show max (PyData.depth (.int n)) (PyData.depthAll (ns.map PyData.int)) = 0
      rw [h2]
      rfl
theorem shp_ints (ns : List Int) : SeqAt.shaped (.tuple (ns.map PyData.int)) = true := by
  obtain ⟨h1, h2⟩ := lay_ints ns
  show (PyData.canLayAll0 (ns.map PyData.int) && decide (PyData.depthAll (ns.map PyData.int) + 1 ≤ 64)) = true
  rw [h1, h2]
  rfl
theorem shp_lints (ns : List Int) : SeqAt.shaped (.list (ns.map PyData.int)) = true := by
  obtain ⟨h1, h2⟩ := lay_ints ns
  show (PyData.canLayAll0 (ns.map PyData.int) && decide (PyData.depthAll (ns.map PyData.int) + 1 ≤ 64)) = true
  rw [h1, h2]
  rfl
theorem two_pos (k : Nat) : (1 : Int) ≤ 2 ^ k := Int.pow_pos (by decide)
theorem two_small {k : Nat} {b x : Int} (hb : 1 ≤ b) (h : 2 ^ k * b ≤ x) (hx : x < 10000000000000000000000000) : k < 84 := by
  refine Nat.lt_of_not_le fun hk => ?_
  obtain ⟨j, rfl⟩ : ∃ j, k = 84 + j := ⟨k - 84, by omega⟩
  have e : (2 : Int) ^ (84 + j) = 2 ^ 84 * 2 ^ j := Int.pow_add ..
  have h1 := two_pos j
  have h2 : (2 : Int) ^ 84 * 1 ≤ 2 ^ 84 * 2 ^ j := Int.mul_le_mul_of_nonneg_left h1 (by decide)
  have h3 : (2 : Int) ^ (84 + j) * 1 ≤ 2 ^ (84 + j) * b := Int.mul_le_mul_of_nonneg_left hb (by have := two_pos (84 + j); omega)
  have h4 : (2 : Int) ^ 84 = 19342813113834066795298816 := by decide
  omega
def dbl (b : Int) (k : Nat) : List Int := (List.range (k + 1)).map fun i => 2 ^ i * b
theorem dbl_succ (b : Int) (k : Nat) : dbl b (k + 1) = dbl b k ++ [2 * (2 ^ k * b)] := by
  unfold dbl
  rw [List.range_succ (n := k + 1), List.map_append]
  show _ ++ [2 ^ (k + 1) * b] = _
  rw [Int.pow_succ, Int.mul_comm (2 ^ k) 2, Int.mul_assoc]
theorem dbl_last (b : Int) : ∀ k, ∃ l, dbl b k = l ++ [2 ^ k * b]
  | 0 => ⟨[], rfl⟩
  | k + 1 => ⟨dbl b k, by rw [dbl_succ, Int.pow_succ, Int.mul_comm (2 ^ k) 2, Int.mul_assoc]⟩
theorem dbl_len (b : Int) (k : Nat) : (dbl b k).length = k + 1 := by
  unfold dbl
  rw [List.length_map, List.length_range]
theorem dbl_rev {b : Int} {k i : Nat} (h : i ≤ k) : (dbl b k).reverse[i]? = some (2 ^ (k - i) * b) := by
  rw [List.getElem?_reverse (by rw [dbl_len]; omega), dbl_len]
  unfold dbl
  rw [List.getElem?_map, List.getElem?_range (by omega)]
  show some (2 ^ (k + 1 - 1 - i) * b) = _
  rw [show k + 1 - 1 - i = k - i by omega]
theorem two_half {b : Int} {k i : Nat} (h : i ≤ k) : (2 : Int) ^ (k + 1 - i) * b = 2 * (2 ^ (k - i) * b) := by
  rw [show k + 1 - i = (k - i) + 1 by omega, Int.pow_succ, Int.mul_comm (2 ^ (k - i)) 2, Int.mul_assoc]
end Tw

/-! Powers, sums of powers, common divisors, inverses. -/
namespace Tw
open PySem PySem.Spec PyProof.Rows L2
def geo (t : Int) : Nat → Int
  | 0 => 0
  | n + 1 => geo t n + t ^ n
theorem geo_add (t : Int) (a : Nat) : ∀ b, geo t (a + b) = geo t a + t ^ a * geo t b
  | 0 => by show geo t a = geo t a + t ^ a * 0; grind
  | b + 1 => by
    show geo t (a + b) + t ^ (a + b) = geo t a + t ^ a * (geo t b + t ^ b)
    rw [geo_add t a b, Int.pow_add]
    grind
theorem geo_mul (t : Int) : ∀ n, (t - 1) * geo t n = t ^ n - 1
  | 0 => by rw [Int.pow_zero]; show (t - 1) * 0 = 1 - 1; grind
  | n + 1 => by
    have ih := geo_mul t n
    show (t - 1) * (geo t n + t ^ n) = t ^ (n + 1) - 1
    rw [Int.pow_succ]
    grind
/-- what a rule of n steps is -/
def rsT (t m : Int) (n : Nat) : Int := t ^ n % m
def rsP (t p m : Int) (n : Nat) : Int := p * geo t n % m
theorem rs_T (t m : Int) (a c : Nat) : rsT t m c * rsT t m a % m = rsT t m (a + c) := by
  unfold rsT
  rw [← Int.mul_emod, Int.pow_add, Int.mul_comm]
theorem rs_P (t p m : Int) (a c : Nat) : (rsT t m c * rsP t p m a + rsP t p m c) % m = rsP t p m (a + c) := by
  unfold rsT rsP
  rw [Int.add_emod, Int.emod_emod, ← Int.mul_emod, ← Int.add_emod, Nat.add_comm a c, geo_add]
  congr 1
  grind
theorem rs_rng {t p m : Int} (h : 0 < m) (n : Nat) : (0 ≤ rsT t m n ∧ rsT t m n < m) ∧ 0 ≤ rsP t p m n ∧ rsP t p m n < m := ⟨mod_bd _ h, mod_bd _ h⟩
theorem Rule.rs {t p m : Int} (R : Rule t p m) (n : Nat) : Rule (rsT t m n) (rsP t p m n) m :=
  have h := rs_rng (t := t) (p := p) (show 0 < m by have := R.b1; omega) n
  ⟨R.b1, R.b2, h.1.1, h.1.2, h.2.1, h.2.2⟩
/-- ahead -/
def ahd (t p m : Int) (n : Nat) (x : Int) : Int := (t ^ n * x + p * geo t n) % m
theorem stp_rs (t p m : Int) (n : Nat) (x : Int) : stp (rsT t m n) (rsP t p m n) m x = ahd t p m n x := by
  unfold stp rsT rsP ahd
  rw [Int.add_emod_emod, Int.add_emod, Int.mul_emod, Int.emod_emod, ← Int.mul_emod, ← Int.add_emod]
theorem ahd_rng {t p m : Int} (h : 0 < m) (n : Nat) (x : Int) : 0 ≤ ahd t p m n x ∧ ahd t p m n x < m := mod_bd _ h
/-- the number from which n steps lead to s -/
def Back (t p m : Int) (n : Nat) (s y : Int) : Prop := 0 ≤ y ∧ y < m ∧ ahd t p m n y = s
theorem cop_pow {t m : Int} (h : Int.gcd t m = 1) (n : Nat) : Nat.Coprime m.natAbs (t ^ n).natAbs := by
  rw [Int.natAbs_pow]
  exact (Nat.Coprime.pow_left n (show Nat.Coprime t.natAbs m.natAbs from h)).symm
theorem Back.uniq {t p m : Int} {n : Nat} {s y z : Int} (hc : Int.gcd t m = 1) (h : Back t p m n s y) (k : Back t p m n s z) : y = z := by
  obtain ⟨y0, y1, ye⟩ := h
  obtain ⟨z0, z1, ze⟩ := k
  have e : (t ^ n * y + p * geo t n) % m = (t ^ n * z + p * geo t n) % m := ye.trans ze.symm
  have e2 := Int.emod_eq_emod_iff_emod_sub_eq_zero.mp e
  have e3 : m ∣ t ^ n * (y - z) := by
    have := Int.dvd_of_emod_eq_zero e2
    rw [show t ^ n * (y - z) = t ^ n * y + p * geo t n - (t ^ n * z + p * geo t n) by grind]
    exact this
  have e4 : m.natAbs ∣ (y - z).natAbs := by
    have h1 := Int.natAbs_dvd_natAbs.mpr e3
    rw [Int.natAbs_mul] at h1
    exact Nat.Coprime.dvd_of_dvd_mul_left (cop_pow hc n) h1
  have e5 : (y - z).natAbs = 0 := Nat.eq_zero_of_dvd_of_lt e4 (by omega)
  omega
/-- undone by the inverse -/
theorem back_of {t p m u : Int} (m0 : 0 < m) (hu : t * u % m = 1 % m) (s : Int) (s0 : 0 ≤ s) (s1 : s < m) : ∀ n : Nat, Back t p m n s (ahd u (-u * p % m) m n s) := by
  intro n
  refine ⟨(ahd_rng m0 n s).1, (ahd_rng m0 n s).2, ?_⟩
  obtain ⟨e, he⟩ := Int.dvd_of_emod_eq_zero (Int.emod_eq_emod_iff_emod_sub_eq_zero.mp hu)
  have htu : t * u = m * e + 1 := by omega
  have key : ∀ k : Nat, m ∣ t ^ k * (u ^ k * s + (-u * p) * geo u k) + p * geo t k - s := by
    intro k
    induction k with
    | zero =>
      rw [Int.pow_zero, Int.pow_zero]
      show m ∣ 1 * (1 * s + (-u * p) * 0) + p * 0 - s
      exact ⟨0, by grind⟩
    | succ k ih =>
      obtain ⟨c, hc⟩ := ih
      have g1 : geo u (k + 1) = 1 + u * geo u k := by
        rw [Nat.add_comm, geo_add]
        show 0 + u ^ 0 + u ^ 1 * geo u k = _
        rw [Int.pow_zero, Int.pow_one]
        grind
      have g2 : geo t (k + 1) = geo t k + t ^ k := rfl
      rw [g1, g2, Int.pow_succ, Int.pow_succ]
      generalize u ^ k = U at *
      generalize t ^ k = T at *
      generalize geo u k = G at *
      generalize geo t k = J at *
      refine ⟨c + T * e * (U * s + (-u * p) * G - p), ?_⟩
      have e1 : T * t * (U * u * s + -u * p * (1 + u * G)) + p * (J + T) - s = T * ((t * u) * (U * s + -u * p * G - p) + p) + p * J - s := by grind
      rw [e1, htu]
      have e2 : T * ((m * e + 1) * (U * s + -u * p * G - p) + p) + p * J - s = (T * (U * s + -u * p * G) + p * J - s) + m * (T * e * (U * s + -u * p * G - p)) := by grind
      rw [e2, hc]
      grind
  obtain ⟨c, hc⟩ := key n
  have hy : ∃ b, ahd u (-u * p % m) m n s = (u ^ n * s + (-u * p) * geo u n) + m * b := by
    unfold ahd
    have a1 := Int.mul_ediv_add_emod (u ^ n * s + (-u * p % m) * geo u n) m
    have a2 := Int.mul_ediv_add_emod (-u * p) m
    refine ⟨-((u ^ n * s + (-u * p % m) * geo u n) / m) - (-u * p / m) * geo u n, ?_⟩
    generalize (u ^ n * s + (-u * p % m) * geo u n) / m = d1 at *
    generalize (u ^ n * s + (-u * p % m) * geo u n) % m = d2 at *
    generalize -u * p / m = d3 at *
    generalize -u * p % m = d4 at *
    grind
  obtain ⟨b, hb⟩ := hy
  rw [hb]
  show (t ^ n * (u ^ n * s + -u * p * geo u n + m * b) + p * geo t n) % m = s
  have e3 : t ^ n * (u ^ n * s + -u * p * geo u n + m * b) + p * geo t n = s + m * (c + t ^ n * b) := by grind
  rw [e3, Int.add_mul_emod_self_left]
  exact Int.emod_eq_of_lt s0 s1
/-! ### common divisors -/
theorem gcd_step {x y : Int} (h0 : 0 ≤ x) (h1 : 0 < y) : Int.gcd y (x % y) = Int.gcd x y := by
  obtain ⟨a, rfl⟩ := Int.eq_ofNat_of_zero_le h0
  obtain ⟨b, rfl⟩ := Int.eq_ofNat_of_zero_le (Int.le_of_lt h1)
  show Nat.gcd b ((a : Int) % (b : Int)).natAbs = Nat.gcd a b
  rw [← Int.natCast_emod, Int.natAbs_natCast, Nat.gcd_comm b, ← Nat.gcd_rec, Nat.gcd_comm]
/-! ### powers by squaring -/
theorem sq_pow (t : Int) (n : Nat) : t ^ n = (if n % 2 = 1 then t else 1) * (t * t) ^ (n / 2) := by
  have e : n = 2 * (n / 2) + n % 2 := by omega
  have h2 : (t * t) ^ (n / 2) = t ^ (2 * (n / 2)) := by rw [Int.pow_mul, show t ^ 2 = t * t by rw [Int.pow_succ, Int.pow_one]]
  rw [h2]
  by_cases h : n % 2 = 1
  · rw [if_pos h]
    conv => lhs; rw [e, h, Int.pow_succ]
    exact Int.mul_comm _ _
  · rw [if_neg h, Int.one_mul]
    conv => lhs; rw [e, show n % 2 = 0 by omega, Nat.add_zero]
/-- the law's sum of powers, by a power of the bound times one less -/
theorem shares {t m P : Int} {n : Nat} (m0 : 0 < m) (t2 : 2 ≤ t) (hP : P = t ^ n % (m * (t - 1))) : P % m = t ^ n % m ∧ (P - 1) / (t - 1) % m = geo t n % m := by
  have d1 := Int.mul_ediv_add_emod (t ^ n) (m * (t - 1))
  rw [← hP] at d1
  have g := geo_mul t n
  constructor
  · rw [hP, Int.emod_emod_of_dvd _ ⟨t - 1, rfl⟩]
  · have e : P - 1 = (t - 1) * (geo t n - m * (t ^ n / (m * (t - 1)))) := by
      generalize t ^ n / (m * (t - 1)) = q at *
      grind
    rw [e, Int.mul_ediv_cancel_left _ (by omega)]
    rw [Int.sub_emod, Int.mul_emod_right, Int.sub_zero, Int.emod_emod]
theorem pow_zero_pos {n : Nat} (h : 0 < n) : (0 : Int) ^ n = 0 := by
  obtain ⟨k, rfl⟩ : ∃ k, n = k + 1 := ⟨n - 1, by omega⟩
  rw [Int.pow_succ, Int.mul_zero]
theorem geo_zero : ∀ {n : Nat}, 0 < n → geo 0 n = 1
  | 1, _ => by show (0 : Int) + 0 ^ 0 = 1; rw [Int.pow_zero]; rfl
  | n + 2, _ => by
    show geo 0 (n + 1) + 0 ^ (n + 1) = 1
    rw [geo_zero (Nat.succ_pos n), pow_zero_pos (Nat.succ_pos n)]
    rfl
theorem geo_one : ∀ n : Nat, geo 1 n = n
  | 0 => rfl
  | n + 1 => by
    show geo 1 n + 1 ^ n = ((n + 1 : Nat) : Int)
    rw [geo_one n, Int.one_pow]
    rfl
/-! ### promises -/
def pGcd : V → V → Hp → VK → XK → Prop := fun a b H Q _ => ∃ x y : Int, a = .int x ∧ b = .int y ∧ 0 ≤ x ∧ 0 ≤ y ∧ Q (.int (Int.gcd x y : Nat)) H
def pInv : V → V → Hp → VK → XK → Prop := fun a b H Q _ => ∃ x m : Int, a = .int x ∧ b = .int m ∧ 0 ≤ x ∧ 0 < m ∧ m ≤ 1000000000000 ∧ Int.gcd x m = 1 ∧ ∀ H' v, Same H H' → 0 ≤ v → v < m → x * v % m = 1 % m → Q (.int v) H'
def pChained (K : PySem.W.Frag) : V → V → Hp → VK → XK → Prop := fun a b H Q _ => ∃ (r1 r2 : Addr) (t1 p1 t2 p2 m : Int), a = .ref r1 ∧ b = .ref r2 ∧ SqT K H r1 [.int t1, .int p1, .int m] ∧ SqT K H r2 [.int t2, .int p2, .int m] ∧ Rule t1 p1 m ∧ Rule t2 p2 m ∧
  ∀ H' q, Same H H' → H q = none → H' q = some (.tup [.int (t2 * t1 % m), .int ((t2 * p1 + p2) % m), .int m]) → Q (.ref q) H'
def pRos (K : PySem.W.Frag) : V → V → Hp → VK → XK → Prop := fun a b H Q _ => ∃ (r : Addr) (t p m n : Int), a = .ref r ∧ b = .int n ∧ SqT K H r [.int t, .int p, .int m] ∧ Rule t p m ∧ 0 ≤ n ∧
  ∀ H' q, Same H H' → H' q = some (.tup [.int (rsT t m n.toNat), .int (rsP t p m n.toNat), .int m]) → Q (.ref q) H'
def pRback (K : PySem.W.Frag) (CB : Addr) : V → Hp → VK → XK → Prop := fun a H Q E => ∃ (r : Addr) (t p m : Int), a = .ref r ∧ SqT K H r [.int t, .int p, .int m] ∧ Rule t p m ∧
  (Int.gcd t m = 1 → ∀ H' q u, Same H H' → H q = none → 0 ≤ u → u < m → t * u % m = 1 % m → H' q = some (.tup [.int u, .int (-u * p % m), .int m]) → Q (.ref q) H') ∧ (Int.gcd t m ≠ 1 → E (.ref CB) none H)
def pJump (K : PySem.W.Frag) (CN CB : Addr) : V → V → V → Hp → VK → XK → Prop := fun a b c H Q E => ∃ (r : Addr) (t p m s n : Int), a = .ref r ∧ b = .int s ∧ c = .int n ∧ SqT K H r [.int t, .int p, .int m] ∧ Rule t p m ∧
  (¬ (0 ≤ s ∧ s < m) → Bad CN s H E) ∧ (0 ≤ s ∧ s < m → 0 ≤ n → ∀ H', Same H H' → Q (.int (ahd t p m n.toNat s)) H') ∧
  (0 ≤ s ∧ s < m → n < 0 → Int.gcd t m = 1 → ∀ H' y, Same H H' → Back t p m (-n).toNat s y → Q (.int y) H') ∧ (0 ≤ s ∧ s < m → n < 0 → Int.gcd t m ≠ 1 → E (.ref CB) none H)
end Tw
namespace Tw
open PySem PySem.Spec PyProof.Rows L2
/-- an error without a number: its kind's name alone -/
def pKindO (C : Addr) (nm : Str) : V → Hp → VK → XK → Prop := fun a H Q _ => ∃ e : Addr, a = .ref e ∧ H e = some (exv e (.ref C) none) ∧ ∀ H' p, Same H H' → H p = none → H' p = some (.tup [.str nm]) → Q (.ref p) H'
def pPow : V → V → V → Hp → VK → XK → Prop := fun a b c H Q _ => ∃ x n m : Int, a = .int x ∧ b = .int n ∧ c = .int m ∧ 0 ≤ x ∧ x ≤ 1000000000000 ∧ 0 ≤ n ∧ 0 < m ∧ m ≤ 1000000000000000000000000 ∧ Q (.int (x ^ n.toNat % m)) H
def pShares (K : PySem.W.Frag) : V → V → Hp → VK → XK → Prop := fun a b H Q _ => ∃ (r : Addr) (t p m n : Int), a = .ref r ∧ b = .int n ∧ SqT K H r [.int t, .int p, .int m] ∧ Rule t p m ∧ 0 ≤ n ∧
  ∀ H' q, Same H H' → H q = none → H' q = some (.lst [.int (t ^ n.toNat % m), .int (geo t n.toNat % m)]) → Q (.ref q) H'
def pAhead (K : PySem.W.Frag) : V → V → V → Hp → VK → XK → Prop := fun a b c H Q _ => ∃ (r : Addr) (t p m s n : Int), a = .ref r ∧ b = .int s ∧ c = .int n ∧ SqT K H r [.int t, .int p, .int m] ∧ Rule t p m ∧ 0 ≤ s ∧ s < m ∧ 0 ≤ n ∧ ∀ H', Same H H' → Q (.int (ahd t p m n.toNat s)) H'
theorem ahd_shares (t p m : Int) (n : Nat) (s : Int) : (t ^ n % m * s + geo t n % m * p) % m = ahd t p m n s := by
  unfold ahd
  rw [Int.add_emod, Int.mul_emod, Int.emod_emod, ← Int.mul_emod, Int.mul_emod (geo t n % m), Int.emod_emod, ← Int.mul_emod, ← Int.add_emod, Int.mul_comm (geo t n)]
def pStepsL : V → Hp → VK → XK → Prop := fun a H Q _ => ∃ (d : Addr) (n : Nat), a = .ref d ∧ Deck H d n ∧ n + 5 ≤ 100000000 ∧ ∀ (H' : Hp) (v : Int), But d H H' → Deck H' d (n + 5) → Q (.int v) H'
def pTold3 (K : PySem.W.Frag) : V → V → V → Hp → VK → XK → Prop := fun a b c H Q _ => ∃ (r : Addr) (t p m s n : Int), a = .ref r ∧ b = .int s ∧ c = .int n ∧ SqT K H r [.int t, .int p, .int m] ∧ Rule t p m ∧
  (¬ (0 ≤ s ∧ s < m) → ∀ H' q, Same H H' → H q = none → H' q = some (.tup [.str "number", .int s]) → Q (.ref q) H') ∧
  (0 ≤ s ∧ s < m → 0 ≤ n → ∀ H' q, Same H H' → H q = none → H' q = some (.lst [.int (ahd t p m n.toNat s)]) → Q (.ref q) H') ∧
  (0 ≤ s ∧ s < m → n < 0 → Int.gcd t m = 1 → ∀ H' q y, Same H H' → H q = none → Back t p m (-n).toNat s y → H' q = some (.lst [.int y]) → Q (.ref q) H') ∧
  (0 ≤ s ∧ s < m → n < 0 → Int.gcd t m ≠ 1 → ∀ H' q, Same H H' → H q = none → H' q = some (.tup [.str "back"]) → Q (.ref q) H')
def pRight3 (K : PySem.W.Frag) : V → V → V → Hp → VK → XK → Prop := fun a b c H Q _ => ∃ (r : Addr) (t p m s n : Int), a = .ref r ∧ b = .int s ∧ c = .int n ∧ SqT K H r [.int t, .int p, .int m] ∧ Rule t p m ∧ 0 ≤ s ∧ s < m ∧ ∀ H', Same H H' → Q (.bl true) H'
theorem shp_s {x : Str} (h : PyData.canLay0 (.str x) = true) : SeqAt.shaped (.tuple [.str x]) = true := by
  show (PyData.canLay0 (.tuple [.str x]) && decide (PyData.depth (.tuple [.str x]) ≤ 64)) = true
  simp [PyData.canLay0, PyData.canLayAll0] at h ⊢
  exact ⟨h, of_decide_eq_true rfl⟩
theorem shp_back : SeqAt.shaped (.tuple [.str "back"]) = true := shp_s (by decide +kernel)
end Tw
namespace Tw
theorem pow_em (a m : Int) : ∀ k : Nat, (a % m) ^ k % m = a ^ k % m
  | 0 => by rw [Int.pow_zero, Int.pow_zero]
  | k + 1 => by rw [Int.pow_succ, Int.pow_succ, Int.mul_emod, pow_em a m k, Int.emod_emod, ← Int.mul_emod]
end Tw

/-! What stands before a number. -/
namespace Tw
open PySem PySem.Spec PyProof.Rows L2
/-- the least number whose next one is n -/
def Bef (t p m n x : Int) : Prop := 0 ≤ x ∧ x < m / (Int.gcd t m : Nat) ∧ (t * x + p) % m = n
theorem gcd_pos {t m : Int} (m0 : 0 < m) : 0 < (Int.gcd t m : Int) := by
  have : Int.gcd t m ≠ 0 := fun z => by
    have := (Int.gcd_eq_zero_iff.mp z).2
    omega
  omega
theorem gcd_parts {t m : Int} (m0 : 0 < m) : t = (Int.gcd t m : Nat) * (t / (Int.gcd t m : Nat)) ∧ m = (Int.gcd t m : Nat) * (m / (Int.gcd t m : Nat)) ∧ 0 < m / (Int.gcd t m : Nat) ∧ Int.gcd (t / (Int.gcd t m : Nat)) (m / (Int.gcd t m : Nat)) = 1 := by
  have g0 := gcd_pos (t := t) m0
  have d1 : ((Int.gcd t m : Nat) : Int) ∣ t := Int.gcd_dvd_left ..
  have d2 : ((Int.gcd t m : Nat) : Int) ∣ m := Int.gcd_dvd_right ..
  have e1 := Int.mul_ediv_cancel' d1
  have e2 := Int.mul_ediv_cancel' d2
  refine ⟨e1.symm, e2.symm, Int.ediv_pos_of_pos_of_dvd m0 (by omega) d2, ?_⟩
  have := Int.gcd_ediv_gcd_ediv_gcd (i := t) (j := m) (by omega)
  exact this
theorem bef_uniq {t p m n x y : Int} (m0 : 0 < m) (h : Bef t p m n x) (k : Bef t p m n y) : x = y := by
  obtain ⟨x0, x1, xe⟩ := h
  obtain ⟨y0, y1, ye⟩ := k
  obtain ⟨p1, p2, p3, p4⟩ := gcd_parts (t := t) m0
  have g0 := gcd_pos (t := t) m0
  generalize eg : ((Int.gcd t m : Nat) : Int) = g at *
  generalize et : t / g = t' at *
  generalize em : m / g = m' at *
  have e := Int.dvd_of_emod_eq_zero (Int.emod_eq_emod_iff_emod_sub_eq_zero.mp (xe.trans ye.symm))
  have e2 : g * m' ∣ g * (t' * (x - y)) := by
    rw [← p2, show g * (t' * (x - y)) = t * x + p - (t * y + p) by rw [p1]; grind]
    exact e
  have e3 : m' ∣ t' * (x - y) := Int.dvd_of_mul_dvd_mul_left (by omega) e2
  have e4 : m'.natAbs ∣ (x - y).natAbs := by
    have h1 := Int.natAbs_dvd_natAbs.mpr e3
    rw [Int.natAbs_mul] at h1
    exact Nat.Coprime.dvd_of_dvd_mul_left (show Nat.Coprime m'.natAbs t'.natAbs from Nat.Coprime.symm p4) h1
  have e5 : (x - y).natAbs = 0 := Nat.eq_zero_of_dvd_of_lt e4 (by omega)
  omega
/-- made by the inverse -/
theorem bef_of {t p m n v : Int} (m0 : 0 < m) (n0 : 0 ≤ n) (n1 : n < m) (hd : (n - p) % (Int.gcd t m : Nat) = 0) (hv : (t / (Int.gcd t m : Nat)) * v % (m / (Int.gcd t m : Nat)) = 1 % (m / (Int.gcd t m : Nat))) :
    Bef t p m n ((n - p) / (Int.gcd t m : Nat) * v % (m / (Int.gcd t m : Nat))) := by
  obtain ⟨p1, p2, p3, p4⟩ := gcd_parts (t := t) m0
  have g0 := gcd_pos (t := t) m0
  have c1 := Int.mul_ediv_cancel' (Int.dvd_of_emod_eq_zero hd)
  unfold Bef
  generalize ((Int.gcd t m : Nat) : Int) = g at *
  generalize t / g = t' at *
  generalize m / g = m' at *
  generalize (n - p) / g = c at *
  have xr := mod_bd (c * v) p3
  refine ⟨xr.1, xr.2, ?_⟩
  obtain ⟨e, he⟩ := Int.dvd_of_emod_eq_zero (Int.emod_eq_emod_iff_emod_sub_eq_zero.mp hv)
  have a1 := Int.mul_ediv_add_emod (c * v) m'
  generalize c * v / m' = d1 at *
  generalize c * v % m' = x at *
  have e1 : t * x + p = n + m * (c * e - t' * d1) := by
    have h1 : t' * v = 1 + m' * e := by omega
    have h2 : x = c * v - m' * d1 := by omega
    rw [h2, p1, p2]
    have h3 : g * t' * (c * v - m' * d1) + p = g * c * (t' * v) - g * t' * m' * d1 + p := by grind
    rw [h3, h1]
    have h4 : g * c * (1 + m' * e) - g * t' * m' * d1 + p = g * c + p + g * m' * (c * e - t' * d1) := by grind
    rw [h4, c1]
    omega
  rw [e1, Int.add_mul_emod_self_left]
  exact Int.emod_eq_of_lt n0 n1
theorem no_bef {t p m n x : Int} (m0 : 0 < m) (hd : (n - p) % (Int.gcd t m : Nat) ≠ 0) : (t * x + p - n) % m ≠ 0 := by
  intro h
  apply hd
  obtain ⟨c, hc⟩ := Int.dvd_of_emod_eq_zero h
  obtain ⟨p1, p2, p3, p4⟩ := gcd_parts (t := t) m0
  refine Int.emod_eq_zero_of_dvd ⟨t / (Int.gcd t m : Nat) * x - m / (Int.gcd t m : Nat) * c, ?_⟩
  generalize ((Int.gcd t m : Nat) : Int) = g at *
  generalize t / g = t' at *
  generalize m / g = m' at *
  subst p1
  grind
/-- which numbers lead to n -/
theorem bef_iff {t p m n x y : Int} (m0 : 0 < m) (n0 : 0 ≤ n) (n1 : n < m) (hx : Bef t p m n x) : (t * y + p - n) % m = 0 ↔ y % (m / (Int.gcd t m : Nat)) = x := by
  obtain ⟨x0, x1, xe⟩ := hx
  obtain ⟨p1, p2, p3, p4⟩ := gcd_parts (t := t) m0
  have g0 := gcd_pos (t := t) m0
  generalize eg : ((Int.gcd t m : Nat) : Int) = g at *
  generalize et : t / g = t' at *
  generalize em : m / g = m' at *
  have xe2 : m ∣ t * x + p - n := Int.dvd_of_emod_eq_zero (by
    rw [← Int.emod_eq_emod_iff_emod_sub_eq_zero, xe]
    exact (Int.emod_eq_of_lt n0 n1).symm)
  constructor
  · intro h
    have e := Int.dvd_sub (Int.dvd_of_emod_eq_zero h) xe2
    have e2 : g * m' ∣ g * (t' * (y - x)) := by
      rw [← p2, show g * (t' * (y - x)) = t * y + p - n - (t * x + p - n) by rw [p1]; grind]
      exact e
    have e3 : m' ∣ t' * (y - x) := Int.dvd_of_mul_dvd_mul_left (by omega) e2
    have e4 : m' ∣ y - x := by
      refine Int.natAbs_dvd_natAbs.mp ?_
      have h1 := Int.natAbs_dvd_natAbs.mpr e3
      rw [Int.natAbs_mul] at h1
      exact Nat.Coprime.dvd_of_dvd_mul_left (show Nat.Coprime m'.natAbs t'.natAbs from Nat.Coprime.symm p4) h1
    have e5 : y % m' = x % m' := Int.emod_eq_emod_iff_emod_sub_eq_zero.mpr (Int.emod_eq_zero_of_dvd e4)
    rw [e5]
    exact Int.emod_eq_of_lt x0 x1
  · intro h
    have a1 := Int.mul_ediv_add_emod y m'
    rw [h] at a1
    obtain ⟨c, hc⟩ := xe2
    refine Int.emod_eq_zero_of_dvd ⟨c + t' * (y / m'), ?_⟩
    generalize y / m' = d at *
    subst a1
    have : t * (m' * d + x) + p - n = (t * x + p - n) + t * m' * d := by grind
    rw [this, hc]
    conv => lhs; rhs; rw [p1]
    have h2 : g * t' * m' * d = (g * m') * (t' * d) := by grind
    rw [h2, ← p2]
    grind
/-- the numbers of a range with a given rest -/
theorem filter_eq_range (x : Nat) : ∀ m : Nat, (List.range m).filter (fun i => decide (i = x)) = if x < m then [x] else []
  | 0 => by simp
  | m + 1 => by
    rw [List.range_succ, List.filter_append, filter_eq_range x m]
    by_cases h : x < m
    · rw [if_pos h, if_pos (by omega)]
      simp
      omega
    · rw [if_neg h]
      by_cases h2 : m = x
      · subst h2
        simp
      · rw [if_neg (by omega)]
        simp [h2]
theorem filter_rest {m x : Nat} (hx : x < m) : ∀ g : Nat, (List.range (g * m)).filter (fun i => decide (i % m = x)) = (List.range g).map fun k => k * m + x
  | 0 => by simp
  | g + 1 => by
    rw [Nat.add_mul, Nat.one_mul, List.range_add, List.filter_append, filter_rest hx g, List.range_succ, List.map_append]
    congr 1
    rw [List.filter_map]
    have : ((fun i => decide (i % m = x)) ∘ fun j => g * m + j) = fun j => decide (j % m = x) := by
      funext j
      simp [Nat.mul_add_mod_self_right]
    rw [this]
    have h2 : (List.range m).filter (fun j => decide (j % m = x)) = (List.range m).filter (fun j => decide (j = x)) := by
      apply List.filter_congr
      intro j hj
      rw [Nat.mod_eq_of_lt (List.mem_range.mp hj)]
    rw [h2, filter_eq_range, if_pos hx]
    rfl
def pBefore (K : PySem.W.Frag) (CN : Addr) : V → V → Hp → VK → XK → Prop := fun a b H Q E => ∃ (r : Addr) (t p m n : Int), a = .ref r ∧ b = .int n ∧ SqT K H r [.int t, .int p, .int m] ∧ Rule t p m ∧ (¬ (0 ≤ n ∧ n < m) → Bad CN n H E) ∧
  (0 ≤ n ∧ n < m → (n - p) % (Int.gcd t m : Nat) ≠ 0 → ∀ H' q, Same H H' → H q = none → H' q = some (.tup [.int 0, .non]) → Q (.ref q) H') ∧
  (0 ≤ n ∧ n < m → (n - p) % (Int.gcd t m : Nat) = 0 → ∀ H' q x, Same H H' → H q = none → Bef t p m n x → H' q = some (.tup [.int (Int.gcd t m : Nat), .int x]) → Q (.ref q) H')
end Tw

/-! all(test for x in ..): the test is read in the generator's own frame, by the rules of the layer. -/
namespace Tw
open PySem PySem.Spec PyProof.Rows L2 GenW
/-- the generator's frame as a context -/
abbrev gxX (X : Cx) (s : Shared) (H : Hp) (cenv : Env) (fp : List Addr) (A : Around) : Cx :=
  { X with A := A, s_0 := s, H_0 := H, env := cenv, outer := X.stack, stack := cenv :: X.stack, ex := fp, fn := fun _ => false, pn := [], xe := fun _ _ => False }
def noneS (N : List Str) : L2.St := List.replicate N.length none
/-- the generator sleeps: only the table of generators changes -/
structure Sl (s s' : Shared) : Prop where
  hp : s'.heap = s.heap
  os : s'.os = s.os
  bare : AllBare s'.gens
  sz : s.gens.size ≤ s'.gens.size
theorem bare_set {s : Shared} {g : Nat} {x : GenState} (h : AllBare s.gens) (hx : x.bare = true) : AllBare (s.setGen g x).gens := by
  intro y hy
  have e : (s.setGen g x).gens = s.gens.setIfInBounds g x := rfl
  rw [e] at hy
  obtain ⟨i, hi, rfl⟩ := Array.mem_iff_getElem.mp hy
  rw [Array.getElem_setIfInBounds]
  · split
    · exact hx
    · exact h _ (Array.getElem_mem _)
  · simpa using hi
theorem set_get {s : Shared} {g : Nat} {x : GenState} (h : g < s.gens.size) : (s.setGen g x).gens[g]? = some x := setGen_self (Array.getElem?_eq_getElem h)
theorem _root_.L2.Inv.slept {X : Cx} {pins : List (Addr × Obj)} {σ : L2.St} {H : Hp} {s s' : Shared} (I : L2.Inv X pins σ H s) (z : Sl s s') : L2.Inv X pins σ H s' :=
  I.call' (ch := []) z.os (by rw [z.hp]; exact Un.kept fun _ _ e => e) (by rw [z.hp]; exact I.hok) z.bare fun _ hb => by cases hb
section
variable {G : Cx} {cenv : Env} {fp : List Addr} {A1 : Around} {it ga : Addr} {gi : Nat} {go : Obj} {tn : Nat → Heap → Prop} {J : It} {elt iter : Expr} {x : Str} {px gpos : Pos} {scope : Scope} {ix : Nat} {te : TE} {W : Nat → Hp → Prop} {Qt Qf : Hp → Prop} {N : Nat}
abbrev geE (elt iter : Expr) (x : Str) (px : Pos) (scope : Scope) (gpos : Pos) : Expr := .GeneratorExp elt [⟨.Name x px, iter, [], 0⟩] scope gpos
/-- the loop's code -/
abbrev geC (elt iter : Expr) (x : Str) (px : Pos) (scope : Scope) (gpos : Pos) (it : Addr) (cenv : Env) : Code := .compLoop (geE elt iter x px scope gpos) 0 (.ref it) .none cenv
abbrev geS (elt iter : Expr) (x : Str) (px : Pos) (scope : Scope) (gpos : Pos) (it : Addr) (cenv : Env) : Code := .compStart (geE elt iter x px scope gpos) 0 (.ref it) .none cenv
def gY (G : Cx) (gi : Nat) (pl : List (Addr × Obj)) (Qf : Hp → Prop) : Protocol := fun _ _ v s kap =>
  gi < s.gens.size ∧ ∃ (b : Bool) (σ : L2.St) (H : Hp), v = .bool b ∧ L2.Inv G pl σ H s ∧ (b = false → Qf H) ∧ (b = true → ∀ s', Sl s s' → kap (.send .none) s')
def gR (G : Cx) (pl : List (Addr × Obj)) (Qt : Hp → Prop) : GenEnd := fun _ _ r s => r = .ok .next ∧ ∃ (σ : L2.St) (H : Hp), L2.Inv G pl σ H s ∧ Qt H
/-- what G is -/
structure GeX (G : Cx) (fp : List Addr) (A1 : Around) (cenv : Env) (c : Code) : Prop where
  calm : G.calm = true
  A : G.A = A1.over c []
  env : G.env = cenv
  xe : G.xe = fun _ _ => False
  pn : G.pn = []
  ex : G.ex = fp
theorem none_set {N : List Str} {σ : L2.St} (hl : σ.length = N.length) (i : Nat) (u : V) (h : (noneS N)[i]? = some (some u)) : σ[i]? = some (some u) := by
  unfold noneS at h
  rw [List.getElem?_replicate] at h
  split at h <;> cases h
theorem seg_ge (gx : GeX G fp A1 cenv (geC elt iter x px scope gpos it cenv)) (hN : G.N.Nodup) (hi : G.N[ix]? = some x) (hx : scope.names.lookup x = some .local) (hsc : cenv.scope = scope) (hco : scope.isCoroutine = false)
    (T : Turn G.prog G.w G.K (.Name x px) J fp it tn) (hga : ga ∉ fp) (pe : PE G elt te)
    (hstop : ∀ H, W N H → J.stop N H ∧ Qt H)
    (hgo : ∀ i H, i < N → W i H → J.go i H ∧ ∀ v H', J.yld i H v H' → te ((noneS G.N).set ix (some v)) H' fun y H2 => ∃ b, y = .bl b ∧ (b = true → W (i + 1) H2) ∧ (b = false → Qf H2)) :
    ∀ (n i : Nat) (s₀ s : Shared) (H : Hp), i + n = N → L2.Inv G [(ga, go)] (noneS G.N) H s → tn i s.heap → (∀ b ∈ fp, H b = none) → W i H → gi < s.gens.size →
      Seg (model G.prog G.w) A1 (gR G [(ga, go)] Qt) (gY G gi [(ga, go)] Qf) n s₀ (geC elt iter x px scope gpos it cenv) ((model G.prog G.w).den (geC elt iter x px scope gpos it cenv)) [] s := by
  obtain ⟨calm, gA, gE, gxe, gpn, gex⟩ := gx
  have stat : ∀ {σ' : L2.St} {H' : Hp} {s' : Shared}, L2.Inv G [(ga, go)] σ' H' s' → (∀ b ∈ fp, H' b = none) → ∀ b ∈ fp, FpOk G [(ga, go)] H' b := fun {σ' H' s'} I' hn b hb => by
    have hb' : b ∈ G.ex := by rw [gex]; exact hb
    refine ⟨hn b hb, (I'.ok.exf b hb').1, I'.ok.exfs b hb', .inl hb', fun x c e => (I'.ok.exf b hb').2 x c e, fun p hp z => ?_⟩
    rw [gpn] at hp
    have e : p = (ga, go) := by simpa using hp
    have e2 : p.1 = ga := congrArg Prod.fst e
    exact hga (by rw [← e2, z]; exact hb)
  have pg : PG G (.Name x px) (gName ix) := pg_name hN hi (by rw [gE, hsc]; exact .inl hx) (.inr (by rw [gE, hsc]; exact hx))
  intro n
  induction n with
  | zero =>
    intro i s₀ s H hn I st nf w hgs
    obtain rfl : i = N := by omega
    show Seg _ A1 _ _ _ s₀ _ ((compTurn (geE elt iter x px scope gpos) 0 (.ref it) .none cenv).onRaise (leaving cenv)) [] s
    rw [compTurn_gen, Sem.onRaise_eq_wrap]
    refine seg_bind_wrap (wpAny_standAt ?_)
    obtain ⟨stop, qt⟩ := hstop H w
    have td := T.done G rfl rfl rfl calm i [(ga, go)] s _ H (fun _ _ => False) I (stat I nf) st stop
    rw [gA] at td
    refine seg_bind_wrap (thnF td fun r s1 ⟨hr, I1⟩ => ?_)
    subst hr
    exact seg_end (.ok .next) ⟨rfl, _, H, I1, qt⟩
  | succ n ih =>
    intro i s₀ s H hn I st nf w hgs
    show Seg _ A1 _ _ _ s₀ _ ((compTurn (geE elt iter x px scope gpos) 0 (.ref it) .none cenv).onRaise (leaving cenv)) [] s
    rw [compTurn_gen, Sem.onRaise_eq_wrap]
    refine seg_bind_wrap (wpAny_standAt ?_)
    obtain ⟨goes, step⟩ := hgo i H (by omega) w
    have ti := T.item G rfl rfl rfl calm i [(ga, go)] s _ H (fun _ _ => False) I (stat I nf) st goes
    rw [gA] at ti
    refine seg_bind_wrap (wpAny_gsz hgs (thnF ti fun r s1 ⟨u, hr, h1⟩ z1 => ?_))
    subst hr
    refine seg_bind_wrap (wpAny_gsz z1 (thnF h1 fun _ s2 ⟨v, H2, I2, r2, y2, st2, n2⟩ z2 => ?_))
    have I2' := I2.pinned (stat I2 n2) (T.obj _ _ st2)
    have pr := pg.run _ s2 _ H2 v u (fun σ' H' => σ' = (noneS G.N).set ix (some v) ∧ H' = H2) I2' r2 ⟨rfl, rfl⟩
    rw [gA, gE, gxe] at pr
    refine seg_bind_wrap (wpAny_gsz z2 (thnF pr fun _ s3 ⟨σ3, H3, I3, e3, e4⟩ z3 => ?_))
    subst e3 e4
    simp only [List.forIn_nil]
    refine seg_bind_wrap (wpAny_pure ?_)
    simp only [if_true]
    have hy : ∀ v, yieldOut cenv v = yieldValue v := fun v => by simp only [yieldOut, hsc, hco, Bool.false_eq_true, if_false]
    simp only [hy]
    rw [Sem.bind_eq_wrap', Sem.bind_eq_wrap', Sem.wrap_wrap, Sem.wrap_wrap]
    have er := pe.run _ s3 _ H3 _ I3 (step v H3 y2)
    rw [gA, gE, gxe] at er
    refine seg_wrap (wpAny_gsz z3 (thnF er fun y s5 ⟨yv, H5, I5, r5, b, eb, wt, wf⟩ z5 => ?_))
    subst eb
    obtain rfl : y = .bool b := r5
    have I6 : L2.Inv G [(ga, go)] (noneS G.N) H5 s5 := (I5.unpinned (pins := [(ga, go)])).weak (by unfold noneS; rw [List.length_replicate]; exact I5.len.symm) (fun j u e => none_set I5.len j u e)
    have pin' : ∀ b ∈ fp, ∀ o, s2.heap.get? b = some o → s5.heap.get? b = some o ∧ H5 b = none := fun b hb o e =>
      let z := I5.pin (b, o) (List.mem_append_right _ (List.mem_append_right _ (mem_pinsAt hb e)))
      ⟨z.1, z.2.1⟩
    have st5 : tn (i + 1) s5.heap := T.keep _ _ _ st2 fun b hb o e => (pin' b hb o e).1
    have n5 : ∀ b ∈ fp, H5 b = none := fun b hb => by
      obtain ⟨o, e, _⟩ := T.obj _ _ st2 b hb
      exact (pin' b hb o e).2
    refine seg_at (seg_yield rfl rfl rfl ⟨z5, b, _, H5, rfl, I6, wf, fun hb s' sl => ?_⟩)
    exact seg_again rfl (ih (i + 1) s' s' H5 (by omega) (I6.slept sl) (by rw [sl.hp]; exact st5) n5 (wt hb) (Nat.lt_of_lt_of_le z5 sl.sz))
/-- the generator lies asleep, n turns at the most are left -/
structure Slp (G : Cx) (A1 : Around) (ga : Addr) (gi : Nat) (go : Obj) (Qt Qf : Hp → Prop) (n : Nat) (s : Shared) : Prop where
  gen : s.heap.IsGen ga gi
  lim : s.heap.NoLimit
  bare : AllBare s.gens
  goes : ∃ gs, s.gens[gi]? = some gs ∧ ∀ s', Sl s s' → gs.Goes (model G.prog G.w) A1 (gR G [(ga, go)] Qt) (gY G gi [(ga, go)] Qf) n (.send .none) s'
theorem sl_set {s : Shared} {g : Nat} {x : GenState} (h : AllBare s.gens) (hx : x.bare = true) : Sl s (s.setGen g x) := ⟨rfl, rfl, bare_set h hx, by rw [setGen_size]; exact Nat.le_refl _⟩
theorem loop_all {A : Around} {R : Result → Shared → Prop} (hh : A.handled = none) (hroom : A.depth < recursionLimit) (hgo : ∀ h : Heap, h.get? ga = some go → h.IsGen ga gi)
    (ht : ∀ σ H s, L2.Inv G [(ga, go)] σ H s → Qt H → R (.ok (.ret (.bool true))) s) (hf : ∀ σ H s, L2.Inv G [(ga, go)] σ H s → Qf H → R (.ok (.ret (.bool false))) s) :
    ∀ (n : Nat) (s : Shared), Slp G A.in1.in1 ga gi go Qt Qf n s → codeAny (model G.prog G.w) A (.builtin "all.loop" ⟨[.ref ga], []⟩) R s := by
  intro n
  induction n with
  | zero =>
    intro s S
    refine codeAny_builtin F.entry_all_loop ?_
    rw [Around.under_plainId F.plain_all_loop _]
    show wpAny _ A.in1 (pyNext (.ref ga) >>= _) _ _ s
    obtain ⟨gs, hgs, goes⟩ := S.goes
    refine wpAny_bind (wpAny_pyNext_genexpQ (P := fun _ _ s => ∃ (σ : L2.St) (H : Hp), L2.Inv G [(ga, go)] σ H s ∧ Qt H) hh S.lim hroom S.gen hgs (goes _ (sl_set S.bare rfl)) (fun v s1 gs' hb hv => ?_) fun s1 hp h' hk => ?_)
    · obtain ⟨z1, b, σ, H, rfl, I, qf, kap⟩ := hv
      refine wpAny_bind (wpAny_holding (wpAny_truthy_bool ?_))
      refine wpAny_bind (wpAny_letGo ?_)
      cases b with
      | true => exact (kap rfl s1 ⟨rfl, rfl, I.bare, Nat.le_refl _⟩).elim
      | false =>
        simp only [Bool.false_eq_true, if_false]
        refine wpAny_bind (wpAny_rule (wpAny_pure ?_))
        exact hf σ H _ (I.slept (sl_set I.bare hb)) (qf rfl)
    · obtain ⟨σ, H, I, qt⟩ := hp
      refine wpAny_bind (wpAny_rule (wpAny_pure ?_))
      exact ht σ H _ ((I.slept (sl_set (g := gi) (x := .finished) I.bare rfl)).call' (ch := []) rfl (Un.kept hk) ((I.slept (sl_set (g := gi) (x := .finished) I.bare rfl)).hok.kept hk) (bare_set I.bare rfl) fun _ hb => by cases hb) qt
  | succ n ih =>
    intro s S
    refine codeAny_builtin F.entry_all_loop ?_
    rw [Around.under_plainId F.plain_all_loop _]
    show wpAny _ A.in1 (pyNext (.ref ga) >>= _) _ _ s
    obtain ⟨gs, hgs, goes⟩ := S.goes
    refine wpAny_bind (wpAny_pyNext_genexpQ (P := fun _ _ s => ∃ (σ : L2.St) (H : Hp), L2.Inv G [(ga, go)] σ H s ∧ Qt H) hh S.lim hroom S.gen hgs (goes _ (sl_set S.bare rfl)) (fun v s1 gs' hb hv => ?_) fun s1 hp h' hk => ?_)
    · obtain ⟨z1, b, σ, H, rfl, I, qf, kap⟩ := hv
      refine wpAny_bind (wpAny_holding (wpAny_truthy_bool ?_))
      refine wpAny_bind (wpAny_letGo ?_)
      cases b with
      | true =>
        simp only [if_true]
        refine wpAny_pure ⟨plainId_quiet F.plain_all_loop _, ih _ ⟨?_, ?_, bare_set I.bare hb, gs', set_get z1, fun s' sl => ?_⟩⟩
        · exact hgo _ (I.pin (ga, go) (List.mem_append_right _ (List.mem_singleton.mpr rfl))).1
        · exact I.nolimit
        · exact kap rfl s' ⟨sl.hp, sl.os, sl.bare, Nat.le_trans (by rw [setGen_size]; exact Nat.le_refl _) sl.sz⟩
      | false =>
        simp only [Bool.false_eq_true, if_false]
        refine wpAny_bind (wpAny_rule (wpAny_pure ?_))
        exact hf σ H _ (I.slept (sl_set I.bare hb)) (qf rfl)
    · obtain ⟨σ, H, I, qt⟩ := hp
      refine wpAny_bind (wpAny_rule (wpAny_pure ?_))
      exact ht σ H _ ((I.slept (sl_set (g := gi) (x := .finished) I.bare rfl)).call' (ch := []) rfl (Un.kept hk) ((I.slept (sl_set (g := gi) (x := .finished) I.bare rfl)).hok.kept hk) (bare_set I.bare rfl) fun _ hb => by cases hb) qt
end
end Tw

/-! the rule: all(test for x in ..). -/
namespace Tw
open PySem PySem.Spec PyProof.Rows L2 GenW
section
variable {G : Cx} {cenv : Env} {fp : List Addr} {A1 : Around} {it ga : Addr} {gi : Nat} {go : Obj} {tn : Nat → Heap → Prop} {J : It} {elt iter : Expr} {x : Str} {px gpos : Pos} {scope : Scope} {Qt Qf : Hp → Prop} {n : Nat}
theorem seg_start {R : GenEnd} {Y : Protocol} {s₀ s : Shared} {M : Program} {w : World} {K : PySem.W.Frag} {tg : Expr} (T : Turn M w K tg J fp it tn) (st : tn 0 s.heap)
    (loop : Seg (model M w) A1 R Y n s₀ (geC elt iter x px scope gpos it cenv) ((model M w).den (geC elt iter x px scope gpos it cenv)) [] s) :
    Seg (model M w) A1 R Y n s₀ (geS elt iter x px scope gpos it cenv) ((model M w).den (geS elt iter x px scope gpos it cenv)) [] s := by
  show Seg _ A1 _ _ _ s₀ _ ((compStart (geE elt iter x px scope gpos) 0 (.ref it) .none cenv).onRaise (leaving cenv)) [] s
  unfold compStart
  rw [Sem.onRaise_eq_wrap]
  show Seg _ A1 _ _ _ s₀ _ ((ask >>= _).wrap _ _ _ _) [] s
  refine seg_bind_wrap (wpAny_askSetting ?_)
  split
  · exact seg_again rfl loop
  · refine seg_bind_wrap (wpAny_rule ?_)
    show Seg _ A1 _ _ _ s₀ _ ((standAt iter.pos >>= _).wrap _ _ _ _) [] s
    exact seg_bind_wrap (wpAny_standAt (seg_bind_wrap (T.self _ 0 s _ _ st (seg_again rfl loop))))
end
/-- the generator's scope: its one name, nothing captured -/
structure GeS (scope : Scope) (x : Str) : Prop where
  kind : scope.kind = .function
  co : scope.isCoroutine = false
  cell : ∀ y ∈ scope.names, y.2 ≠ .cell
  free : ∀ y ∈ scope.names, y.2 ≠ .free
  dot : scope.names.lookup (".0" : Str) = some NameKind.local
  loc : scope.names.lookup x = some .local
theorem clo_nil {cells : List (Str × Addr)} : ∀ {names : List (Str × NameKind)}, (∀ y ∈ names, y.2 ≠ .free) → ∀ acc, cloFrom cells names acc = acc
  | [], _, acc => rfl
  | (n, k) :: r, h, acc => by
    unfold cloFrom
    rw [if_neg (by have := h (n, k) List.mem_cons_self; simpa using this)]
    exact clo_nil (fun y hy => h y (List.mem_cons_of_mem _ hy)) acc
/-- its context at the start -/
theorem ge_start {X : Cx} {pins : List (Addr × Obj)} {σ : L2.St} {H : Hp} {s : Shared} {scope : Scope} {x : Str} {fp : List Addr} {A : Around} {code : Value} {m : Str → Option Value} {h' : Heap} {g' : Array GenState} {t' : Nat} {go : Obj}
    (I : L2.Inv X pins σ H s) (S : GeS scope x) (hA : A.handled = none) (hfr : A.frames = some (genEnv scope [] s.heap.objs.size code builtinsNs X.env :: X.stack)) (hfp : ∀ b ∈ fp, FpOk X pins H b ∧ b < s.heap.objs.size)
    (hn : h'.Ns s.heap.objs.size m) (hk : ∀ b o, s.heap.get? b = some o → h'.get? b = some o) (hsz : h'.objs.size = s.heap.objs.size + 1) (hfree : go.isFreed = false) (hgo : ∀ v, go.data ≠ .cell v) (hg : AllBare g') :
    L2.Inv (gxX X s H (genEnv scope [] s.heap.objs.size code builtinsNs X.env) fp A) [(h'.objs.size, go)] (noneS X.N) H { s with heap := h'.push go, gens := g', toks := t' } := by
  have kp : ∀ b o, s.heap.get? b = some o → (h'.push go).get? b = some o := fun b o e => Heap.get?_push_of_some _ (hk b o e)
  have ge : s.heap.objs.size ≤ h'.objs.size := by rw [hsz]; exact Nat.le_succ _
  have okG : (gxX X s H (genEnv scope [] s.heap.objs.size code builtinsNs X.env) fp A).Ok := by
    refine ⟨I.ok.mod, S.kind, I.ok.glob, rfl, Nat.le_refl _, fun y z c e1 e2 => ?_, fun y hy => ?_, fun y c z e => ?_, fun _ => hA, hfr, .inr ⟨rfl, rfl⟩, fun b hb => ⟨Nat.ne_of_lt (hfp b hb).2, fun y c e z => ?_⟩, I.bs, Nat.le_trans I.ok.bsz I.sz, fun b o e hb => ?_, fun b hb z => ?_, I.stack, I.stkFree⟩
    · cases e1
    · rcases hy with hy | hy
      · exact absurd rfl (S.cell _ (PySem.mem_of_lookup hy))
      · exact absurd rfl (S.free _ (PySem.mem_of_lookup hy))
    · cases e
    · cases e
    · rcases (hfp b hb).1.2.2.2.1 with z | z
      · exact I.ok.noex b o e z
      · exact absurd (Nat.lt_of_lt_of_le (Heap.lt_size e) (Nat.le_trans I.ok.bsz z)) (Nat.lt_irrefl _)
    · rcases List.mem_cons.mp (I.stkSub b z) with z | z
      · exact (hfp b hb).1.2.1 z
      · exact (hfp b hb).1.2.2.1 z
  refine ⟨okG, rfl, hg, Un.kept kp, ⟨m, hn.push _, fun i y av e1 e2 e3 => ?_⟩, fun y c e => ?_, I.hok.fresh (Nat.le_refl _), fun y c e => ?_, fun p hp => ?_, I.hok.kept kp, by unfold noneS; rw [List.length_replicate]⟩
  · unfold noneS at e2
    rw [List.getElem?_replicate] at e2
    split at e2 <;> cases e2
  · cases e
  · cases e
  · have e : p = (h'.objs.size, go) := by simpa using hp
    subst e
    refine ⟨Heap.get?_push_size _ hfree, I.hok.fresh ge, ?_, ?_, hgo⟩
    · show h'.objs.size ≠ s.heap.objs.size
      rw [hsz]
      exact Nat.succ_ne_self _
    · intro z
      rcases List.mem_cons.mp (I.stkSub _ z) with z | z
      · have := I.lt
        rw [← z] at this
        exact absurd (Nat.lt_of_lt_of_le this ge) (Nat.lt_irrefl _)
      · exact I.nofs ge z
/-- all(test for x in ..): W what stands ahead of turn i, of N -/
def tAllG (P : Addr) (NS : List Str) (ix : Nat) (wi : TI) (te : TE) : TE := fun σ H Q => wi σ H fun J H1 => GxR.TabG H1 P ∧ ∃ (N : Nat) (W : Nat → Hp → Prop), (∀ H2, GxR.Tabbed P H1 H2 → W 0 H2) ∧ (∀ H, W N H → J.stop N H ∧ Q (.bl true) H) ∧
  ∀ i H, i < N → W i H → J.go i H ∧ ∀ v H', J.yld i H v H' → te ((noneS NS).set ix (some v)) H' fun y H2 => ∃ b, y = .bl b ∧ (b = true → W (i + 1) H2) ∧ (b = false → Q (.bl false) H2)
theorem pe_allG {X : Cx} {c P : Addr} {elt iter : Expr} {x : Str} {px p pos gpos : Pos} {scope : Scope} {wi : TI} {te : TE} {k ix : Nat} (hc : X.calm = true) (hN : X.N.Nodup) (hi : X.N[ix]? = some x) (hr : Room (k + 1) X.A) (hg : Gl X "all") (hm : X.mg "all" = none)
    (hb : bootBuiltins "all" = some (.builtin "all")) (TB : GxR.TabB X.base X.mg c P) (hcode : X.env.code = .ref c) (S : GeS scope x) (hit : PI X (.Name x px) iter wi)
    (hel : ∀ (s : Shared) (H : Hp) (C : Addr) (code : Value) (fp : List Addr) (A : Around), Room k A → PE (gxX X s H (genEnv scope [] C code builtinsNs X.env) fp A) elt te)
    (hs : ∀ v, genFold iter X.env v = pure v)
    (he : starEach [geE elt iter x px scope gpos] X.env = (false, eval (geE elt iter x px scope gpos) X.env) :: starEach [] X.env := by rfl) :
    PE X (.Call (.Name "all" p) [geE elt iter x px scope gpos] [] pos) (tAllG P X.N ix wi te) := by
  refine ⟨fun pins s σ H Q I h => ?_⟩
  refine wpAny_Call_Name_kw (ld_blt I hg hm hb ?_)
  refine PyProof.Rows.callWith_builtin1 ?_ he (by rfl)
  rw [he]
  show wpAny _ _ (spliced ((false, eval (geE elt iter x px scope gpos) X.env) :: backTo pos (starEach [] X.env))) _ _ s
  refine Calls.spliced_cons ?_
  have hcl : closureFor scope X.env = pure [] := by
    rw [closure_ok (env := X.env) (fun y hy e => absurd e (S.free y hy)), clo_nil S.free]
  refine wpAny_GeneratorExp_make S.co hcl S.cell S.dot S.kind (by have := hr.dp; omega) ?_ hs
  refine thn (hit.run pins s σ H _ I h) fun xv s1 hx => thn hx fun itv s2 h2 => ?_
  obtain ⟨it, fp, tn, J, H2, rfl, I2, T, st2, f2, ⟨ps, hP, ht⟩, N, W, w0, hstop, hgo⟩ := h2
  refine ⟨I2.nolimit, ?_⟩
  have hPs : s2.heap.get? P = some { cls := .none, data := .fields ps } := I2.hok P _ hP
  have cd : PySem.W.CodeHd s2.heap c P := TB.code.keeps fun b u e => I2.bk b u e
  have cont : ∀ (code : Value) (h3 : Heap) (tk : Nat) (ps' : Array Value), Heap.ExtBut P s2.heap h3 → s2.heap.objs.size ≤ h3.objs.size → h3.get? P = some { cls := .none, data := .fields ps' } → (∃ more, ps' = ps ++ more) → TriplesOk ps'.toList →
      wpAny (model X.prog X.w) X.A (builtinsFor X.env.globals X.env.builtins) (fun bi s₄ =>
        ∀ h', h'.Ns s₄.heap.objs.size (fun y => if y = ".0" then some (.ref it) else none) → Heap.SameBut s₄.heap.objs.size (s₄.heap.push { cls := .type "frame", data := .dict #[] }) h' →
          wpAny (model X.prog X.w) X.A (spliced (backTo pos (starEach [] X.env))) (fun vs s' => wpAny (model X.prog X.w) X.A (call (.builtin "all") (Value.ref h'.objs.size :: vs)) (EP X pins σ Q) X.xe s') X.xe
          { s₄ with
            gens := s₄.gens.push (.fresh (.compStart (geE elt iter x px scope gpos) 0 (.ref it) .none (genEnv scope [] s₄.heap.objs.size code bi X.env))),
            toks := s₄.toks + 1 + 1 + 1,
            heap := h'.push { cls := .type "generator", data := .fields #[.int s₄.gens.size 0, .str "<genexpr>" (s₄.toks + 1), .str (X.env.qual ++ "<genexpr>") (s₄.toks + 1 + 1)] } }) X.xe { s2 with heap := h3, toks := tk } := by
    intro code h3 tk ps' hx hsz hP3 ⟨more, em⟩ ht3
    obtain ⟨bm, ob, e1, e2, e3, e4, e5, e6, e7, e8⟩ := TB.bm
    have keep3 : ∀ b u, b ≠ P → s2.heap.get? b = some u → h3.get? b = some u := fun b u hb e => hx b u hb e
    refine wpAny_builtinsFor (m := X.mg) (by rw [I2.ok.glob]; exact (I2.mod.glob.keeps I2.bk).extBut hx TB.gP) e1 e2 (keep3 _ _ e4 (I2.bk _ _ e5)) e6 e7 e8 ?_
    intro h' hn' hs'
    subst em
    have I4 : L2.Inv X pins σ (upd H2 P (.tbl (ps ++ more))) { s2 with heap := h3, gens := s2.gens, drawn := s2.drawn, toks := tk } := GxR.inv_tab I2 hP keep3 hP3 I2.bare
    have fl : ∀ b ∈ fp, b < s2.heap.objs.size := fun b hb => by
      obtain ⟨o, e, _⟩ := T.obj _ _ st2 b hb
      exact Heap.lt_size e
    have fP : ∀ b ∈ fp, b ≠ P := fun b hb z => by
      have := (f2 b hb).1
      rw [z, hP] at this
      cases this
    have f4 : ∀ b ∈ fp, FpOk X pins (upd H2 P (.tbl (ps ++ more))) b ∧ b < h3.objs.size := fun b hb => ⟨⟨by rw [upd_ne (fP b hb)]; exact (f2 b hb).1, (f2 b hb).2⟩, Nat.lt_of_lt_of_le (fl b hb) hsz⟩
    have hs1 : h'.objs.size = h3.objs.size + 1 := by
      have := hs'.1
      rw [this]
      exact Heap.size_push ..
    have kh : ∀ b o, h3.get? b = some o → h'.get? b = some o := fun b o e => hs'.extBut b o (Nat.ne_of_lt (Heap.lt_size e)) (Heap.get?_push_of_some _ e)
    have IG := ge_start (A := X.A.in1.in1.over (geC elt iter x px scope gpos it (genEnv scope [] h3.objs.size code builtinsNs X.env)) []) (code := code) (x := x) (scope := scope) (t' := tk + 1 + 1 + 1) (g' := s2.gens.push (.fresh (.compStart (geE elt iter x px scope gpos) 0 (.ref it) .none (genEnv scope [] h3.objs.size code builtinsNs X.env))))
      (go := { cls := .type "generator", data := .fields #[.int s2.gens.size 0, .str "<genexpr>" (tk + 1), .str (X.env.qual ++ "<genexpr>") (tk + 1 + 1)] }) I4 S hr.hd (by
        show pushEnvs [genEnv scope [] h3.objs.size code builtinsNs X.env] (pushEnvs [] X.A.frames) = _
        rw [I2.ok.frames]
        rfl) f4 hn' kh hs1 rfl (fun v z => by cases z) (I2.bare.push rfl)
    refine Calls.spliced_nil ?_
    have back : ∀ (σ' : L2.St) (H' : Hp) (s' : Shared), L2.Inv (gxX X { s2 with heap := h3, gens := s2.gens, drawn := s2.drawn, toks := tk } (upd H2 P (.tbl (ps ++ more))) (genEnv scope [] h3.objs.size code builtinsNs X.env) fp (X.A.in1.in1.over (geC elt iter x px scope gpos it (genEnv scope [] h3.objs.size code builtinsNs X.env)) []))
        [(h'.objs.size, { cls := .type "generator", data := .fields #[.int s2.gens.size 0, .str "<genexpr>" (tk + 1), .str (X.env.qual ++ "<genexpr>") (tk + 1 + 1)] })] σ' H' s' → L2.Inv X pins σ H' s' := fun σ' H' s' I' =>
      I4.call' (ch := fp) I'.os I'.base I'.hok I'.bare fun b hb => ⟨(f4 b hb).1.2.2.2.1, (f4 b hb).1.2.1, (f4 b hb).1.2.2.2.2.1, (f4 b hb).1.2.2.2.2.2⟩
    have room : Room k (X.A.in1.in1.over (geC elt iter x px scope gpos it (genEnv scope [] h3.objs.size code builtinsNs X.env)) []) := by
      have e1 : (X.A.in1.in1.over (geC elt iter x px scope gpos it (genEnv scope [] h3.objs.size code builtinsNs X.env)) []).depth = X.A.depth + 1 := rfl
      have e2 : (X.A.in1.in1.over (geC elt iter x px scope gpos it (genEnv scope [] h3.objs.size code builtinsNs X.env)) []).units ≤ X.A.units + 5 := Nat.le_of_eq rfl
      have r1 := hr.dp
      have r2 := hr.un
      exact ⟨hr.hd, by rw [e1]; omega, by omega⟩
    have st5 : tn 0 (h'.push { cls := .type "generator", data := .fields #[.int s2.gens.size 0, .str "<genexpr>" (tk + 1), .str (X.env.qual ++ "<genexpr>") (tk + 1 + 1)] }) := T.keep _ _ _ st2 fun b hb o e => Heap.get?_push_of_some _ (kh b o (keep3 b o (fP b hb) e))
    have hgen : ∀ h : Heap, h.get? h'.objs.size = some { cls := .type "generator", data := .fields #[.int s2.gens.size 0, .str "<genexpr>" (tk + 1), .str (X.env.qual ++ "<genexpr>") (tk + 1 + 1)] } → h.IsGen h'.objs.size s2.gens.size := fun h e => ⟨_, _, _, e, rfl, rfl, rfl⟩
    have hga : h'.objs.size ∉ fp := fun z => by
      have := (f4 _ z).2
      rw [hs1] at this
      exact absurd (Nat.lt_trans (Nat.lt_succ_self _) this) (Nat.lt_irrefl _)
    refine call_function_tree F.kind_all F.plain_all F.entry_all (F.args_all1 _) ?_
    unfold Builtin.«all»
    refine wpAny_bind (m := oneArg "all" _) (wpAny_pure ?_)
    refine wpAny_bind (wpAny_pyIter_gen (g := s2.gens.size) (hgen _ (Heap.get?_push_size _ rfl)) ?_)
    refine wpAny_pure ⟨plainId_quiet F.plain_all_loop _, ?_⟩
    refine loop_all (G := gxX X { s2 with heap := h3, gens := s2.gens, drawn := s2.drawn, toks := tk } (upd H2 P (.tbl (ps ++ more))) (genEnv scope [] h3.objs.size code builtinsNs X.env) fp (X.A.in1.in1.over (geC elt iter x px scope gpos it (genEnv scope [] h3.objs.size code builtinsNs X.env)) []))
      (Qt := fun H => Q (.bl true) H) (Qf := fun H => Q (.bl false) H) hr.hd (by have := hr.dp; omega) hgen (fun σ' H' s' I' q' => ⟨.bl true, H', back σ' H' s' I', rfl, q'⟩) (fun σ' H' s' I' q' => ⟨.bl false, H', back σ' H' s' I', rfl, q'⟩) N _ ⟨hgen _ (Heap.get?_push_size _ rfl), IG.nolimit, I2.bare.push rfl, _, Array.getElem?_push_size .., fun s' sl => ⟨rfl, ?_⟩⟩
    have sz' : s2.gens.size < s'.gens.size := by
      have := sl.sz
      have e : (s2.gens.push (.fresh (.compStart (geE elt iter x px scope gpos) 0 (.ref it) .none (genEnv scope [] h3.objs.size code builtinsNs X.env)))).size = s2.gens.size + 1 := Array.size_push ..
      exact Nat.lt_of_lt_of_le (Nat.lt_of_lt_of_le (Nat.lt_succ_self _) (Nat.le_of_eq e.symm)) this
    have st6 : tn 0 s'.heap := by rw [sl.hp]; exact st5
    exact seg_start T st6 (seg_ge (G := gxX X { s2 with heap := h3, gens := s2.gens, drawn := s2.drawn, toks := tk } (upd H2 P (.tbl (ps ++ more))) (genEnv scope [] h3.objs.size code builtinsNs X.env) fp (X.A.in1.in1.over (geC elt iter x px scope gpos it (genEnv scope [] h3.objs.size code builtinsNs X.env)) []))
      (ix := ix) ⟨hc, rfl, rfl, rfl, rfl, rfl⟩ hN hi S.loc rfl S.co T hga (hel _ _ _ _ _ _ room) hstop hgo N 0 s' s' _ (Nat.zero_add N) (IG.slept sl) st6 (fun b hb => (f4 b hb).1.1) (w0 _ ⟨⟨ps ++ more, upd_same, ht3⟩, fun b hb => upd_ne hb⟩) sz')
  cases hf : codeAmong gpos ps.toList with
  | none =>
    refine wpAny_genexprCodeX hcode (cd.code hPs ht) (cd.tab hPs) hf fun c' h' tk hx hge hlt hco' _ htab' _ => ?_
    obtain ⟨o1, vs, f1, tf, fl, tg, inF, tx, tt, op, _, _, _, _, _, _, _, _, _, htr, _⟩ := hco'
    exact cont _ h' tk _ hx (Nat.le_trans hge (Nat.le_of_lt hlt)) htab'.2 ⟨_, rfl⟩ htr
  | some cv =>
    refine wpAny_genexprCode_hit hcode (cd.code hPs ht) hf ?_
    exact cont cv s2.heap s2.toks ps (Heap.ExtBut.refl _ _) (Nat.le_refl _) hPs ⟨#[], by simp⟩ ht
end Tw

/-! A rule's text: figures, words; defs that hold a generator expression. -/
namespace Tw
open PySem PySem.Spec PyProof.Rows L2
open SX (S)
/-! ### a def whose code object is known -/
def TopC (K : PySem.W.Frag) (mg : Str → Option Value) (x : Str) (st : Stmt) (ps : List Str) (c : Addr) : Prop :=
  ∃ (f : Addr) (oc : Value) (od : Option Addr) (kV doc pm : Value) (an : Option Addr) (ct : Value) (osl : Array (Option Value)), K.lookup f = some ⟨oc, od, .func (PySem.W.fnOf x x (defArgs st) (defBody st) (defScope st) .none kV doc pm an (.ref c) ct), osl⟩ ∧ PySem.W.codeIn K (.ref c) x = true ∧ PySem.W.keepIn K (.ref f) = true ∧ mg x = some (.ref f) ∧
    Binds K (PySem.W.fnOf x x (defArgs st) (defBody st) (defScope st) .none kV doc pm an (.ref c) ct) ps []
theorem topC_mk {K : PySem.W.Frag} {h : Heap} {mg : Str → Option Value} {x : Str} {st : Stmt} {ps : List Str} {f c : Addr} {oc : Value} {od an : Option Addr} {sl : Array (Option Value)} {kV dc pm ct : Value} (X : K.In h) (G : h.Ns mainGlobals mg)
    (a : PySem.W.nsIn K mainGlobals x = some (some (.ref f))) (l : K.lookup f = some ⟨oc, od, .func (PySem.W.fnOf x x (defArgs st) (defBody st) (defScope st) .none kV dc pm an (.ref c) ct), sl⟩) (cd : PySem.W.codeIn K (.ref c) x = true) (k : PySem.W.keepIn K (.ref f) = true)
    (hb : ∀ (kV doc pm : Value) (an : Option Addr) (cdv ct : Value) (us : List Value), us.length = ps.length → bindArgs (PySem.W.fnOf x x (defArgs st) (defBody st) (defScope st) .none kV doc pm an cdv ct) ⟨us, []⟩ = pure (ps.zip us)) : TopC K mg x st ps c :=
  ⟨f, oc, od, kV, dc, pm, an, ct, sl, l, cd, k, PySem.W.mg_of X G a, .all (hb kV dc pm an (.ref c) ct)⟩
section
variable {P : Program} {w : World} {K : PySem.W.Frag} {mg : Str → Option Value} {base : Heap} {x : Str} {st : Stmt} {N : List Str} {k : Nat} {c : Addr}
theorem TopC.ok1 {a : Str} {p : V → Hp → VK → XK → Prop} (D : TopC K mg x st [a] c) (Sc : FnScope N [a] (defScope st))
    (hbody : ∀ (f : Addr) (A : Around) (outer : List Env) (s : Shared) (H : Hp) (v1 : V) (Q : VK) (E : XK), Room k (A.deeper (envOfC x (defScope st) s.heap.objs.size f (.ref c))) → p v1 H Q E →
      ∃ t, PSs (cxOf CX0 P w K mg base N x (defScope st) f (.ref c) A outer s H E).nox (defBody st) t ∧ t { nx := fun _ H' => Q .non H', rt := Q } (start N [v1]) H) : Has P w K mg base CX0 (k + 1) x [a] (sp1 p) := by
  obtain ⟨f, oc, od, kV, doc, pm, an, ct, osl, lk, hcd, kp, g, b⟩ := D
  refine ⟨f, _, fn_of lk hcd Sc (fun vs H Q E h => by obtain ⟨_, rfl, _⟩ := h; rfl) fun A outer s H vs Q E hr h => ?_, g, kp, b, oc, od, osl, lk⟩
  obtain ⟨v1, rfl, h⟩ := h
  obtain ⟨t, h, q⟩ := hbody f A outer s H v1 Q E hr h
  exact ⟨t, h.nox, q⟩
theorem TopC.ok1X {a : Str} {p : V → Hp → VK → XK → Prop} (D : TopC K mg x st [a] c) (Sc : FnScope N [a] (defScope st))
    (hbody : ∀ (f : Addr) (A : Around) (outer : List Env) (s : Shared) (H : Hp) (v1 : V) (Q : VK) (E : XK), Room k (A.deeper (envOfC x (defScope st) s.heap.objs.size f (.ref c))) → p v1 H Q E →
      ∃ t, PSs (cxOf (L2.CX P w) P w K mg base N x (defScope st) f (.ref c) A outer s H E) (defBody st) t ∧ t { nx := fun _ H' => Q .non H', rt := Q } (start N [v1]) H) : Has P w K mg base (L2.CX P w) (k + 1) x [a] (sp1 p) := by
  obtain ⟨f, oc, od, kV, doc, pm, an, ct, osl, lk, hcd, kp, g, b⟩ := D
  refine ⟨f, _, fn_of lk hcd Sc (fun vs H Q E h => by obtain ⟨_, rfl, _⟩ := h; rfl) fun A outer s H vs Q E hr h => ?_, g, kp, b, oc, od, osl, lk⟩
  obtain ⟨v1, rfl, h⟩ := h
  exact hbody f A outer s H v1 Q E hr h
end
/-! ### figures -/
def dig (c : Nat) : Bool := decide (48 ≤ c) && decide (c ≤ 57)
def figs (l : List Nat) : Bool := !l.isEmpty && l.all dig && (decide (l = [48]) || decide (l.head? ≠ some 48))
abbrev tenS : List Nat := [48, 49, 50, 51, 52, 53, 54, 55, 56, 57]
theorem dig_in (c : Nat) : decide (c ∈ tenS) = dig c := by
  unfold dig
  rw [Bool.eq_iff_iff, decide_eq_true_eq, Bool.and_eq_true, decide_eq_true_eq, decide_eq_true_eq]
  constructor
  · intro h
    simp only [tenS, List.mem_cons, List.not_mem_nil, or_false] at h
    omega
  · intro h
    simp only [tenS, List.mem_cons, List.not_mem_nil, or_false]
    omega
def pFig (P : Addr) : V → Hp → VK → XK → Prop := fun a H Q _ => ∃ l : List Nat, a = .str (S l) ∧ l.length ≤ 100000 ∧ GxR.TabG H P ∧ ∀ H', GxR.Tabbed P H H' → Q (.bl (figs l)) H'
theorem tabbed_refl {P : Addr} {H : Hp} (h : GxR.TabG H P) : GxR.Tabbed P H H := ⟨h, fun _ _ => rfl⟩
theorem tabbed_trans {P : Addr} {H H1 H2 : Hp} (a : GxR.Tabbed P H H1) (b : GxR.Tabbed P H1 H2) : GxR.Tabbed P H H2 := ⟨b.1, fun c hc => (b.2 c hc).trans (a.2 c hc)⟩
/-! ### words -/
def wds (a : List Nat) : List (List Nat) := TL.spl [32] 0 [] a
theorem split_wds (a : List Nat) : Txt.split (S a) (Str.ofString " ") = (wds a).map S := by
  have e : Str.ofString " " = S [32] := by decide
  rw [e]
  exact SX.split_S (by simp) (by decide)
theorem spl_len (b : List Nat) : ∀ (l : List Nat) (k : Nat) (acc : List Nat), ∀ w ∈ TL.spl b k acc l, w.length ≤ acc.length + l.length
  | [], k, acc, w, h => by
    have e : TL.spl b k acc [] = [acc] := by cases k <;> rfl
    rw [e, List.mem_singleton] at h
    rw [h]
    exact Nat.le_add_right _ _
  | c :: r, 0, acc, w, h => by
    unfold TL.spl at h
    by_cases z : TL.pre b (c :: r) = true
    · rw [if_pos z] at h
      rcases List.mem_cons.mp h with e | e
      · rw [e]; exact Nat.le_add_right _ _
      · have := spl_len b r _ [] w e
        have e1 : ([] : List Nat).length = 0 := rfl
        have e2 : (c :: r).length = r.length + 1 := rfl
        omega
    · rw [if_neg z] at h
      have := spl_len b r _ _ w h
      rw [List.length_append] at this
      have e1 : [c].length = 1 := rfl
      have e2 : (c :: r).length = r.length + 1 := rfl
      omega
  | c :: r, k + 1, acc, w, h => by
    unfold TL.spl at h
    have := spl_len b r k acc w h
    have e2 : (c :: r).length = r.length + 1 := rfl
    omega
theorem wds_len {a w : List Nat} (h : w ∈ wds a) : w.length ≤ a.length := by
  have := spl_len [32] a 0 [] w h
  have e1 : ([] : List Nat).length = 0 := rfl
  omega
def vl (l : List Nat) : Int := ((NumText.digitsVal l : Nat) : Int)
theorem figs_int {l : List Nat} (h : figs l = true) (hl : l.length ≤ 4300) : intText? (S l) = some (vl l) := by
  unfold figs at h
  rw [Bool.and_eq_true, Bool.and_eq_true] at h
  refine SX.int_S h.1.2 ?_ hl
  intro z
  rw [z] at h
  exact absurd h.1.1 (by decide)
/-- the rule that a text tells -/
def readR (a : List Nat) : Option (Int × Int × Int) := match wds a with
  | [x, y, z] => if (figs x && figs y && figs z) = true then (if vl z ≤ vl x ∨ vl z ≤ vl y then none else some (vl x, vl y, vl z)) else none
  | _ => none
/-- but for two tables all that stood stands -/
structure Grow (P1 P2 : Addr) (H H' : Hp) : Prop where
  t1 : GxR.TabG H' P1
  t2 : GxR.TabG H' P2
  keep : ∀ b o, b ≠ P1 → b ≠ P2 → H b = some o → H' b = some o
theorem Grow.refl {P1 P2 : Addr} {H : Hp} (a : GxR.TabG H P1) (b : GxR.TabG H P2) : Grow P1 P2 H H := ⟨a, b, fun _ _ _ _ e => e⟩
theorem Grow.trans {P1 P2 : Addr} {H H1 H2 : Hp} (a : Grow P1 P2 H H1) (b : Grow P1 P2 H1 H2) : Grow P1 P2 H H2 := ⟨b.t1, b.t2, fun c o n1 n2 e => b.keep c o n1 n2 (a.keep c o n1 n2 e)⟩
theorem tabG_same {P : Addr} {H H' : Hp} (h : GxR.TabG H P) (s : Same H H') : GxR.TabG H' P := by
  obtain ⟨ps, e, t⟩ := h
  exact ⟨ps, s _ _ e, t⟩
theorem Grow.same {P1 P2 : Addr} {H H1 H2 : Hp} (a : Grow P1 P2 H H1) (s : Same H1 H2) : Grow P1 P2 H H2 := ⟨tabG_same a.t1 s, tabG_same a.t2 s, fun c o n1 n2 e => s _ _ (a.keep c o n1 n2 e)⟩
theorem tabG_ne {P b : Addr} {H : Hp} {o : HO} (h : GxR.TabG H P) (e : H b = some o) (n : ∀ ps, o ≠ .tbl ps) : b ≠ P := by
  obtain ⟨ps, e2, _⟩ := h
  intro z
  rw [z, e2] at e
  exact n ps (Option.some.inj e).symm
theorem Grow.get {P1 P2 b : Addr} {H H' : Hp} {o : HO} (a : Grow P1 P2 H H') (h1 : GxR.TabG H P1) (h2 : GxR.TabG H P2) (e : H b = some o) (n : ∀ ps, o ≠ .tbl ps) : H' b = some o :=
  a.keep b o (tabG_ne h1 e n) (tabG_ne h2 e n) e
def pRead (P1 P2 CU : Addr) : V → Hp → VK → XK → Prop := fun v H Q E => ∃ a : List Nat, v = .str (S a) ∧ a.length ≤ 640 ∧ GxR.TabG H P1 ∧ GxR.TabG H P2 ∧
  (∀ t p m, readR a = some (t, p, m) → ∀ H' q, Grow P1 P2 H H' → H q = none → H' q = some (.tup [.int t, .int p, .int m]) → Q (.ref q) H') ∧ (readR a = none → ∀ H', Grow P1 P2 H H' → E (.ref CU) none H')
/-! ### a rule's own text -/
theorem numL_head {n : Nat} (h : 0 < n) : (TL.numL n).head? ≠ some 48 := by
  induction n using Nat.strongRecOn with
  | ind n ih =>
    by_cases c : n < 10
    · rw [TL.numL_lt c]
      intro z
      have := Option.some.inj z
      omega
    · rw [TL.numL_step (by omega)]
      have := ih (n / 10) (by omega) (by omega)
      cases e : TL.numL (n / 10) with
      | nil => exact absurd e (TL.numL_ne _)
      | cons a r =>
        rw [e] at this
        exact this
theorem figs_num (n : Nat) : figs (TL.numL n) = true := by
  unfold figs
  have h1 : (TL.numL n).isEmpty = false := by
    cases e : TL.numL n with
    | nil => exact absurd e (TL.numL_ne n)
    | cons a r => rfl
  have h2 : (TL.numL n).all dig = true := by
    rw [List.all_eq_true]
    intro c hc
    have := TL.numL_digits n c hc
    unfold dig
    rw [decide_eq_true this.1, decide_eq_true this.2]
    rfl
  rw [h1, h2]
  by_cases z : n = 0
  · subst z
    rw [TL.numL_lt (by decide)]
    rfl
  · rw [decide_eq_true (numL_head (by omega)), Bool.or_true]
    rfl
theorem vl_num (n : Nat) : vl (TL.numL n) = n := by
  unfold vl
  rw [TL.numL_val]
def shw (t p m : Int) : List Nat := TL.numL t.toNat ++ [32] ++ TL.numL p.toNat ++ [32] ++ TL.numL m.toNat
theorem wds_shw (t p m : Int) : wds (shw t p m) = [TL.numL t.toNat, TL.numL p.toNat, TL.numL m.toNat] := by
  have e : shw t p m = TL.joinL [32] [TL.numL t.toNat, TL.numL p.toNat, TL.numL m.toNat] := by
    unfold shw
    simp [TL.joinL]
  unfold wds
  rw [e]
  refine SX.spl_join (by simp) fun q hq => ?_
  simp only [List.mem_cons, List.not_mem_nil, or_false] at hq
  rcases hq with rfl | rfl | rfl <;> exact TL.numL_free (.inl (by decide))
theorem read_shw {t p m : Int} (R : Rule t p m) : readR (shw t p m) = some (t, p, m) := by
  unfold readR
  rw [wds_shw]
  have a1 := R.t0
  have a2 := R.t1
  have a3 := R.p0
  have a4 := R.p1
  show (if (figs (TL.numL t.toNat) && figs (TL.numL p.toNat) && figs (TL.numL m.toNat)) = true then _ else _) = _
  rw [figs_num, figs_num, figs_num, vl_num, vl_num, vl_num]
  show (if ((m.toNat : Nat) : Int) ≤ ((t.toNat : Nat) : Int) ∨ ((m.toNat : Nat) : Int) ≤ ((p.toNat : Nat) : Int) then none else some (((t.toNat : Nat) : Int), ((p.toNat : Nat) : Int), ((m.toNat : Nat) : Int))) = _
  rw [if_neg (by omega), Int.toNat_of_nonneg a1, Int.toNat_of_nonneg a3, Int.toNat_of_nonneg (by omega)]
theorem shw_len {t p m : Int} (R : Rule t p m) : (shw t p m).length ≤ 100 := by
  have a1 := R.t0
  have a2 := R.t1
  have a3 := R.p0
  have a4 := R.p1
  have a5 := R.b2
  have k : ∀ n : Nat, (n : Int) ≤ 1000000000000 → (TL.numL n).length ≤ 13 := fun n hn => TL.numL_len (by decide) (by
    have : (10 : Nat) ^ 13 = 10000000000000 := by decide
    omega)
  have k1 := k t.toNat (by omega)
  have k2 := k p.toNat (by omega)
  have k3 := k m.toNat (by omega)
  unfold shw
  rw [List.length_append, List.length_append, List.length_append, List.length_append]
  show (TL.numL t.toNat).length + 1 + (TL.numL p.toNat).length + 1 + (TL.numL m.toNat).length ≤ 100
  omega
def pShown (K : PySem.W.Frag) : V → Hp → VK → XK → Prop := fun a H Q _ => ∃ (r : Addr) (t p m : Int), a = .ref r ∧ SqT K H r [.int t, .int p, .int m] ∧ Rule t p m ∧ Q (.str (S (shw t p m))) H
theorem lg_small {i : Int} (h0 : 0 ≤ i) (h1 : i ≤ 1000000000000) : i.natAbs.log2 < 1920 := by
  by_cases z : i.natAbs = 0
  · rw [z]
    decide
  · have h2 : i.natAbs.log2 < 41 := (Nat.log2_lt z).mpr (by
      have : (2 : Nat) ^ 41 = 2199023255552 := by decide
      omega)
    omega
theorem str_num {i : Int} (h0 : 0 ≤ i) : Str.ofString (toString i) = S (TL.numL i.toNat) := by
  have := SX.num_S i.toNat
  rw [Int.toNat_of_nonneg h0] at this
  exact this
theorem s_len (l : List Nat) (h : l.length ≤ 1000) : (S l).length ≤ sizeLine := by
  show l.toArray.size ≤ sizeLine
  rw [List.size_toArray]
  exact sz (by omega)
end Tw

/-! Steps as a whole. -/
namespace Tw
open PySem PySem.Spec PyProof.Rows L2
theorem geo_ab (t : Int) (a : Nat) : ∀ b : Nat, geo t (a * b) = geo t a * geo (t ^ a) b
  | 0 => by
    show geo t 0 = geo t a * 0
    rw [Int.mul_zero]
    rfl
  | b + 1 => by
    rw [Nat.mul_succ, geo_add, geo_ab t a b]
    show geo t a * geo (t ^ a) b + t ^ (a * b) * geo t a = geo t a * (geo (t ^ a) b + (t ^ a) ^ b)
    rw [Int.pow_mul, Int.mul_add, Int.mul_comm ((t ^ a) ^ b)]
theorem pow_em2 (x m : Int) : ∀ n : Nat, (x % m) ^ n % m = x ^ n % m
  | 0 => by rw [Int.pow_zero, Int.pow_zero]
  | n + 1 => by rw [Int.pow_succ, Int.pow_succ, Int.mul_emod, pow_em2 x m n, Int.emod_emod, ← Int.mul_emod]
theorem geo_em (x m : Int) : ∀ n : Nat, geo (x % m) n % m = geo x n % m
  | 0 => rfl
  | n + 1 => by
    show (geo (x % m) n + (x % m) ^ n) % m = (geo x n + x ^ n) % m
    rw [Int.add_emod, geo_em x m n, pow_em2, ← Int.add_emod]
theorem rs_rsT (t m : Int) (a b : Nat) : rsT (rsT t m a) m b = rsT t m (a * b) := by
  unfold rsT
  rw [pow_em2, Int.pow_mul]
theorem rs_rsP (t p m : Int) (a b : Nat) : rsP (rsT t m a) (rsP t p m a) m b = rsP t p m (a * b) := by
  unfold rsP rsT
  rw [Int.mul_emod, Int.emod_emod, geo_em, ← Int.mul_emod, geo_ab, Int.mul_assoc]
theorem itr_ahd5 {t p m : Int} {x : Int} (x0 : 0 ≤ x) (x1 : x < m) : ∀ n, itr (stp t p m) n x = ahd t p m n x
  | 0 => by
    unfold ahd
    show x = (t ^ 0 * x + p * 0) % m
    rw [Int.pow_zero, Int.one_mul, Int.mul_zero, Int.add_zero, Int.emod_eq_of_lt x0 x1]
  | n + 1 => by
    show stp t p m (itr (stp t p m) n x) = _
    rw [itr_ahd5 x0 x1 n]
    unfold ahd stp
    show (t * ((t ^ n * x + p * geo t n) % m) + p) % m = (t ^ (n + 1) * x + p * (geo t n + t ^ n)) % m
    have e : geo t n + t ^ n = 1 + t * geo t n := by
      have := geo_add t 1 n
      have h1 : geo t 1 = 1 := by show (0 : Int) + t ^ 0 = 1; rw [Int.pow_zero]; rfl
      rw [h1, Int.pow_one, Nat.add_comm] at this
      exact this
    rw [e, Int.add_emod, Int.mul_emod, Int.emod_emod, ← Int.mul_emod, ← Int.add_emod, Int.pow_succ]
    congr 1
    grind
theorem ahd_add5 (t p m : Int) (a b : Nat) (x : Int) : ahd t p m (a + b) x = ahd t p m b (ahd t p m a x) := by
  unfold ahd
  have e : (t ^ b * ((t ^ a * x + p * geo t a) % m) + p * geo t b) % m = (t ^ b * (t ^ a * x + p * geo t a) + p * geo t b) % m := by
    rw [Int.add_emod, Int.mul_emod, Int.emod_emod, ← Int.mul_emod, ← Int.add_emod]
  rw [e, Nat.add_comm a b, geo_add, Int.pow_add]
  congr 1
  grind
theorem itr_add5 (f : Int → Int) (a b : Nat) (x : Int) : itr f (a + b) x = itr f a (itr f b x) := by
  induction a with
  | zero => rw [Nat.zero_add]; rfl
  | succ a ih => rw [Nat.add_right_comm]; exact congrArg f ih
theorem orb_at (f : Int → Int) {n i : Nat} (x : Int) (h : i < n) : (orb f n x)[i]? = some (itr f i x) := by
  unfold orb
  rw [List.getElem?_map, List.getElem?_range h]
  rfl
theorem orb_drop (f : Int → Int) {n k : Nat} (x : Int) (h : k ≤ n) : (orb f n x).drop k = orb f (n - k) (itr f k x) := by
  refine List.ext_getElem? fun i => ?_
  rw [List.getElem?_drop]
  by_cases c : k + i < n
  · rw [orb_at f x c, orb_at f _ (by omega), ← itr_add5, Nat.add_comm]
  · rw [List.getElem?_eq_none (by rw [orb_len]; omega), List.getElem?_eq_none (by rw [orb_len]; omega)]
theorem orb_take (f : Int → Int) {n k : Nat} (x : Int) (h : k ≤ n) : (orb f n x).take k = orb f k x := by
  refine List.ext_getElem? fun i => ?_
  by_cases c : i < k
  · rw [List.getElem?_take_of_lt c, orb_at f x (by omega), orb_at f x c]
  · rw [List.getElem?_eq_none (by rw [List.length_take, orb_len]; omega), List.getElem?_eq_none (by rw [orb_len]; omega)]
/-! ### what stands before -/
theorem bef_next {t p m x : Int} (m0 : 0 < m) : ((t * x + p) % m - p) % (Int.gcd t m : Nat) = 0 := by
  have d1 : ((Int.gcd t m : Nat) : Int) ∣ t := Int.gcd_dvd_left ..
  have d2 : ((Int.gcd t m : Nat) : Int) ∣ m := Int.gcd_dvd_right ..
  refine Int.emod_eq_zero_of_dvd ?_
  have e := Int.emod_def (t * x + p) m
  rw [e, show t * x + p - m * ((t * x + p) / m) - p = t * x - m * ((t * x + p) / m) by omega]
  exact Int.dvd_sub (Int.dvd_trans d1 (Int.dvd_mul_right ..)) (Int.dvd_trans d2 (Int.dvd_mul_right ..))
theorem bef_back {t p m n y : Int} (h : Back t p m 1 n y) (g : Int.gcd t m = 1) : Bef t p m n y := by
  obtain ⟨h0, h1, h2⟩ := h
  refine ⟨h0, by rw [g]; show y < m / 1; rw [Int.ediv_one]; exact h1, ?_⟩
  unfold ahd at h2
  have h1' : geo t 1 = 1 := by show (0 : Int) + t ^ 0 = 1; rw [Int.pow_zero]; rfl
  rw [h1', Int.pow_one, Int.mul_one] at h2
  exact h2
theorem bef_other {t p m n x : Int} (m0 : 0 < m) (h : Bef t p m n x) (hg : (1 : Int) < (Int.gcd t m : Nat)) : 0 ≤ x + m / (Int.gcd t m : Nat) ∧ x + m / (Int.gcd t m : Nat) < m ∧ (t * (x + m / (Int.gcd t m : Nat)) + p) % m = n ∧ x < m := by
  obtain ⟨h0, h1, h2⟩ := h
  have d1 : ((Int.gcd t m : Nat) : Int) ∣ t := Int.gcd_dvd_left ..
  have d2 : ((Int.gcd t m : Nat) : Int) ∣ m := Int.gcd_dvd_right ..
  generalize ((Int.gcd t m : Nat) : Int) = g at *
  obtain ⟨u, rfl⟩ := d1
  obtain ⟨v, rfl⟩ := d2
  have e : g * v / g = v := Int.mul_ediv_cancel_left v (by omega)
  rw [e] at h1 ⊢
  have v0 : 0 ≤ v := by
    refine Int.not_lt.mp fun c => ?_
    have h9 := Int.mul_le_mul_of_nonneg_left (show v ≤ 0 by omega) (show (0 : Int) ≤ g by omega)
    rw [Int.mul_zero] at h9
    omega
  have v2 : 2 * v ≤ g * v := Int.mul_le_mul_of_nonneg_right (by omega) (by omega)
  refine ⟨by omega, by omega, ?_, by omega⟩
  rw [show g * u * (x + v) + p = g * u * x + p + g * v * u by grind, Int.add_mul_emod_self_left]
  exact h2
/-! ### promises -/
def pBackL (K : PySem.W.Frag) : V → V → V → Hp → VK → XK → Prop := fun a b c H Q _ => ∃ (r : Addr) (t p m s n : Int), a = .ref r ∧ b = .int s ∧ c = .int n ∧ SqT K H r [.int t, .int p, .int m] ∧ Rule t p m ∧ 0 ≤ s ∧ s < m ∧ 0 ≤ n ∧
  (n = 0 ∨ Int.gcd t m = 1 → ∀ H' y, Same H H' → Back t p m n.toNat s y → Q (.int y) H') ∧ (0 < n → Int.gcd t m ≠ 1 → ∀ H', Same H H' → Q .non H')
def pRowR (c : Nat) : V → V → V → Hp → VK → XK → Prop := fun a b e H Q _ => ∃ (d : Addr) (n : Nat) (r : Addr) (t p m s : Int), a = .ref d ∧ b = .ref r ∧ e = .int s ∧ Deck H d n ∧ n + c ≤ 100000000 ∧ H r = some (.tup [.int t, .int p, .int m]) ∧ Rule t p m ∧ 0 ≤ s ∧ s < m ∧
  ∀ H', But d H H' → Deck H' d (n + c) → Q (.bl true) H'
def pBefR (K : PySem.W.Frag) : V → V → Hp → VK → XK → Prop := fun a b H Q _ => ∃ (r : Addr) (t p m s : Int), a = .ref r ∧ b = .int s ∧ SqT K H r [.int t, .int p, .int m] ∧ Rule t p m ∧ 0 ≤ s ∧ s < m ∧ ∀ H', Same H H' → Q (.bl true) H'
theorem tabG_but {P d : Addr} {H H' : Hp} {n : Nat} (h : GxR.TabG H P) (D : Deck H d n) (b : But d H H') : GxR.TabG H' P := by
  obtain ⟨ps, e, t⟩ := h
  refine ⟨ps, b _ _ (fun z => ?_) e, t⟩
  obtain ⟨c, xs, i, r, k, u, a1, _⟩ := D
  rw [z, a1] at e
  cases e
theorem Grow.deck {P1 P2 d : Addr} {H H' : Hp} {n : Nat} (g : Grow P1 P2 H H') (h1 : GxR.TabG H P1) (h2 : GxR.TabG H P2) (D : Deck H d n) : Deck H' d n := by
  obtain ⟨c, xs, i, r, k, u, a1, a2, a3⟩ := D
  exact ⟨c, xs, i, r, k, u, g.get h1 h2 a1 (fun ps z => by cases z), g.get h1 h2 a2 (fun ps z => by cases z), a3⟩
end Tw
namespace Tw
open PySem PySem.Spec PyProof.Rows L2
theorem cut_drop (xs : List V) (n : Nat) : cutV xs (some (n : Int)) none = xs.drop n := by
  unfold cutV
  rw [HT.sIx_none, HT.sIx_nat]
  by_cases h : n ≤ xs.length
  · rw [Nat.min_eq_left h, List.take_of_length_le (by rw [List.length_drop]; exact Nat.le_refl _)]
  · rw [Nat.min_eq_right (by omega), Nat.sub_self, List.take_zero, List.drop_eq_nil_of_le (by omega)]
end Tw

/-! Calls by keywords alone; refusals made by hand: held with their text, or with their number. -/
namespace Tw
open PySem PySem.Spec PyProof.Rows L2
/-! ### f(k = v, ..) -/
/-- how a def of plain parameters binds keywords alone -/
def KwOf (K : PySem.W.Frag) (mg : Str → Option Value) (x : Str) (ps ks : List Str) (g : List Value → List Value → List Value) (gV : List V → List V → List V) : Prop := ∃ (f : Addr) (fd : FuncData), mg x = some (.ref f) ∧ Lk K f fd ∧ KBinds K fd ps ks g gV
theorem Top.kw {K : PySem.W.Frag} {mg : Str → Option Value} {x : Str} {st : Stmt} {ps ks : List Str} {g : List Value → List Value → List Value} {gV : List V → List V → List V} (D : Top K mg x st ps)
    (hb : ∀ (kV doc pm : Value) (an : Option Addr) (cdv ct : Value) (us ws : List Value), (g us ws).length = ps.length → bindArgs (PySem.W.fnOf x x (defArgs st) (defBody st) (defScope st) .none kV doc pm an cdv ct) ⟨us, ks.zip ws⟩ = pure (ps.zip (g us ws)))
    (rel : ∀ {vs : List V} {us : List Value} {zs : List V} {ws : List Value}, Vals vs us → Vals zs ws → Vals (gV vs zs) (g us ws)) : KwOf K mg x ps ks g gV := by
  obtain ⟨f, fd, F, m, _⟩ := D
  have lk := lk_of F
  obtain ⟨oc, od, kV, doc, pm, an, cdv, ct, osl, rfl, _, _⟩ := F.ex
  exact ⟨f, _, m, lk, ⟨fun s us ws _ hl => .of_eq (hb kV doc pm an cdv ct us ws hl), rel⟩⟩
/-! the keywords' order turned -/
def g1 {α : Type} : List α → List α → List α
  | [], [a] => [a]
  | _, _ => []
def g2 {α : Type} : List α → List α → List α
  | [], [a, b] => [b, a]
  | _, _ => []
def g3 {α : Type} : List α → List α → List α
  | [], [a, b, c] => [c, b, a]
  | _, _ => []
theorem g1_inv {α : Type} {us ws : List α} (h : (g1 us ws).length = 1) : ∃ a, us = [] ∧ ws = [a] := by
  unfold g1 at h
  split at h
  · exact ⟨_, rfl, rfl⟩
  · cases h
theorem g2_inv {α : Type} {us ws : List α} (h : (g2 us ws).length = 2) : ∃ a b, us = [] ∧ ws = [a, b] := by
  unfold g2 at h
  split at h
  · exact ⟨_, _, rfl, rfl⟩
  · cases h
theorem g3_inv {α : Type} {us ws : List α} (h : (g3 us ws).length = 3) : ∃ a b c, us = [] ∧ ws = [a, b, c] := by
  unfold g3 at h
  split at h
  · exact ⟨_, _, _, rfl, rfl⟩
  · cases h
theorem g1_rel {vs : List V} {us : List Value} {zs : List V} {ws : List Value} (a : Vals vs us) (b : Vals zs ws) : Vals (g1 vs zs) (g1 us ws) := by
  cases a with
  | nil =>
    cases b with
    | nil => exact .nil
    | cons r1 t1 =>
      cases t1 with
      | nil => exact .cons r1 .nil
      | cons r2 t2 => exact .nil
  | cons r t => exact .nil
theorem g2_rel {vs : List V} {us : List Value} {zs : List V} {ws : List Value} (a : Vals vs us) (b : Vals zs ws) : Vals (g2 vs zs) (g2 us ws) := by
  cases a with
  | nil =>
    cases b with
    | nil => exact .nil
    | cons r1 t1 =>
      cases t1 with
      | nil => exact .nil
      | cons r2 t2 =>
        cases t2 with
        | nil => exact .cons r2 (.cons r1 .nil)
        | cons r3 t3 => exact .nil
  | cons r t => exact .nil
theorem g3_rel {vs : List V} {us : List Value} {zs : List V} {ws : List Value} (a : Vals vs us) (b : Vals zs ws) : Vals (g3 vs zs) (g3 us ws) := by
  cases a with
  | nil =>
    cases b with
    | nil => exact .nil
    | cons r1 t1 =>
      cases t1 with
      | nil => exact .nil
      | cons r2 t2 =>
        cases t2 with
        | nil => exact .nil
        | cons r3 t3 =>
          cases t3 with
          | nil => exact .cons r3 (.cons r2 (.cons r1 .nil))
          | cons r4 t4 => exact .nil
  | cons r t => exact .nil
/-! ### text * n -/
def rMulS : R2 := fun x y H Q => ∃ (a : Str) (i : Int), x = .str a ∧ y = .int i ∧ MulOk a i ∧ Q (.str (Txt.mul a i)) H
theorem op_mulS {X : Cx} : OpR X (binaryOp .Mult) rMulS := by
  intro pins s σ H x y u v Q I r1 r2 h
  obtain ⟨a, i, rfl, rfl, ok, q⟩ := h
  obtain ⟨t1, rfl⟩ := r1
  obtain ⟨t2, rfl⟩ := r2
  exact PySem.SB.mul ok fun t' k => ⟨.str (Txt.mul a i), H, I.tok _, ⟨t', rfl⟩, q⟩
section
variable {X : Cx} {CX : CXT} {k : Nat} {ps ks : List Str} {sp : Sp} {E : XK} {x : Str} {p pos : Pos} {kws : List Keyword} {tk : TA} {g : List Value → List Value → List Value} {gV : List V → List V → List V}
theorem pe_kw (h : Has X.prog X.w X.K X.mg X.base CX k x ps sp) (b : KwOf X.K X.mg x ps ks g gV) (hr : Room k X.A) (hx : Passes CX X E) (hkw : PK X kws tk) (hg : Gl X x := by rfl) (hall : (backToKw pos (keywordEach kws X.env)).all (·.1.isSome) = true := by rfl)
    (hks : (backToKw pos (keywordEach kws X.env)).filterMap (·.1) = ks := by rfl) (hdb : (x == ("__debug__" : Str)) = false := by decide)
    (hpl : ((backTo pos (starEach [] X.env)).any (·.1) || (backToKw pos (keywordEach kws X.env)).any (·.1.isNone)) = false := by rfl) :
    PE X (.Call (.Name x p) [] kws pos) (tCallK sp gV E tNil tk) := by
  obtain ⟨f, fd, F, m, kp, _, lk⟩ := h
  obtain ⟨f', fd', m', lk', kb⟩ := b
  obtain rfl : f = f' := by
    have z := m.symm.trans m'
    cases z
    rfl
  obtain rfl := lk.eq lk'
  refine ⟨fun pins s σ H Q I q => wpAny_Call_Name_kw (ld_glob I hg m ?_ hdb)⟩
  refine PySem.W.callWith_KW0 (h₀ := X.base) I.ok.mod.kin kp hall (thn (hkw.run pos pins s σ H _ I q) fun ws s2 y => ?_) hpl
  obtain ⟨zs, H2, I2, rz, q2⟩ := y
  refine ⟨I2.kIn, ?_⟩
  rw [hks]
  exact run_fnk F hr kb hx I2 .nil rz q2
end
/-! ### X(text), held with its text -/
def exm (a C t : Addr) : HO := .ext fun h => ∃ (oe : Obj) (vs : Array Value), h.get? a = some oe ∧ (oe.cls = .ref C ∧ oe.dict = none) ∧ oe.data = .fields vs ∧ vs[0]? = some (.ref t)
theorem exm_ok {P : Program} {w : World} {H : Hp} {h : Heap} {a C t : Addr} {oe : Obj} {vs : Array Value} (e : h.get? a = some oe) (c : oe.cls = .ref C ∧ oe.dict = none) (d : oe.data = .fields vs) (z : vs[0]? = some (.ref t)) : ObjOk P w H h a (exm a C t) :=
  ⟨⟨oe, vs, e, c, d, z⟩, ⟨oe, e⟩, fun _ _ y k => by
    obtain ⟨o, v, q, r⟩ := y
    exact ⟨o, v, k o q, r⟩⟩
theorem exm_at {P : Program} {w : World} {H : Hp} {h : Heap} {a C t : Addr} (hok : HOk P w H h) (e : H a = some (exm a C t)) : ∃ (oe : Obj) (vs : Array Value), h.get? a = some oe ∧ (oe.cls = .ref C ∧ oe.dict = none) ∧ oe.data = .fields vs ∧ vs[0]? = some (.ref t) := by
  have x : ObjOk P w H h a (.ext fun h => ∃ (oe : Obj) (vs : Array Value), h.get? a = some oe ∧ (oe.cls = .ref C ∧ oe.dict = none) ∧ oe.data = .fields vs ∧ vs[0]? = some (.ref t)) := hok a _ e
  exact x.1
theorem pe_exm {X : Cx} {C : Addr} {bmB : List Value} {B newId initId : String} {x : Str} {e : Expr} {ta : TE} {p pos : Pos} (F : ExcBaseFacts B newId initId bmB) (q : PySem.W.excIn X.K C bmB newId = true) (gC : X.mg x = some (.ref C)) (kC : PySem.W.keepIn X.K (.ref C) = true)
    (he : PE X e ta) (hg : Gl X x := by rfl) (hs : starEach [e] X.env = (false, eval e X.env) :: starEach [] X.env := by rfl) (hdb : (x == ("__debug__" : Str)) = false := by decide) :
    PE X (.Call (.Name x p) [e] [] pos) (fun σ H Q => ta σ H fun v H1 => ∀ a t, H1 a = none → H1 t = none → a ≠ t → Q (.ref a) (upd (upd H1 t (.tup [v])) a (exm a C t))) := by
  refine ⟨fun pins s σ H Q I y => wpAny_Call_Name_kw (ld_glob I hg gC ?_ hdb)⟩
  refine PySem.W.callWith_K (h₀ := X.base) I.ok.mod.kin kC ?_ hs (by rfl)
  rw [hs]
  show wpAny _ _ (spliced ((false, eval e X.env) :: backTo pos (starEach [] X.env))) _ _ s
  refine Calls.spliced_cons (thn (he.run pins s σ H _ I y) fun u s1 z => ?_)
  obtain ⟨v, H1, I1, r1, q1⟩ := z
  refine Calls.spliced_nil ⟨I1.kIn, ?_⟩
  show wpAny _ _ (call (.ref C) [u]) _ _ _
  obtain ⟨bm, N, nm, qn, bs, hdct, sn, sub, ab, col, dd, k0, k1, k2, k3, k5, mN, hC, hN, hni, T⟩ := exc_obj I1.kIn q
  refine wpAny_call_exc_subT F T hC hN hni (fun h' a hm => ?_) (by show 1 ≤ sizeLine; decide)
  obtain ⟨t, ht, tn, tt⟩ := hm.there
  have at_ : a ≠ t := fun z => by
    rw [z, tt] at ht
    cases ht
  have na : H1 a = none := I1.hok.gone hm.new
  have nt : H1 t = none := I1.hok.gone tn
  obtain ⟨G, g1, g2⟩ := restrict h' fun b => decide (b ≠ a)
  have gk : ∀ b o, b ≠ a → h'.get? b = some o → G.get? b = some o := fun b o hb e => (g1 b (decide_eq_true hb)).trans e
  have ga : G.get? a = none := g2 a (decide_eq_false fun z => z rfl)
  have I2 : Inv X pins σ (upd H1 t (.tup [v])) { s1 with heap := G, toks := s1.toks } := I1.laidN (fun b o e => gk b o (fun z => by rw [z, hm.new] at e; cases e) (hm.keeps b o e)) tn nt ⟨by show 1 ≤ sizeLine; decide, [u], .cons r1 .nil, ⟨_, gk _ _ (Ne.symm at_) tt, rfl, _, rfl⟩⟩
  have na2 : (upd H1 t (.tup [v])) a = none := by rw [upd_ne at_]; exact na
  have I3 : Inv X pins σ (upd (upd H1 t (.tup [v])) a (exm a C t)) { s1 with heap := h', toks := s1.toks } := I2.laidN (h' := h') (t' := s1.toks) (fun b o e => by
    by_cases z : b = a
    · rw [z] at e
      rw [show G.get? a = none from ga] at e
      cases e
    · exact (g1 b (decide_eq_true z)).symm.trans e) ga na2 (exm_ok ht ⟨rfl, rfl⟩ rfl rfl)
  exact ⟨.ref a, _, I3, rfl, q1 a t na nt at_⟩
/-! ### str(e) -/
def rStrX (K : PySem.W.Frag) : List V → Hp → VK → Prop := fun xs H Q => ∃ (a C t : Addr) (m : Str), xs = [.ref a] ∧ H a = some (exm a C t) ∧ H t = some (.tup [.str m]) ∧ PySem.W.findIn K (.ref C) "__str__" = some (some (.builtin "BaseException.__str__")) ∧ PySem.W.subIn K (.ref C) (.type "BaseException") = some true ∧ Q (.str m) H
theorem call_strX {X : Cx} {k : Nat} (hr : Room k X.A) : CallR X (.type "str") (rStrX X.K) := by
  intro pins s σ H xs us Q I r h
  obtain ⟨a, C, t, m, rfl, ea, et, hs, hB, q⟩ := h
  obtain ⟨u, rfl, ru⟩ := r.one
  cases (show u = Value.ref a from ru)
  obtain ⟨oe, vs, ho, hc, hd, h0⟩ := exm_at I.hok ea
  obtain ⟨_, its, rv, tp⟩ := (show ObjOk X.prog X.w H s.heap t (.tup [.str m]) from I.hok t _ et)
  obtain ⟨w, rfl, rw'⟩ := rv.one
  obtain ⟨tk, rfl⟩ := rw'
  have tup : s.heap.TupAt t [.str m tk] := by
    obtain ⟨o, e1, e2, n, e3⟩ := tp
    exact ⟨o, n, e1, e2, e3⟩
  exact PySem.P.str_of_C_one (by have := hr.units; omega) ⟨I.kIn, oe, vs, ho, hc.1, hd, h0⟩ tup hs hB ⟨.str m, H, I.tok _, ⟨tk, rfl⟩, q⟩
/-! ### X(number) by its own initialiser, held -/
def tMkV (C : Addr) (sp : Sp) (ta : TA) : TE := fun σ H Q => ta σ H fun vs H1 => vs.length ≤ 1000 ∧ ∀ a, H1 a = none → sp (.ref a :: vs) (upd H1 a (exo a C none)) (fun v H2 => v = .non ∧ Q (.ref a) H2) (fun _ _ _ => False)
theorem pe_oexV {X : Cx} {CX : CXT} {x : Str} {C fI : Addr} {k : Nat} {fd : FuncData} {ps : List Str} {sp : Sp} {e : Expr} {es : List Expr} {ta : TA} {p pos : Pos} (T : OexC X.K C) (iC : PySem.W.findIn X.K (.ref C) "__init__" = some (some (.ref fI))) (tI : PySem.W.typeIn X.K (.ref fI) = some (.type "function"))
    (F1 : FnOk X.prog X.w X.K X.mg X.base CX k fI fd ps sp) (hr : Room (k + 1) X.A) (hb : Binds X.K fd ps []) (hx : Passes CX X (fun _ _ _ => False)) (hm : X.mg x = some (.ref C)) (ha : PA X (e :: es) ta) (hg : Gl X x := by rfl)
    (hdb : (x == ("__debug__" : Str)) = false := by decide) (he : starEach (e :: es) X.env = (false, eval e X.env) :: starEach es X.env := by rfl) (hpl : (backTo pos (starEach es X.env)).any (·.1) = false := by rfl) :
    PE X (.Call (.Name x p) (e :: es) [] pos) (tMkV C sp ta) := by
  refine ⟨fun pins s σ H Q I h => wpAny_Call_Name_kw (ld_glob I hg hm ?_ hdb)⟩
  obtain ⟨nm, q, N, bs, bm, sn, sub, ab, col, dd, k0, k1, k2, k3, k5, hC, hbm⟩ := T.cls
  refine PySem.W.callWith_K (h₀ := X.base) I.ok.mod.kin T.kC (thn (ha.run pos pins s σ H _ I h) fun us s1 y => ?_) he hpl
  obtain ⟨vs, H1, I1, r1, hz, q1⟩ := y
  refine ⟨I1.kIn, ?_⟩
  show wpAny _ _ (call (.ref C) us) _ _ _
  obtain ⟨hp, gs, dr, tk, os⟩ := s1
  have le1 : hp.objs.size ≤ hp.objs.size + 1 := Nat.le_succ _
  have hn : H1 (hp.objs.size + 1) = none := I1.hok.fresh le1
  have hq := q1 (hp.objs.size + 1) hn
  have hget : ((hp.push (PySem.W.kdv_tup us)).push (PySem.HandSPX.excO C hp.objs.size)).get? (hp.objs.size + 1) = some (PySem.HandSPX.excO C hp.objs.size) := by heap_get
  have I2 := I1.laid (t' := tk) (a := hp.objs.size + 1) (o := exo (hp.objs.size + 1) C none) (h' := (hp.push (PySem.W.kdv_tup us)).push (PySem.HandSPX.excO C hp.objs.size)) (fun b o e => Heap.get?_push_of_some _ (Heap.get?_push_of_some _ e)) le1 (exo_ok hget)
  have r2 : Vals (V.ref (hp.objs.size + 1) :: vs) (Value.ref (hp.objs.size + 1) :: us) := .cons rfl r1
  have hl : (Value.ref (hp.objs.size + 1) :: us ++ []).length = ps.length := by
    have z := r2.length
    rw [F1.len _ _ _ _ hq] at z
    rw [List.append_nil]
    exact z.symm
  have b2 := hb ⟨(hp.push (PySem.W.kdv_tup us)).push (PySem.HandSPX.excO C hp.objs.size), gs, dr, tk, os⟩ (Value.ref (hp.objs.size + 1) :: us) I2.kIn hl
  rw [List.append_nil] at b2
  have hus : us.length ≤ sizeLine := by
    rw [← Paired.length r1]
    exact sz (by omega)
  refine wpAny_call (PySem.HandSPX.call_own F.excBase_ValueError (fun Y => PySem.HandSPX.refsVE_contains Y bm hbm) (I1.kIn _ _ hC) (PySem.W.looks_findIn I1.kIn iC) (fun self => PySem.W.bind_fn I1.kIn self tI) hus
    (codeAny_mono (F1.run _ X.stack _ _ ⟨Value.ref (hp.objs.size + 1) :: us, []⟩ _ _ _ (fun _ _ _ => False) (hr.make C us []) (I2.env0.make C us []) b2 r2 hq) fun r s' y => ?_))
  cases r with
  | error er => exact hx pins σ _ _ er s' I2 y
  | ok fl =>
    cases fl with
    | ret u =>
      obtain ⟨v, H', I3, rv, ev, q3⟩ := I2.after y
      subst ev
      exact ⟨rv, .ref (hp.objs.size + 1), H', I3, rfl, q3⟩
    | next => exact y.elim
    | brk => exact y.elim
    | cont => exact y.elim
/-! ### a held refusal: its class asked, its field read -/
def Held (H : Hp) (a D : Addr) : Prop := (∃ t, H a = some (exm a D t)) ∨ ∃ (d : Addr) (fs : List (Str × V)), H a = some (exo a D (some d)) ∧ H d = some (exd d fs)
theorem held_inst {X : Cx} {pins : List (Addr × Obj)} {σ : L2.St} {H : Hp} {s : Shared} {a D : Addr} (I : Inv X pins σ H s) (h : Held H a D) : ∃ oe od, PySem.W.InstAt s.heap a oe D od := by
  rcases h with ⟨t, e⟩ | ⟨d, fs, e, ed⟩
  · obtain ⟨oe, vs, ho, hc, hd, _⟩ := exm_at I.hok e
    exact ⟨oe, none, ho, hc.1, by unfold PySem.W.notCls; rw [hd] <;> rfl, by rw [hc.2]; trivial⟩
  · obtain ⟨t1, ho⟩ := exo_at I.hok e
    obtain ⟨mA, hns, _⟩ := exd_at I.hok ed
    obtain ⟨od, hd, _⟩ := lookIn_ns hns
    exact ⟨_, some od, ho, rfl, rfl, hd⟩
def rIsH (K : PySem.W.Frag) : List V → Hp → VK → Prop := fun xs H Q => ∃ (a D : Addr) (c : V) (u : Value) (b : Bool), xs = [.ref a, c] ∧ ClsV c u ∧ Held H a D ∧ XcC K D ∧ PySem.W.kitOne K (.ref D) u = some b ∧ Q (.bl b) H
theorem call_isH {X : Cx} : CallR X (.builtin "isinstance") (rIsH X.K) := by
  intro pins s σ H xs us Q I r h
  obtain ⟨a, D, c, u, b, rfl, k, hh, T, e, q⟩ := h
  obtain ⟨u1, u2, rfl, r1, r2⟩ := vals2 r
  cases (show u1 = Value.ref a from r1)
  have e2 := k.eq r2
  subst e2
  obtain ⟨oe, od, J⟩ := held_inst I hh
  exact PySem.W.kia_one (PySem.W.kitx_exc T.hc T.hg T.hk T.hs T.ha T.hn T.ht T.hm) I.kIn J e (fun z => nomatch z) fun tk => ⟨.bl b, H, I.tok tk, rfl, q⟩
def tHv (K : PySem.W.Frag) (f : Str) (te : TE) : TE := fun σ H Q => te σ H fun x H1 => ∃ (a C dd : Addr) (fs : List (Str × V)) (v : V), x = .ref a ∧ H1 a = some (exo a C (some dd)) ∧ XcC K C ∧ PySem.W.findIn K (.ref C) f = some none ∧ H1 dd = some (exd dd fs) ∧ fs.lookup f = some v ∧ Q v H1
theorem pe_hv {X : Cx} {e : Expr} {te : TE} {pos : Pos} {n : Str} (he : PE X e te) (hb : attributeBase e n X.env (eval e X.env) = eval e X.env := by rfl) : PE X (.Attribute e n pos) (tHv X.K n te) := by
  refine ⟨fun pins s σ H Q I h => attr_of hb (thn (he.run pins s σ H _ I h) fun u s1 hh => ?_)⟩
  obtain ⟨x, H1, I1, rx, a, C, dd, fs, v, ex, ea, T, hno, ed, l, q⟩ := hh
  subst ex
  obtain rfl : u = Value.ref a := rx
  obtain ⟨t1, ha⟩ := exo_at I1.hok ea
  obtain ⟨mA, hns, hr⟩ := exd_at I1.hok ed
  obtain ⟨od, ho, hl⟩ := lookIn_ns hns
  obtain ⟨u, hu, ru⟩ := RelO.some_of (v := v) (o := mA n) (by rw [← l]; exact hr n)
  have J : PySem.W.InstAt s1.heap a _ C (some od) := ⟨ha, rfl, rfl, ho⟩
  exact HandSPX.exc_get I1.kIn J T.hg T.hk T.hs (PySem.W.findObj_own T.hd hno rfl (by rw [hl, hu])) (handed_of ru) ⟨v, H1, I1.tok _, ru, q⟩
end Tw

/-! The head by one run in the kernel: the defs by name, the refusals' classes by Booleans, the empty tables of the defs that hold a generator expression. -/
namespace Tw
open PySem PySem.Spec PyProof.Rows L2
abbrev Fr : Type := PySem.W.Frag
/-! ### the hook -/
abbrev asK (g : Addr → Option Obj) (n : Nat) : List Addr := cStatics :: He.asD g n
structure SaysK (fa : List He.Fa) (fn : List He.DefD) (tf : List He.Defn) (ex : Fr → Bool) (h : Heap) (K : Fr) : Prop where
  d : He.SaysD fa fn K
  more : ex K = true
  hd : ∀ p ∈ tf, PySem.W.codeHdIn K (He.cT K p).1 (He.cT K p).2 = true
  out : ∀ p ∈ tf, K.lookup (He.cT K p).2 = none
  empty : ∀ p ∈ tf, h.get? (He.cT K p).2 = some { cls := .none, data := .fields #[] }
abbrev AlK : Type := He.AlD × Bool
def obsK (n : Nat) (fa : List He.Fa) (fn : List He.DefD) (tf : List He.Defn) (ex : Fr → Bool) (g : Addr → Option Obj) : AlK := (He.obsD fa fn (He.frT g (asK g n)), ex (He.frT g (asK g n)) && He.tabsB g tf (He.frT g (asK g n)))
def valK (fn : List He.DefD) : AlK := (He.valD fn, true)
theorem saysK_of {n : Nat} {fa : List He.Fa} {fn : List He.DefD} {tf : List He.Defn} {ex : Fr → Bool} {h : Heap} (e : obsK n fa fn tf ex h.get? = valK fn) : SaysK fa fn tf ex h (He.frT h.get? (asK h.get? n)) := by
  have e1 : He.obsD fa fn (He.frT h.get? (asK h.get? n)) = He.valD fn := congrArg (fun z : AlK => z.1) e
  have e2 : (ex (He.frT h.get? (asK h.get? n)) && He.tabsB h.get? tf (He.frT h.get? (asK h.get? n))) = true := congrArg (fun z : AlK => z.2) e
  obtain ⟨h1, h2⟩ := He.ba e2
  have key : ∀ p ∈ tf, PySem.W.codeHdIn (He.frT h.get? (asK h.get? n)) (He.cT (He.frT h.get? (asK h.get? n)) p).1 (He.cT (He.frT h.get? (asK h.get? n)) p).2 = true ∧ ∃ o, h.get? (He.cT (He.frT h.get? (asK h.get? n)) p).2 = some o ∧ He.emptyTab o = true := fun p hp => by
    obtain ⟨h3, h4⟩ := He.ba (List.all_eq_true.mp h2 p hp)
    refine ⟨h3, ?_⟩
    cases q : h.get? (He.cT (He.frT h.get? (asK h.get? n)) p).2 with
    | none =>
      rw [q] at h4
      cases h4
    | some o =>
      rw [q] at h4
      exact ⟨o, rfl, h4⟩
  exact ⟨e1, h1, fun p hp => (key p hp).1, fun p hp => by
    obtain ⟨_, o, q, z⟩ := key p hp
    exact He.frT_none q z, fun p hp => by
    obtain ⟨_, o, q, z⟩ := key p hp
    rw [q, He.emptyTab_eq z]⟩
def hookK (n : Nat) (fa : List He.Fa) (fn : List He.DefD) (tf : List He.Defn) (ex : Fr → Bool) : PySem.W.Hook where
  α := AlK
  obs := fun s => obsK n fa fn tf ex s.heap.get?
  val := fun _ => valK fn
  says := fun _ h => ∃ K : Fr, K.In h ∧ SaysK fa fn tf ex h K
  of := fun _ _ e => ⟨_, He.frT_in, saysK_of e⟩
  keeps := fun _ _ _ ⟨K, hK, c⟩ k => ⟨K, PySem.W.Frag.In.keeps hK k, ⟨c.d, c.more, c.hd, c.out, fun p hp => k _ _ (c.empty p hp)⟩⟩
theorem obsK_eq {n : Nat} {fa : List He.Fa} {fn : List He.DefD} {tf : List He.Defn} {ex : Fr → Bool} {g : Addr → Option Obj} {s : Shared} (h : ∀ a, g a = s.heap.get? a) : obsK n fa fn tf ex g = (hookK n fa fn tf ex).obs s := by
  have e : g = s.heap.get? := funext h
  rw [e] <;> rfl
/-! ### defs -/
abbrev dOf (x : Str) (st : Stmt) : He.DefD := ⟨(x, none), x, x, defArgs st, defBody st, defScope st, [], []⟩
abbrev mOf (C m q : Str) (st : Stmt) : He.DefD := ⟨(C, some m), m, q, defArgs st, defBody st, defScope st, [], []⟩
section
variable {K : Fr} {h : Heap} {mg : Str → Option Value}
theorem fun_of {x q : Str} {st : Stmt} {f : Addr} {fd : FuncData} (F : FunD K x q (defArgs st) (defBody st) (defScope st) [] [] f fd) : Fun K x q st f fd := by
  obtain ⟨⟨oc, od, dV, kV, doc, pm, an, cdv, ct, osl, e, lk, hc, dv, _⟩, kp⟩ := F
  rcases dv with ⟨_, rfl⟩ | ⟨z, _⟩
  · exact ⟨⟨oc, od, kV, doc, pm, an, cdv, ct, osl, e, lk, hc⟩, kp⟩
  · exact absurd rfl z
theorem top_of {x : Str} {st : Stmt} {ps : List Str} (X : K.In h) (G : h.Ns mainGlobals mg) (D : ∃ fd, FunD K x x (defArgs st) (defBody st) (defScope st) [] [] (He.ga K x) fd) (g : (He.Fa.glo x).ok K = true)
    (hb : ∀ (kV doc pm : Value) (an : Option Addr) (cdv ct : Value) (us : List Value), us.length = ps.length → bindArgs (PySem.W.fnOf x x (defArgs st) (defBody st) (defScope st) .none kV doc pm an cdv ct) ⟨us, []⟩ = pure (ps.zip us)) : Top K mg x st ps := by
  obtain ⟨fd, F⟩ := D
  have F' := fun_of F
  exact ⟨_, fd, F', He.glo_ok X G g, F'.binds hb⟩
theorem topC_of {x : Str} {st : Stmt} {ps : List Str} (X : K.In h) (G : h.Ns mainGlobals mg) (D : ∃ fd, FunD K x x (defArgs st) (defBody st) (defScope st) [] [] (He.fAd K (x, none)) fd) (g : (He.Fa.glo x).ok K = true)
    (hb : ∀ (kV doc pm : Value) (an : Option Addr) (cdv ct : Value) (us : List Value), us.length = ps.length → bindArgs (PySem.W.fnOf x x (defArgs st) (defBody st) (defScope st) .none kV doc pm an cdv ct) ⟨us, []⟩ = pure (ps.zip us)) : TopC K mg x st ps (He.cT K (x, none)).1 := by
  obtain ⟨fd, ⟨oc, od, dV, kV, doc, pm, an, cdv, ct, osl, rfl, lk, hc, dv, _⟩, kp⟩ := D
  obtain ⟨c, rfl⟩ := He.codeIn_ref hc
  have ec : He.codeOf K (x, none) = c := He.codeOf_eq lk rfl
  rcases dv with ⟨_, rfl⟩ | ⟨z, _⟩
  · have e2 : (He.cT K (x, none)).1 = c := ec
    rw [e2]
    exact ⟨_, oc, od, kV, doc, pm, an, ct, osl, lk, hc, kp, He.glo_ok X G g, .all (hb kV doc pm an (.ref c) ct)⟩
  · exact absurd rfl z
end
theorem TopC.kw {K : Fr} {mg : Str → Option Value} {x : Str} {st : Stmt} {ps ks : List Str} {c : Addr} {g : List Value → List Value → List Value} {gV : List V → List V → List V} (D : TopC K mg x st ps c)
    (hb : ∀ (kV doc pm : Value) (an : Option Addr) (cdv ct : Value) (us ws : List Value), (g us ws).length = ps.length → bindArgs (PySem.W.fnOf x x (defArgs st) (defBody st) (defScope st) .none kV doc pm an cdv ct) ⟨us, ks.zip ws⟩ = pure (ps.zip (g us ws)))
    (rel : ∀ {vs : List V} {us : List Value} {zs : List V} {ws : List Value}, Vals vs us → Vals zs ws → Vals (gV vs zs) (g us ws)) : KwOf K mg x ps ks g gV := by
  obtain ⟨f, oc, od, kV, doc, pm, an, ct, osl, lk, _, _, m, _⟩ := D
  exact ⟨f, _, m, ⟨oc, od, osl, lk⟩, ⟨fun s us ws _ hl => .of_eq (hb kV doc pm an (.ref c) ct us ws hl), rel⟩⟩
/-! ### the refusals' classes -/
def xcB (K : Fr) (C : Addr) : Bool := PySem.W.isClsIn K C && (He.eqO (PySem.W.findIn K (.ref C) "__getattribute__") (some (some (.builtin "BaseException.__getattribute__"))) && (He.eqO (PySem.W.findIn K (.ref C) "__getattr__") (some none) &&
  (decide (PySem.W.subIn K (.ref C) (.type "BaseException") = some true) && (PySem.W.hasDictIn K C && (He.eqO (PySem.W.findIn K (.ref C) "__class__") (some (some (.builtin "object.__class__"))) &&
  (He.eqO (PySem.W.specialIn K (.builtin "object.__class__") "__get__") (some (some (.builtin "getset_descriptor.__get__"))) && (decide (PySem.W.takesIn K (.builtin "object.__class__") = some true) && decide (PySem.W.mroIn K C (.type "object") = some true))))))))
theorem xcB_ok {K : Fr} {C : Addr} (h : xcB K C = true) : XcC K C := by
  obtain ⟨a1, h⟩ := He.ba h
  obtain ⟨a2, h⟩ := He.ba h
  obtain ⟨a3, h⟩ := He.ba h
  obtain ⟨a4, h⟩ := He.ba h
  obtain ⟨a5, h⟩ := He.ba h
  obtain ⟨a6, h⟩ := He.ba h
  obtain ⟨a7, h⟩ := He.ba h
  obtain ⟨a8, a9⟩ := He.ba h
  exact ⟨a1, He.eqO_ok a2, He.eqO_ok a3, of_decide_eq_true a4, a5, He.eqO_ok a6, He.eqO_ok a7, of_decide_eq_true a8, of_decide_eq_true a9⟩
def kitB (K : Fr) (C CR CA CB CF CN CU : Addr) (a b f n u : Bool) : Bool := xcB K C && (decide (PySem.W.kitOne K (.ref C) (.ref CR) = some true) && (decide (PySem.W.kitOne K (.ref C) (.type "ValueError") = some true) && (decide (PySem.W.kitOne K (.ref C) (.ref CA) = some a) &&
  (decide (PySem.W.kitOne K (.ref C) (.ref CB) = some b) && (decide (PySem.W.kitOne K (.ref C) (.ref CF) = some f) && (decide (PySem.W.kitOne K (.ref C) (.ref CN) = some n) && decide (PySem.W.kitOne K (.ref C) (.ref CU) = some u)))))))
theorem kitB_ok {K : Fr} {C CR CA CB CF CN CU : Addr} {a b f n u : Bool} (h : kitB K C CR CA CB CF CN CU a b f n u = true) : Kit K C CR CA CB CF CN CU a b f n u := by
  obtain ⟨a1, h⟩ := He.ba h
  obtain ⟨a2, h⟩ := He.ba h
  obtain ⟨a3, h⟩ := He.ba h
  obtain ⟨a4, h⟩ := He.ba h
  obtain ⟨a5, h⟩ := He.ba h
  obtain ⟨a6, h⟩ := He.ba h
  obtain ⟨a7, a8⟩ := He.ba h
  exact ⟨xcB_ok a1, of_decide_eq_true a2, of_decide_eq_true a3, of_decide_eq_true a4, of_decide_eq_true a5, of_decide_eq_true a6, of_decide_eq_true a7, of_decide_eq_true a8⟩
/-- the kit by names -/
abbrev kitN (K : Fr) (x : Str) (a b f n u : Bool) : Bool := kitB K (He.ga K x) (He.ga K "RowError") (He.ga K "NoAsk") (He.ga K "NoBack") (He.ga K "NoFit") (He.ga K "NoNumber") (He.ga K "NoRule") a b f n u
def oexB (K : Fr) (C : Addr) : Bool := (match K.lookup C with
  | some ⟨.type "type", _, .cls cd, sl⟩ => (match cd.mro, sl.toList with
    | .ref C' :: bm, [_, _, _, _, some (.builtin n), _] => C' == C && n == "ValueError.__new__" && !cd.hasDel && cd.hasDict && PySem.HandSPX.refsVE bm
    | _, _ => false)
  | _ => false) && (He.eqO (PySem.W.findIn K (.ref C) "__setattr__") (some (some (.builtin "object.__setattr__"))) && (decide (PySem.W.subIn K (.ref C) (.type "BaseException") = some true) && (decide (PySem.W.typeIn K (.ref C) = some (.type "type")) && PySem.W.keepIn K (.ref C))))
theorem oexB_ok {K : Fr} {C : Addr} (h : oexB K C = true) : OexC K C := by
  obtain ⟨q, h⟩ := He.ba h
  obtain ⟨a2, h⟩ := He.ba h
  obtain ⟨a3, h⟩ := He.ba h
  obtain ⟨a4, a5⟩ := He.ba h
  refine ⟨?_, He.eqO_ok a2, of_decide_eq_true a3, of_decide_eq_true a4, a5⟩
  split at q
  · rename_i dd cd sl ho
    split at q
    · rename_i C' bm k0 k1 k2 k3 n k5 hm hs
      simp only [Bool.and_eq_true, beq_iff_eq, Bool.not_eq_true'] at q
      obtain ⟨⟨⟨⟨rfl, rfl⟩, hdel⟩, hdi⟩, ht⟩ := q
      obtain ⟨nm, bs, mro, ns, qn, hd, sn, sub, ab, col, del⟩ := cd
      dsimp only at hm hdel hdi
      subst hm hdel hdi
      have hsl : sl = #[k0, k1, k2, k3, some (.builtin "ValueError.__new__"), k5] := by
        obtain ⟨l⟩ := sl
        simp only at hs
        rw [hs]
      subst hsl
      exact ⟨nm, qn, ns, bs, bm, sn, sub, ab, col, dd, k0, k1, k2, k3, k5, ho, ht⟩
    · cases q
  · cases q
def rdB (K : Fr) (C : Addr) : Bool := PySem.W.readsIn K C (.type "type") && (He.eqO (PySem.W.specialIn K (.ref C) "__getattribute__") (some (some (.builtin "type.__getattribute__"))) && (match PySem.W.findCls K (.ref C) (.type "type") "__init__" with
  | some (.val (.builtin n)) => n == "ValueError.__init__"
  | _ => false))
theorem rdB_ok {K : Fr} {C : Addr} (h : rdB K C = true) : ClX.CRead K C (.type "type") ∧ PySem.W.findCls K (.ref C) (.type "type") "__init__" = some (.val (.builtin "ValueError.__init__")) := by
  obtain ⟨a1, h⟩ := He.ba h
  obtain ⟨a2, q⟩ := He.ba h
  refine ⟨⟨a1, He.eqO_ok a2⟩, ?_⟩
  split at q
  · rename_i n e
    rw [beq_iff_eq] at q
    subst q
    exact e
  · cases q
/-- what is asked of NoNumber and of its base -/
def numB (K : Fr) : Bool := oexB K (He.ga K "NoNumber") && rdB K (He.ga K "RowError")
def exmB (K : Fr) (x y : Str) : Bool := decide (PySem.W.exmOne K (.ref (He.ga K x)) (.ref (He.ga K y)) = some true)
def strB (K : Fr) (x : Str) : Bool := He.eqO (PySem.W.findIn K (.ref (He.ga K x)) "__str__") (some (some (.builtin "BaseException.__str__")))
/-! ### the end -/
def spLawT (K : PySem.W.Frag) (P1 P2 : Addr) : Sp := sp1 fun a H Q _ => ∃ (sa : Addr) (xs : List Int), a = .ref sa ∧ SqL K H sa (xs.map V.int) ∧ GxR.TabG H P1 ∧ GxR.TabG H P2 ∧ ∀ H', Q (.bl true) H'
theorem tabB_of {h : Heap} {mg : Str → Option Value} {c P : Addr} (T : LamX.TabB h mg c P) : GxR.TabB h mg c P := ⟨T.code, T.bm, T.gP⟩
theorem tabG_nil {H : Hp} {P : Addr} (e : H P = some (.tbl #[])) : GxR.TabG H P := ⟨#[], e, by first | trivial | exact .nil | simp [TriplesOk]⟩
end Tw


namespace Tw
open PySem PySem.Spec PyProof.Rows L2
def topS (i : Nat) : Stmt := PySem.Challenge.pw_timesrow_k05_whole_steps.main.body.getD i (.Pass ⟨0, 0, 0, 0⟩)
abbrev s_mix : Stmt := topS 24
theorem sc_mix : FnScope ["cell", "k", "number"] ["cell", "k"] (defScope s_mix) := ⟨rfl, rfl, rfl, by decide +kernel, rfl, by decide +kernel, by decide +kernel⟩
abbrev s_deck : Stmt := topS 25
theorem sc_deck : FnScope ["script"] ["script"] (defScope s_deck) := ⟨rfl, rfl, rfl, by decide +kernel, rfl, by decide +kernel, by decide +kernel⟩
abbrev s_next : Stmt := topS 26
theorem sc_next : FnScope ["deck", "many", "cell", "found"] ["deck", "many"] (defScope s_next) := ⟨rfl, rfl, rfl, by decide +kernel, rfl, by decide +kernel, by decide +kernel⟩
abbrev s_great : Stmt := topS 27
theorem sc_great : FnScope ["deck", "most"] ["deck", "most"] (defScope s_great) := ⟨rfl, rfl, rfl, by decide +kernel, rfl, by decide +kernel, by decide +kernel⟩
section
variable {P : Program} {w : World} {K : PySem.W.Frag} {mg : Str → Option Value} {base : Heap}
theorem ok_mix (D : Top K mg "_law_mix" s_mix ["cell", "k"]) : Has P w K mg base CX0 1 "_law_mix" ["cell", "k"] (sp2 pMix) := by
  refine D.ok2 sc_mix (fun f cdv A outer s H v1 v2 Q E hr h => ?_)
  obtain ⟨c, k, rfl, rfl, k0, k1, q⟩ := h
  refine ⟨_, (pss_cons (ps_set (i := 2) sc_mix.nd rfl (.inl rfl) (pe_op op_add (pe_op op_mod (pv 0) pe_int) (pe_op op_mulB (pe_op op_mulB pe_int (pv 1)) (pv 1))))
 (pss_cons (ps_set (i := 2) sc_mix.nd rfl (.inl rfl) (pe_op op_mod (pe_op op_add (pv 2) (pe_op op_mulB pe_int (pv 1))) pe_int))
 (pss_cons (ps_set (i := 2) sc_mix.nd rfl (.inl rfl) (pe_op op_mod (pe_op op_mulB (pv 2) (pv 2)) pe_int))
 (pss_one (ps_ret (pe_op op_fdivB (pe_op op_mod (pe_op op_mulB (pv 2) (pe_op op_add (pv 2) pe_int)) pe_int) pe_int)))))), ?_⟩
  have b1 := mod_bd c (b := 2147483629) (by decide)
  have m1 := mul_bd k0 (show k ≤ 1000000000 by omega) k0 (show k ≤ 1000000000 by omega)
  refine ⟨_, rfl, _, _, rfl, rfl, by show (0:Int) < _; decide, _, rfl, _, _, rfl, rfl, ⟨by unfold Big; omega, by unfold Big; omega⟩, _, rfl, _, _, rfl, rfl, ⟨by unfold Big; omega, by unfold Big; omega⟩, _, _, rfl, rfl, ?_⟩
  refine ⟨_, rfl, _, rfl, _, _, rfl, rfl, ⟨by unfold Big; omega, by unfold Big; omega⟩, _, _, rfl, rfl, _, _, rfl, rfl, by show (0:Int) < _; decide, ?_⟩
  generalize c % 2147483629 + 1000003 * k * k + 7919 * k = z1
  have b2 := mod_bd z1 (b := 2147483629) (by decide)
  refine ⟨_, rfl, _, rfl, _, _, rfl, rfl, ⟨by unfold Big; omega, by unfold Big; omega⟩, _, _, rfl, rfl, by show (0:Int) < _; decide, ?_⟩
  generalize z1 % 2147483629 * (z1 % 2147483629) = z2
  have b3 := mod_bd z2 (b := 2147483587) (by decide)
  refine ⟨_, rfl, _, rfl, _, _, rfl, rfl, _, _, rfl, rfl, ⟨by unfold Big; omega, by unfold Big; omega⟩, _, _, rfl, rfl, by show (0:Int) < _; decide, _, _, rfl, rfl, ⟨by decide, by decide⟩, ?_⟩
  generalize z2 % 2147483587 * (z2 % 2147483587 + 40961) = z3
  have b4 := mod_bd z3 (b := 2147483563) (by decide)
  exact q _ (by omega)
theorem ok_deck (D : Top K mg "_law_deck" s_deck ["script"]) (z_sum : mg "sum" = none) : Has P w K mg base CX0 1 "_law_deck" ["script"] (sp1 (pDeck K)) := by
  refine D.ok1 sc_deck (fun f cdv A outer s H v1 Q E hr h => ?_)
  obtain ⟨sa, xs, rfl, hS, q⟩ := h
  refine ⟨_, (pss_one (ps_ret (pe_lst (pa_cons (pe_slice sl_list (pv 0) po_none (po_some pe_int)) (pa_cons pe_int (pa_cons pe_int (pa_cons pe_int (pa_cons (pe_callB (id := "sum") (cr_sum rfl) (by rfl) z_sum (by decide +kernel) (pa_cons (pe_slice sl_list (pv 0) po_none (po_some pe_int)) pa_nil)) pa_nil)))))))), ?_⟩
  have ec : cutV (xs.map V.int) none (some 63) = (xs.take 63).map V.int := by
    rw [List.map_take]
    exact cut_take _ 63
  refine ⟨_, rfl, _, rfl, sa, _, rfl, hS, fun c nc => ?_⟩
  have s1 := same_new (o := .lst (cutV (xs.map V.int) none (some 63))) nc
  refine ⟨_, rfl, _, rfl, sa, _, rfl, s1.seq hS, fun c2 nc2 => ?_⟩
  have s2 := same_new (o := .lst (cutV (xs.map V.int) none (some 63))) nc2
  refine ⟨c2, xs.take 63, rfl, ?_, ?_⟩
  · rw [ec]
    exact SqL.of upd_same
  · refine ⟨by show 5 ≤ sizeLine; decide, fun d nd => ?_⟩
    have s3 := same_new (o := .lst [.ref c, .int 0, .int 0, .int 0, .int (xs.take 63).sum]) nd
    have hc : (upd (upd H c (.lst (cutV (xs.map V.int) none (some 63)))) c2 (.lst (cutV (xs.map V.int) none (some 63)))) c = some (.lst ((xs.take 63).map V.int)) := by
      rw [← ec]
      exact s2 _ _ upd_same
    refine q _ d (s1.trans (s2.trans s3)) (s1.free (s2.free nd)) ⟨c, xs.take 63, 0, 0, 0, (xs.take 63).sum, upd_same, s3 _ _ hc, ne_of_none hc nd, ?_, by omega, by omega, by omega, by omega, by omega⟩
    rw [List.length_take]
    omega
theorem ok_next (D : Top K mg "_law_next" s_next ["deck", "many"]) (h_mix : Has P w K mg base CX0 1 "_law_mix" ["cell", "k"] (sp2 pMix)) (z_len : mg "len" = none) : Has P w K mg base CX0 2 "_law_next" ["deck", "many"] (sp2 (pNext 1)) := by
  refine D.ok2 sc_next (fun f cdv A outer s H v1 v2 Q E hr h => ?_)
  obtain ⟨d, n, m, rfl, rfl, m0, m1, hD, hn, q⟩ := h
  refine ⟨_, (C8.pss_cut (ps_if (PW.pt (pw_and (pt_cmpR op_eq (pe_ix ix_list (pv 0) pe_int (fun _ _ => rfl)) pe_int (nomark _)) (pw_and1 (pt_cmpR op_lt (pe_ix ix_list (pv 0) pe_int (fun _ _ => rfl)) (pe_callB (id := "len") call_len_seq (by rfl) z_len (by decide +kernel) (pa_cons (pe_ix ix_list (pv 0) pe_int (fun _ _ => rfl)) pa_nil)) (nomark _))))) (pss_cons (ps_set (i := 2) sc_next.nd rfl (.inl rfl) (pe_ix ix_list (pe_ix ix_list (pv 0) pe_int (fun _ _ => rfl)) (pe_ix ix_list (pv 0) pe_int (fun _ _ => rfl)) (fun _ _ => rfl)))
 (pss_cons (ps_asg (pe_op op_add (pe_ix ix_list (pv 0) pe_int (fun _ _ => rfl)) pe_int) (pg_sub (pv 0) pe_int set_list))
 (pss_cons (ps_if (pt_cmpR op_lt (pv 2) (pe_op op_pow pe_int pe_int) (nomark _)) (pss_one (ps_ret (pe_op op_mod (pe_own h_mix (hr.mono (by decide)) pass0 (pa_cons (pv 2) (pa_cons (pe_ix ix_list (pv 0) pe_int (fun _ _ => rfl)) pa_nil))) (pv 1)))) pss_nil)
 (pss_one (ps_asg (pv 2) (pg_sub (pv 0) pe_int set_list)))))) pss_nil)
 (pss_cons (ps_if (pt_cmpR op_gt (pe_ix ix_list (pv 0) pe_int (fun _ _ => rfl)) pe_int (nomark _)) (pss_cons (ps_set (i := 3) sc_next.nd rfl (.inl rfl) (pe_op op_mod (pe_ix ix_list (pv 0) pe_int (fun _ _ => rfl)) (pv 1)))
 (pss_cons (ps_asg (pe_op op_fdivB (pe_ix ix_list (pv 0) pe_int (fun _ _ => rfl)) (pv 1)) (pg_sub (pv 0) pe_int set_list))
 (pss_one (ps_ret (pv 3))))) pss_nil)
 (pss_cons (ps_asg (pe_op op_add (pe_ix ix_list (pv 0) pe_int (fun _ _ => rfl)) pe_int) (pg_sub (pv 0) pe_int set_list))
 (pss_one (ps_ret (pe_op op_mod (pe_own h_mix (hr.mono (by decide)) pass0 (pa_cons (pe_ix ix_list (pv 0) pe_int (fun _ _ => rfl)) (pa_cons (pe_op op_add (pe_ix ix_list (pv 0) pe_int (fun _ _ => rfl)) pe_int) pa_nil))) (pv 1))))))), ?_⟩
  obtain ⟨c, xs, i, r, k, t, hd, hc, ncd, hx, i0, i1, r0, k0, k1⟩ := hD
  -- what follows the first if: the deck with its own i and r
  refine ⟨fun σ' H' => ∃ (y : Option V) (i' r' : Int), σ' = [some (.ref d), some (.int m), y, none] ∧ H' = upd H d (.lst [.ref c, .int i', .int r', .int k, .int t]) ∧ 0 ≤ i' ∧ i' ≤ (xs.length : Int) ∧ 0 ≤ r', ?_, ?_⟩
  · have self : upd H d (.lst [.ref c, .int i, .int r, .int k, .int t]) = H := by
      funext b
      by_cases e : b = d
      · rw [e, upd_same, hd]
      · rw [upd_ne e]
    refine ⟨_, rfl, d, _, 2, .int r, rfl, rfl, SqL.of hd, rfl, rfl, _, rfl, ifI (fun er => ?_) (fun er => ?_)⟩
    · refine ⟨_, rfl, d, _, 1, .int i, rfl, rfl, SqL.of hd, rfl, _, rfl, d, _, 0, .ref c, rfl, rfl, SqL.of hd, rfl, c, _, rfl, .inl (SqL.of hc), _, _, rfl, rfl, _, rfl, ifD (fun il => ?_) (fun il => ?_)⟩
      · rw [List.length_map] at il
        obtain ⟨j, rfl⟩ := Int.eq_ofNat_of_zero_le i0
        have jl : j < xs.length := by omega
        have ej : (xs.map V.int)[j]? = some (.int xs[j]) := by rw [List.getElem?_map, List.getElem?_eq_getElem jl]; rfl
        refine ⟨_, rfl, d, _, 0, .ref c, rfl, rfl, SqL.of hd, rfl, _, rfl, d, _, 1, .int (j : Int), rfl, rfl, SqL.of hd, rfl, c, _, _, _, rfl, rfl, SqL.of hc, atI_nat ej, ?_⟩
        refine ⟨_, rfl, d, _, 1, .int (j : Int), rfl, rfl, SqL.of hd, rfl, _, _, rfl, rfl, _, rfl, d, _, 1, 1, rfl, rfl, hd, rfl, ?_⟩
        refine ⟨_, rfl, _, _, rfl, rfl, ⟨by decide, by decide, by decide⟩, _, _, rfl, rfl, _, rfl, ifD (fun cl => ?_) (fun cl => ?_)⟩
        · refine ⟨_, rfl, _, rfl, d, _, 1, .int ((j : Int) + 1), rfl, rfl, SqL.of upd_same, rfl, _, _, rfl, _, _, rfl, rfl, by omega, by omega, fun v v0 => ?_⟩
          refine ⟨_, rfl, _, _, rfl, rfl, m0, ?_⟩
          have bv := mod_bd v m0
          refine q _ _ (but_mut (But.refl d H) (fun c' hc => by obtain ⟨_, ec⟩ := hc; rw [hd] at ec; cases ec; exact ⟨_, rfl⟩)) ⟨c, xs, (j : Int) + 1, r, k, t, upd_same, ?_, ncd, hx, by omega, by omega, r0, k0, by omega⟩ bv.1 bv.2
          rw [upd_ne ncd]
          exact hc
        · refine ⟨_, rfl, _, rfl, d, _, 2, 2, rfl, rfl, upd_same, rfl, some (.int xs[j]), (j : Int) + 1, xs[j], rfl, ?_, by omega, by omega, ?_⟩
          · rw [upd_upd]
            rfl
          · have z : (10 : Int) ^ (18 : Int).toNat = 1000000000000000000 := by decide
            rw [z] at cl
            omega
      · exact ⟨none, i, r, rfl, self.symm, i0, i1, r0⟩
    · exact ⟨none, i, r, rfl, self.symm, i0, i1, r0⟩
  · rintro σ' H' ⟨y, i', r', rfl, rfl, i0', i1', r0'⟩
    refine ⟨_, rfl, d, _, 2, .int r', rfl, rfl, SqL.of upd_same, rfl, _, _, rfl, rfl, _, rfl, ifD (fun rp => ?_) (fun rp => ?_)⟩
    · refine ⟨_, rfl, d, _, 2, .int r', rfl, rfl, SqL.of upd_same, rfl, _, rfl, _, _, rfl, rfl, m0, ?_⟩
      refine ⟨_, rfl, d, _, 2, .int r', rfl, rfl, SqL.of upd_same, rfl, _, rfl, _, _, rfl, rfl, ⟨m0, m1⟩, _, rfl, d, _, 2, 2, rfl, rfl, upd_same, rfl, ?_⟩
      have bv := mod_bd r' m0
      refine ⟨_, rfl, q _ _ (but_mut (but_mut (But.refl d H) (fun c' hc => by obtain ⟨_, ec⟩ := hc; rw [hd] at ec; cases ec; exact ⟨_, rfl⟩)) (fun c' hc => by obtain ⟨_, ec⟩ := hc; rw [upd_same] at ec; cases ec; exact ⟨_, rfl⟩)) ⟨c, xs, i', r' / m, k, t, upd_same, ?_, ncd, hx, i0', i1', Int.ediv_nonneg r0' (by omega), k0, by omega⟩ bv.1 bv.2⟩
      rw [upd_ne ncd, upd_ne ncd]
      exact hc
    · refine ⟨_, rfl, d, _, 3, .int k, rfl, rfl, SqL.of upd_same, rfl, _, _, rfl, rfl, _, rfl, d, _, 3, 3, rfl, rfl, upd_same, rfl, ?_⟩
      refine ⟨_, rfl, d, _, 4, .int t, rfl, rfl, SqL.of upd_same, rfl, _, rfl, d, _, 3, .int (k + 1), rfl, rfl, SqL.of upd_same, rfl, _, _, rfl, rfl, _, _, rfl, _, _, rfl, rfl, by omega, by omega, fun v v0 => ?_⟩
      refine ⟨_, rfl, _, _, rfl, rfl, m0, ?_⟩
      have bv := mod_bd v m0
      refine q _ _ (but_mut (but_mut (But.refl d H) (fun c' hc => by obtain ⟨_, ec⟩ := hc; rw [hd] at ec; cases ec; exact ⟨_, rfl⟩)) (fun c' hc => by obtain ⟨_, ec⟩ := hc; rw [upd_same] at ec; cases ec; exact ⟨_, rfl⟩)) ⟨c, xs, i', r', k + 1, t, upd_same, ?_, ncd, hx, i0', i1', r0', by omega, by omega⟩ bv.1 bv.2
      rw [upd_ne ncd, upd_ne ncd]
      exact hc
theorem ok_great (D : Top K mg "_law_great" s_great ["deck", "most"]) (h_next : Has P w K mg base CX0 2 "_law_next" ["deck", "many"] (sp2 (pNext 1))) : Has P w K mg base CX0 3 "_law_great" ["deck", "most"] (sp2 (pNext 2)) := by
  refine D.ok2 sc_great (fun f cdv A outer s H v1 v2 Q E hr h => ?_)
  obtain ⟨d, n, m, rfl, rfl, m0, m1, hD, hn, q⟩ := h
  refine ⟨_, (pss_one (ps_ret (pe_op op_mod (pe_op op_add (pe_op op_mulB (pe_own h_next (hr.mono (by decide)) pass0 (pa_cons (pv 0) (pa_cons (pe_op op_pow pe_int pe_int) pa_nil))) (pe_op op_pow pe_int pe_int)) (pe_own h_next (hr.mono (by decide)) pass0 (pa_cons (pv 0) (pa_cons (pe_op op_pow pe_int pe_int) pa_nil)))) (pv 1)))), ?_⟩
  have z : (10 : Int) ^ (6 : Int).toNat = 1000000 := by decide
  refine ⟨_, rfl, _, _, rfl, rfl, ⟨by decide, by decide, by decide⟩, _, _, rfl, d, n, _, rfl, rfl, by decide, by decide, hD, by omega, fun H1 v B1 D1 v0 v1 => ?_⟩
  rw [z] at v1
  refine ⟨_, _, rfl, rfl, ⟨by decide, by decide, by decide⟩, _, _, rfl, rfl, ⟨by unfold Big; omega, show Big 1000000 from ⟨by decide, by decide⟩⟩, ?_⟩
  refine ⟨_, rfl, _, _, rfl, rfl, ⟨by decide, by decide, by decide⟩, _, _, rfl, d, n + 1, _, rfl, rfl, by decide, by decide, D1, by omega, fun H2 u B2 D2 u0 u1 => ?_⟩
  refine ⟨_, _, rfl, rfl, _, rfl, _, _, rfl, rfl, m0, ?_⟩
  have bv := mod_bd (v * 10 ^ (6 : Int).toNat + u) m0
  exact q _ _ (B1.trans B2) D2 bv.1 bv.2
end
end Tw


namespace Tw
open PySem PySem.Spec PyProof.Rows L2
abbrev s_bound : Stmt := topS 28
theorem sc_bound : FnScope ["deck", "most", "way", "found", "k", "prime", "some"] ["deck", "most"] (defScope s_bound) := ⟨rfl, rfl, rfl, by decide +kernel, rfl, by decide +kernel, by decide +kernel⟩
section
variable {P : Program} {w : World} {K : PySem.W.Frag} {mg : Str → Option Value} {base : Heap}
theorem ok_bound (D : Top K mg "_law_bound" s_bound ["deck", "most"]) (h_next : Has P w K mg base CX0 2 "_law_next" ["deck", "many"] (sp2 (pNext 1))) (h_great : Has P w K mg base CX0 3 "_law_great" ["deck", "most"] (sp2 (pNext 2))) (z_len : mg "len" = none) (z_range : mg "range" = none) :
    Has P w K mg base CX0 4 "_law_bound" ["deck", "most"] (sp2 pBound) := by
  refine D.ok2 sc_bound (fun f cdv A outer s H v1 v2 Q E hr h => ?_)
  obtain ⟨d, n, m, rfl, rfl, m0, m1, hD, hn, q⟩ := h
  refine ⟨_, (pss_cons (ps_set (i := 2) sc_bound.nd rfl (.inl rfl) (pe_own h_next (hr.mono (by decide)) pass0 (pa_cons (pv 0) (pa_cons pe_int pa_nil))))
 (pss_cons (ps_if (pt_cmpR op_eq (pv 2) pe_int (nomark _)) (pss_one (ps_ret (pe_op op_add pe_int (pe_own h_next (hr.mono (by decide)) pass0 (pa_cons (pv 0) (pa_cons pe_int pa_nil)))))) pss_nil)
 (pss_cons (ps_if (pt_cmpR op_eq (pv 2) pe_int (nomark _)) (pss_one (ps_ret (pe_op op_add pe_int (pe_own h_great (hr.mono (by decide)) pass0 (pa_cons (pv 0) (pa_cons (pv 1) pa_nil)))))) pss_nil)
 (pss_cons (ps_if (pt_cmpR op_eq (pv 2) pe_int (nomark _)) (pss_cons (ps_set (i := 3) sc_bound.nd rfl (.inl rfl) pe_int)
 (pss_cons (ps_for PassesOwn.never rfl (pi_range1 (by rfl) z_range (pa_cons pe_int pa_nil)) (pg_name (i := 4) sc_bound.nd rfl (.inl rfl)) (pss_cons (ps_set (i := 5) sc_bound.nd rfl (.inl rfl) (pe_ix ix_list (pe_lst (pa_cons pe_int (pa_cons pe_int (pa_cons pe_int (pa_cons pe_int (pa_cons pe_int (pa_cons pe_int (pa_cons pe_int (pa_cons pe_int pa_nil))))))))) (pe_own h_next (hr.mono (by decide)) pass0 (pa_cons (pv 0) (pa_cons pe_int pa_nil))) (fun _ _ => rfl)))
 (pss_one (ps_if (pt_cmpR op_le (pe_op op_mulB (pv 3) (pv 5)) (pv 1) (nomark _)) (pss_one (ps_set (i := 3) sc_bound.nd rfl (.inl rfl) (pe_op op_mulB (pv 3) (pv 5)))) pss_nil))))
 (pss_one (ps_ret (pv 3))))) pss_nil)
 (pss_cons (ps_if (pt_cmpR op_eq (pv 2) pe_int (nomark _)) (pss_cons (ps_setLc (i := 6) (own := [("prime", 5)]) (by rfl) sc_bound.nd rfl rfl (sw_true rfl rfl rfl (by decide +kernel)) (pi_list (pe_lst (pa_cons pe_int (pa_cons pe_int (pa_cons pe_int (pa_cons pe_int (pa_cons pe_int (pa_cons pe_int (pa_cons pe_int (pa_cons pe_int pa_nil)))))))))) (blkOk_by (own := [("prime", 5)]) (N := ["deck", "most", "way", "found", "k", "prime", "some"]) (sc := defScope s_bound) (by decide +kernel)) (fun _ _ _ _ _ => pg_name (i := 5) sc_bound.nd rfl (Or.inl rfl)) (fun _ _ _ _ _ => pts_one (pt_cmpR op_le (pv 5) (pv 1) (nomark _))) (fun _ _ _ _ _ => (pv 5)))
 (pss_one (ps_ret (pe_ix ix_list (pv 6) (pe_own h_next (hr.mono (by decide)) pass0 (pa_cons (pv 0) (pa_cons (pe_callB (id := "len") call_len_seq (by rfl) z_len (by decide +kernel) (pa_cons (pv 6) pa_nil)) pa_nil))) (fun _ _ => rfl))))) pss_nil)
 (pss_cons (ps_if (pt_cmpR op_eq (pv 2) pe_int (nomark _)) (pss_one (ps_ret (pe_op op_sub (pv 1) (pe_own h_next (hr.mono (by decide)) pass0 (pa_cons (pv 0) (pa_cons pe_int pa_nil)))))) pss_nil)
 (pss_cons (ps_set (i := 3) sc_bound.nd rfl (.inl rfl) pe_int)
 (pss_cons (ps_set (i := 5) sc_bound.nd rfl (.inl rfl) (pe_ix ix_list (pe_lst (pa_cons pe_int (pa_cons pe_int (pa_cons pe_int (pa_cons pe_int pa_nil))))) (pe_own h_next (hr.mono (by decide)) pass0 (pa_cons (pv 0) (pa_cons pe_int pa_nil))) (fun _ _ => rfl)))
 (pss_cons (ps_for PassesOwn.never rfl (pi_range1 (by rfl) z_range (pa_cons (pe_op op_add pe_int (pe_own h_next (hr.mono (by decide)) pass0 (pa_cons (pv 0) (pa_cons pe_int pa_nil)))) pa_nil)) (pg_name (i := 4) sc_bound.nd rfl (.inl rfl)) (pss_one (ps_if (pt_cmpR op_le (pe_op op_mulB (pv 3) (pv 5)) (pv 1) (nomark _)) (pss_one (ps_set (i := 3) sc_bound.nd rfl (.inl rfl) (pe_op op_mulB (pv 3) (pv 5)))) pss_nil)))
 (pss_one (ps_ret (pv 3)))))))))))), ?_⟩
  refine ⟨_, rfl, _, _, rfl, d, n, 6, rfl, rfl, by decide, by decide, hD, by omega, fun H1 way B1 D1 w0 w1 => ?_⟩
  refine ⟨_, rfl, rfl, _, rfl, ifI (fun e => ?_) (fun e0 => ?_)⟩
  · refine ⟨_, rfl, _, _, rfl, d, n + 1, 12, rfl, rfl, by decide, by decide, D1, by omega, fun H2 v B2 D2 u0 u1 => ?_⟩
    exact ⟨_, _, rfl, rfl, q _ _ (B1.trans B2) (D2.mono (by omega)) (by omega) (by omega)⟩
  refine ⟨_, rfl, rfl, _, rfl, ifI (fun e => ?_) (fun e1 => ?_)⟩
  · refine ⟨_, rfl, _, rfl, _, _, rfl, d, n + 1, m, rfl, rfl, by omega, by omega, D1, by omega, fun H2 v B2 D2 u0 u1 => ?_⟩
    exact ⟨_, _, rfl, rfl, q _ _ (B1.trans B2) (D2.mono (by omega)) (by omega) (by omega)⟩
  refine ⟨_, rfl, rfl, _, rfl, ifI (fun e => ?_) (fun e2 => ?_)⟩
  · -- found = 1; for k in range(24)
    refine ⟨24, rfl, by decide, by decide, for_range (lo := 0) (n := 24) (fun i σ H' => ∃ (yk yp : Option V) (g : Int), σ = [some (.ref d), some (.int m), some (.int way), some (.int g), yk, yp, none] ∧ But d H H' ∧ Deck H' d (n + 1 + i) ∧ 1 ≤ g ∧ g ≤ m) ⟨none, none, 1, rfl, B1, D1, by omega, by omega⟩ ?_ ?_⟩
    · rintro i σ H' hi ⟨yk, yp, g, rfl, B2, D2, g0, g1⟩
      refine ⟨by show 8 ≤ sizeLine; decide, fun l nl => ?_⟩
      have s1 := same_new (o := .lst [.int 2, .int 2, .int 3, .int 3, .int 5, .int 7, .int 11, .int 13]) nl
      refine ⟨_, rfl, _, _, rfl, d, n + 1 + i, 8, rfl, rfl, by decide, by decide, D2.same s1, by omega, fun H3 v B3 D3 u0 u1 => ?_⟩
      obtain ⟨x, hx, ex⟩ := at_ints (ns := [2, 2, 3, 3, 5, 7, 11, 13]) u0 (by show v < 8; exact u1)
      have bx : 2 ≤ x ∧ x ≤ 13 := (by decide : ∀ x ∈ ([2, 2, 3, 3, 5, 7, 11, 13] : List Int), 2 ≤ x ∧ x ≤ 13) x hx
      have hl3 : H3 l = some (.lst [.int 2, .int 2, .int 3, .int 3, .int 5, .int 7, .int 11, .int 13]) := B3 _ _ (D2.ne nl) upd_same
      have B4 : But d H H3 := (B2.trans s1.but).trans B3
      have mb := mul_bd (show 0 ≤ g by omega) g1 (show 0 ≤ x by omega) bx.2
      refine ⟨l, _, v, _, rfl, rfl, SqL.of hl3, ex, ?_⟩
      refine ⟨_, rfl, _, rfl, _, _, rfl, rfl, ⟨by unfold Big; omega, by unfold Big; omega⟩, _, rfl, _, _, rfl, rfl, _, rfl, ifD (fun le => ?_) (fun le => ?_)⟩
      · refine ⟨_, rfl, _, rfl, _, _, rfl, rfl, ⟨by unfold Big; omega, by unfold Big; omega⟩, some (.int (0 + i)), some (.int x), g * x, rfl, B4, D3.mono (by omega), ?_, le⟩
        have := mul_bd (show (0:Int) ≤ 1 by decide) g0 (show (0:Int) ≤ 1 by decide) (show 1 ≤ x by omega)
        omega
      · exact ⟨some (.int (0 + i)), some (.int x), g, rfl, B4, D3.mono (by omega), g0, g1⟩
    · rintro σ H' ⟨yk, yp, g, rfl, B2, D2, g0, g1⟩
      exact ⟨_, rfl, q _ _ B2 (D2.mono (by omega)) g0 g1⟩
  refine ⟨_, rfl, rfl, _, rfl, ifI (fun e => ?_) (fun e3 => ?_)⟩
  · -- some = [prime for prime in [..] if prime <= most]
    refine ⟨by show 8 ≤ sizeLine; decide, fun l nl => ?_⟩
    have s1 := same_new (o := .lst [.int 2, .int 3, .int 7, .int 97, .int 1999, .int 10007, .int 999983, .int 999999999989]) nl
    refine ⟨l, rfl, ⟨_, SqL.of upd_same⟩, fun L nL => ?_⟩
    have nlL : l ≠ L := ne_of_none (upd_same (H := H1)) nL
    refine lc_list (K := K) (a := l) (xs := ([2, 3, 7, 97, 1999, 10007, 999983, 999999999989] : List Int).map V.int)
      (fun i H' => ∃ acc : List Int, H' = upd (upd H1 l (.lst [.int 2, .int 3, .int 7, .int 97, .int 1999, .int 10007, .int 999983, .int 999999999989])) L (.lst (acc.map V.int)) ∧ acc.length ≤ i ∧ (∀ x ∈ acc, 2 ≤ x ∧ x ≤ m) ∧ (0 < i → 0 < acc.length)) ⟨[], rfl, Nat.le_refl _, by simp, by omega⟩ ?_ ?_ ?_
    · rintro i H' _ ⟨acc, rfl, _⟩
      refine SqL.of ?_
      rw [upd_ne nlL, upd_same]
      rfl
    · rintro i x H' hi ⟨acc, rfl, al, ab, ap⟩
      obtain ⟨z, hz, rfl⟩ : ∃ z, ([2, 3, 7, 97, 1999, 10007, 999983, 999999999989] : List Int)[i]? = some z ∧ x = V.int z := by
        rw [List.getElem?_map] at hi
        cases ez : ([2, 3, 7, 97, 1999, 10007, 999983, 999999999989] : List Int)[i]? with
        | none => rw [ez] at hi; cases hi
        | some z => rw [ez] at hi; exact ⟨z, rfl, (Option.some.inj hi).symm⟩
      have i8 : i < 8 := (List.getElem?_eq_some_iff.mp hz).1
      have z2 : 2 ≤ z := (by decide : ∀ x ∈ ([2, 3, 7, 97, 1999, 10007, 999983, 999999999989] : List Int), 2 ≤ x) z (List.mem_of_getElem? hz)
      refine ⟨rfl, _, rfl, _, rfl, _, _, rfl, rfl, _, rfl, ifD (fun le => ?_) (fun le => ?_)⟩
      · refine ⟨_, rfl, _, upd_same, ?_, acc ++ [z], ?_, ?_, fun y hy => ?_, fun _ => ?_⟩
        · rw [List.length_map]
          exact szl (by omega)
        · rw [upd_upd, List.map_append]
          rfl
        · rw [List.length_append]
          show acc.length + 1 ≤ i + 1
          omega
        · rcases List.mem_append.mp hy with hy | hy
          · exact ab y hy
          · rw [List.mem_singleton.mp hy]
            exact ⟨z2, le⟩
        · rw [List.length_append]
          show 0 < acc.length + 1
          omega
      · refine ⟨acc, rfl, by omega, ab, fun _ => ?_⟩
        by_cases i0 : 0 < i
        · exact ap i0
        · have : i = 0 := by omega
          subst this
          have ez : (2 : Int) = z := Option.some.inj hz
          omega
    · rintro H' ⟨acc, rfl, al, ab, ap⟩
      have al8 : acc.length ≤ 8 := al
      have ap' : 0 < acc.length := ap (by decide)
      have s2 := same_new (o := .lst (acc.map V.int)) nL
      refine ⟨_, rfl, _, rfl, _, rfl, L, _, rfl, .inl (SqL.of upd_same), _, _, rfl, d, n + 1, _, rfl, rfl, ?_, ?_, (D1.same s1).same s2, by omega, fun H3 v B3 D3 u0 u1 => ?_⟩
      · rw [List.length_map]
        omega
      · rw [List.length_map]
        omega
      · rw [List.length_map] at u1
        obtain ⟨x, hx, ex⟩ := at_ints (ns := acc) u0 u1
        have hl3 : H3 L = some (.lst (acc.map V.int)) := B3 _ _ ((D1.same s1).ne nL) upd_same
        have bx := ab x hx
        exact ⟨L, _, v, _, rfl, rfl, SqL.of hl3, ex, q _ _ ((B1.trans (s1.trans s2).but).trans B3) (D3.mono (by omega)) (by omega) bx.2⟩
  refine ⟨_, rfl, rfl, _, rfl, ifI (fun e => ?_) (fun e4 => ?_)⟩
  · refine ⟨_, rfl, _, rfl, _, _, rfl, d, n + 1, 50, rfl, rfl, by decide, by decide, D1, by omega, fun H2 v B2 D2 u0 u1 => ?_⟩
    exact ⟨_, _, rfl, rfl, q _ _ (B1.trans B2) (D2.mono (by omega)) (by omega) (by omega)⟩
  -- a prime's power
  refine ⟨by show 4 ≤ sizeLine; decide, fun l nl => ?_⟩
  have s1 := same_new (o := .lst [.int 2, .int 3, .int 5, .int 7]) nl
  refine ⟨_, rfl, _, _, rfl, d, n + 1, 4, rfl, rfl, by decide, by decide, D1.same s1, by omega, fun H2 v B2 D2 u0 u1 => ?_⟩
  obtain ⟨x, hx, ex⟩ := at_ints (ns := [2, 3, 5, 7]) u0 (by show v < 4; exact u1)
  have bx : 2 ≤ x ∧ x ≤ 7 := (by decide : ∀ x ∈ ([2, 3, 5, 7] : List Int), 2 ≤ x ∧ x ≤ 7) x hx
  have hl2 : H2 l = some (.lst [.int 2, .int 3, .int 5, .int 7]) := B2 _ _ (D1.ne nl) upd_same
  refine ⟨l, _, v, _, rfl, rfl, SqL.of hl2, ex, ?_⟩
  refine ⟨_, rfl, _, _, rfl, d, n + 2, 40, rfl, rfl, by decide, by decide, D2, by omega, fun H3 c B3 D3 c0 c1 => ?_⟩
  have B4 : But d H H3 := ((B1.trans s1.but).trans B2).trans B3
  refine ⟨_, _, rfl, rfl, 1 + c, rfl, by omega, by omega, for_range (lo := 0) (n := (1 + c).toNat) (fun i σ H' => ∃ (yk : Option V) (g : Int), σ = [some (.ref d), some (.int m), some (.int way), some (.int g), yk, some (.int x), none] ∧ H' = H3 ∧ 1 ≤ g ∧ g ≤ m) ⟨none, 1, rfl, rfl, by omega, by omega⟩ ?_ ?_⟩
  · rintro i σ H' hi ⟨yk, g, rfl, rfl, g0, g1⟩
    have mb := mul_bd (show 0 ≤ g by omega) g1 (show 0 ≤ x by omega) bx.2
    refine ⟨_, rfl, _, rfl, _, _, rfl, rfl, ⟨by unfold Big; omega, by unfold Big; omega⟩, _, rfl, _, _, rfl, rfl, _, rfl, ifD (fun le => ?_) (fun le => ?_)⟩
    · refine ⟨_, rfl, _, rfl, _, _, rfl, rfl, ⟨by unfold Big; omega, by unfold Big; omega⟩, some (.int (0 + i)), g * x, rfl, rfl, ?_, le⟩
      have := mul_bd (show (0:Int) ≤ 1 by decide) g0 (show (0:Int) ≤ 1 by decide) (show 1 ≤ x by omega)
      omega
    · exact ⟨some (.int (0 + i)), g, rfl, rfl, g0, g1⟩
  · rintro σ H' ⟨yk, g, rfl, rfl, g0, g1⟩
    exact ⟨_, rfl, q _ _ B4 (D3.mono (by omega)) g0 g1⟩
end
end Tw


namespace Tw
open PySem PySem.Spec PyProof.Rows L2
abbrev s_rule : Stmt := topS 29
theorem sc_rule : FnScope ["deck", "most", "bound", "times", "way", "shared", "prime", "plus"] ["deck", "most"] (defScope s_rule) := ⟨rfl, rfl, rfl, by decide +kernel, rfl, by decide +kernel, by decide +kernel⟩
section
variable {P : Program} {w : World} {K : PySem.W.Frag} {mg : Str → Option Value} {base : Heap}
theorem ok_rule (D : Top K mg "_law_rule" s_rule ["deck", "most"]) (h_next : Has P w K mg base CX0 2 "_law_next" ["deck", "many"] (sp2 (pNext 1))) (h_great : Has P w K mg base CX0 3 "_law_great" ["deck", "most"] (sp2 (pNext 2))) (h_bound : Has P w K mg base CX0 4 "_law_bound" ["deck", "most"] (sp2 pBound)) :
    Has P w K mg base CX0 5 "_law_rule" ["deck", "most"] (sp2 pRule) := by
  refine D.ok2 sc_rule (fun f cdv A outer s H v1 v2 Q E hr h => ?_)
  obtain ⟨d, n, m, rfl, rfl, m0, m1, hD, hn, q⟩ := h
  refine ⟨_, (pss_cons (ps_set (i := 2) sc_rule.nd rfl (.inl rfl) (pe_own h_bound (hr.mono (by decide)) pass0 (pa_cons (pv 0) (pa_cons (pv 1) pa_nil))))
 (pss_cons (ps_set (i := 3) sc_rule.nd rfl (.inl rfl) (pe_own h_great (hr.mono (by decide)) pass0 (pa_cons (pv 0) (pa_cons (pv 2) pa_nil))))
 (pss_cons (ps_set (i := 4) sc_rule.nd rfl (.inl rfl) (pe_own h_next (hr.mono (by decide)) pass0 (pa_cons (pv 0) (pa_cons pe_int pa_nil))))
 (pss_cons (ps_set (i := 5) sc_rule.nd rfl (.inl rfl) pe_int)
 (pss_cons (ps_for PassesOwn.never rfl (pi_list (pe_lst (pa_cons pe_int (pa_cons pe_int (pa_cons pe_int (pa_cons pe_int (pa_cons pe_int (pa_cons pe_int pa_nil)))))))) (pg_name (i := 6) sc_rule.nd rfl (.inl rfl)) (pss_one (ps_if (pt_cmpR op_eq (pe_op op_mod (pv 2) (pv 6)) pe_int (nomark _)) (pss_one (ps_set (i := 5) sc_rule.nd rfl (.inl rfl) (pe_op op_mulB (pv 5) (pv 6)))) pss_nil)))
 (C8.pss_cut (ps_if (pt_cmpR op_lt (pv 4) pe_int (nomark _)) (pss_one (ps_set (i := 3) sc_rule.nd rfl (.inl rfl) (pe_ix ix_list (pe_lst (pa_cons pe_int (pa_cons pe_int (pa_cons (pe_op op_sub (pv 2) pe_int) pa_nil)))) (pv 4) (fun _ _ => rfl)))) pss_nil)
 (C8.pss_cut (ps_if (pt_cmpR op_eq (pv 4) pe_int (nomark _)) (pss_one (ps_set (i := 3) sc_rule.nd rfl (.inl rfl) (pe_op op_mulB (pv 3) (pv 5)))) pss_nil)
 (C8.pss_cut (ps_if (pt_cmpR op_in_seq (pv 4) (pe_tup (pa_cons pe_int (pa_cons pe_int pa_nil))) (by rfl)) (pss_one (ps_set (i := 3) sc_rule.nd rfl (.inl rfl) (pe_op op_add pe_int (pe_op op_mulB (pe_op op_mulB (pv 3) (pv 5)) (pe_ix ix_list (pe_lst (pa_cons pe_int (pa_cons pe_int pa_nil))) (pe_op op_sub (pv 4) pe_int) (fun _ _ => rfl)))))) pss_nil)
 (pss_cons (ps_set (i := 7) sc_rule.nd rfl (.inl rfl) (pe_ix ix_list (pe_lst (pa_cons (pe_own h_great (hr.mono (by decide)) pass0 (pa_cons (pv 0) (pa_cons (pv 2) pa_nil))) (pa_cons pe_int (pa_cons pe_int (pa_cons (pe_op op_sub (pv 2) pe_int) pa_nil))))) (pe_own h_next (hr.mono (by decide)) pass0 (pa_cons (pv 0) (pa_cons pe_int pa_nil))) (fun _ _ => rfl)))
 (pss_one (ps_ret (pe_tup (pa_cons (pe_op op_mod (pv 3) (pv 2)) (pa_cons (pe_op op_mod (pv 7) (pv 2)) (pa_cons (pv 2) pa_nil))))))))))))))), ?_⟩
  refine ⟨_, rfl, _, rfl, _, _, rfl, d, n, m, rfl, rfl, m0, m1, hD, by omega, fun H1 b B1 D1 b0 b1 => ?_⟩
  refine ⟨_, rfl, _, rfl, _, _, rfl, d, n + 50, b, rfl, rfl, by omega, by omega, D1, by omega, fun H2 t B2 D2 t0 t1 => ?_⟩
  refine ⟨_, rfl, _, _, rfl, d, n + 52, 8, rfl, rfl, by decide, by decide, D2, by omega, fun H3 way B3 D3 w0 w1 => ?_⟩
  have B4 : But d H H3 := (B1.trans B2).trans B3
  -- shared = 1; for prime in [..]
  refine ⟨by show 6 ≤ sizeLine; decide, fun l nl => ?_⟩
  have s1 := same_new (o := .lst [.int 2, .int 3, .int 5, .int 7, .int 11, .int 13]) nl
  have D4 := D3.same s1
  have B5 : But d H _ := B4.trans s1.but
  refine ⟨l, rfl, ⟨_, SqL.of upd_same⟩, for_list (K := K) (a := l) (xs := ([2, 3, 5, 7, 11, 13] : List Int).map V.int) (fun i σ H' => ∃ (yp : Option V) (g : Int), σ = [some (.ref d), some (.int m), some (.int b), some (.int t), some (.int way), some (.int g), yp, none] ∧ H' = upd H3 l (.lst [.int 2, .int 3, .int 5, .int 7, .int 11, .int 13]) ∧ 1 ≤ g ∧ g ≤ 13 ^ i) ⟨none, 1, rfl, rfl, by omega, by decide⟩ ?_ ?_ ?_⟩
  · rintro i σ H' _ ⟨yp, g, rfl, rfl, _⟩
    exact SqL.of upd_same
  · rintro i x σ H' hi ⟨yp, g, rfl, rfl, g0, g1⟩
    obtain ⟨z, hz, rfl⟩ : ∃ z, ([2, 3, 5, 7, 11, 13] : List Int)[i]? = some z ∧ x = V.int z := by
      rw [List.getElem?_map] at hi
      cases ez : ([2, 3, 5, 7, 11, 13] : List Int)[i]? with
      | none => rw [ez] at hi; cases hi
      | some z => rw [ez] at hi; exact ⟨z, rfl, (Option.some.inj hi).symm⟩
    have i6 : i < 6 := (List.getElem?_eq_some_iff.mp hz).1
    have z2 : 2 ≤ z ∧ z ≤ 13 := (by decide : ∀ x ∈ ([2, 3, 5, 7, 11, 13] : List Int), 2 ≤ x ∧ x ≤ 13) z (List.mem_of_getElem? hz)
    have p6 : (13 : Int) ^ i ≤ 371293 := by
      have : i = 0 ∨ i = 1 ∨ i = 2 ∨ i = 3 ∨ i = 4 ∨ i = 5 := by omega
      rcases this with rfl | rfl | rfl | rfl | rfl | rfl <;> decide
    have mb := mul_bd (show 0 ≤ g by omega) g1 (show 0 ≤ z by omega) z2.2
    have ps : (13 : Int) ^ (i + 1) = 13 ^ i * 13 := Int.pow_succ _ _
    refine ⟨_, rfl, _, rfl, _, _, rfl, rfl, (show (0 : Int) < z by omega), rfl, _, rfl, ifI (fun e => ?_) (fun e => ?_)⟩
    · refine ⟨_, rfl, _, rfl, _, _, rfl, rfl, ⟨by unfold Big; omega, by unfold Big; omega⟩, some (.int z), g * z, rfl, rfl, ?_, by omega⟩
      have := mul_bd (show (0:Int) ≤ 1 by decide) g0 (show (0:Int) ≤ 1 by decide) (show 1 ≤ z by omega)
      omega
    · exact ⟨some (.int z), g, rfl, rfl, g0, by omega⟩
  rintro σ H' ⟨yp, g, rfl, rfl, g0, g1⟩
  have g1' : g ≤ 4826809 := g1
  have tb := mul_bd t0 (show t ≤ 1000000000000 by omega) (show 0 ≤ g by omega) g1'
  -- if way < 3
  refine ⟨fun σ' H' => ∃ (t' : Int), σ' = [some (.ref d), some (.int m), some (.int b), some (.int t'), some (.int way), some (.int g), yp, none] ∧ But d H H' ∧ Deck H' d (n + 53) ∧ 0 ≤ t' ∧ t' ≤ 1000000000000, ?_, ?_⟩
  · refine ⟨_, rfl, _, _, rfl, rfl, _, rfl, ifD (fun e => ?_) (fun e => ?_)⟩
    · refine ⟨_, rfl, _, _, rfl, rfl, by show 3 ≤ sizeLine; decide, fun l2 nl2 => ?_⟩
      have s2 := same_new (o := .lst [.int 0, .int 1, .int (b - 1)]) nl2
      obtain ⟨x, hx, ex⟩ := at_ints (ns := [0, 1, b - 1]) w0 (by show way < 3; exact e)
      refine ⟨_, rfl, l2, _, way, _, rfl, rfl, SqL.of upd_same, ex, x, rfl, B5.trans s2.but, D4.same s2, ?_⟩
      simp at hx
      rcases hx with rfl | rfl | rfl <;> omega
    · exact ⟨t, rfl, B5, D4, t0, by omega⟩
  rintro σ' H5 ⟨t2, rfl, B6, D6, t20, t21⟩
  have tb2 := mul_bd t20 t21 (show 0 ≤ g by omega) g1'
  -- if way == 3
  refine ⟨fun σ' H' => ∃ (t' : Int), σ' = [some (.ref d), some (.int m), some (.int b), some (.int t'), some (.int way), some (.int g), yp, none] ∧ H' = H5 ∧ 0 ≤ t' ∧ t' ≤ 4826809000000000000, ?_, ?_⟩
  · refine ⟨_, rfl, rfl, _, rfl, ifI (fun e => ?_) (fun e => ?_)⟩
    · exact ⟨_, rfl, _, rfl, _, _, rfl, rfl, ⟨by unfold Big; omega, by unfold Big; omega⟩, _, rfl, rfl, by omega, by omega⟩
    · exact ⟨t2, rfl, rfl, by omega, by omega⟩
  rintro σ' _ ⟨t3, rfl, rfl, t30, t31⟩
  have tb3 := mul_bd t30 t31 (show 0 ≤ g by omega) g1'
  -- if way in (4, 5)
  refine ⟨fun σ' H' => ∃ (t' : Int), σ' = [some (.ref d), some (.int m), some (.int b), some (.int t'), some (.int way), some (.int g), yp, none] ∧ But d H H' ∧ Deck H' d (n + 53), ?_, ?_⟩
  · refine ⟨_, rfl, by show 2 ≤ sizeLine; decide, fun l2 nl2 => ?_⟩
    have s2 := same_new (o := .tup [.int 4, .int 5]) nl2
    refine ⟨l2, _, rfl, .inr (SqT.of upd_same), rfl, rfl, _, rfl, ifB (fun e => ?_) (fun e => ?_)⟩
    · have hw : way = 4 ∨ way = 5 := by
        have e' : ((4 == way) || ((5 == way) || false)) = true := e
        simp at e'
        omega
      refine ⟨_, rfl, _, rfl, _, _, rfl, rfl, ⟨by unfold Big; omega, by unfold Big; omega⟩, by show 2 ≤ sizeLine; decide, fun l3 nl3 => ?_⟩
      have s3 := same_new (o := .lst [.int 1, .int 2]) nl3
      obtain ⟨x, hx, ex⟩ := at_ints (ns := [1, 2]) (show 0 ≤ way - 4 by omega) (by show way - 4 < 2; omega)
      have bx : 1 ≤ x ∧ x ≤ 2 := (by decide : ∀ x ∈ ([1, 2] : List Int), 1 ≤ x ∧ x ≤ 2) x hx
      refine ⟨_, rfl, _, _, rfl, rfl, l3, _, way - 4, _, rfl, rfl, SqL.of upd_same, ex, _, _, rfl, rfl, ⟨by unfold Big; omega, by unfold Big; omega⟩, _, _, rfl, rfl, _, rfl, (B6.trans s2.but).trans s3.but, (D6.same s2).same s3⟩
    · exact ⟨t3, rfl, B6.trans s2.but, D6.same s2⟩
  rintro σ' H6 ⟨t4, rfl, B7, D7⟩
  -- plus
  refine ⟨_, rfl, _, rfl, _, _, rfl, d, n + 53, b, rfl, rfl, by omega, by omega, D7, by omega, fun H7 p B8 D8 p0 p1 => ?_⟩
  refine ⟨_, rfl, _, _, rfl, rfl, by show 4 ≤ sizeLine; decide, fun l2 nl2 => ?_⟩
  have s2 := same_new (o := .lst [.int p, .int 0, .int 1, .int (b - 1)]) nl2
  refine ⟨_, rfl, _, _, rfl, d, n + 55, 4, rfl, rfl, by decide, by decide, D8.same s2, by omega, fun H8 v B9 D9 u0 u1 => ?_⟩
  obtain ⟨x, hx, ex⟩ := at_ints (ns := [p, 0, 1, b - 1]) u0 (by show v < 4; exact u1)
  have hl2 : H8 l2 = some (.lst [.int p, .int 0, .int 1, .int (b - 1)]) := B9 _ _ (D8.ne nl2) upd_same
  refine ⟨l2, _, v, _, rfl, rfl, SqL.of hl2, ex, ?_⟩
  refine ⟨_, rfl, _, rfl, _, _, rfl, rfl, (show (0 : Int) < b by omega), _, rfl, _, rfl, _, _, rfl, rfl, (show (0 : Int) < b by omega), _, rfl, by show 3 ≤ sizeLine; decide, fun r nr => ?_⟩
  have s3 := same_new (o := .tup [.int (t4 % b), .int (x % b), .int b]) nr
  have bt := mod_bd t4 (show 0 < b by omega)
  have bp := mod_bd x (show 0 < b by omega)
  have Bf : But d H H8 := ((B7.trans B8).trans s2.but).trans B9
  exact q _ r _ _ _ (Bf.trans s3.but) ((D9.same s3).mono (by omega)) (Bf.free (D9.ne nr) nr) upd_same ⟨b0, by omega, bt.1, bt.2, bp.1, bp.2⟩ b1
end
end Tw


namespace Tw
open PySem PySem.Spec PyProof.Rows L2
abbrev s_start : Stmt := topS 30
theorem sc_start : FnScope ["deck", "bound"] ["deck", "bound"] (defScope s_start) := ⟨rfl, rfl, rfl, by decide +kernel, rfl, by decide +kernel, by decide +kernel⟩
section
variable {P : Program} {w : World} {K : PySem.W.Frag} {mg : Str → Option Value} {base : Heap}
theorem ok_start (D : Top K mg "_law_start" s_start ["deck", "bound"]) (h_next : Has P w K mg base CX0 2 "_law_next" ["deck", "many"] (sp2 (pNext 1))) (h_great : Has P w K mg base CX0 3 "_law_great" ["deck", "most"] (sp2 (pNext 2))) :
    Has P w K mg base CX0 4 "_law_start" ["deck", "bound"] (sp2 (pNext 3)) := by
  refine D.ok2 sc_start (fun f cdv A outer s H v1 v2 Q E hr h => ?_)
  obtain ⟨d, n, m, rfl, rfl, m0, m1, hD, hn, q⟩ := h
  refine ⟨_, (pss_one (ps_ret (pe_ix ix_list (pe_lst (pa_cons (pe_own h_great (hr.mono (by decide)) pass0 (pa_cons (pv 0) (pa_cons (pv 1) pa_nil))) (pa_cons pe_int (pa_cons (pe_op op_sub (pv 1) pe_int) pa_nil)))) (pe_own h_next (hr.mono (by decide)) pass0 (pa_cons (pv 0) (pa_cons pe_int pa_nil))) (fun _ _ => rfl)))), ?_⟩
  refine ⟨_, rfl, _, rfl, _, _, rfl, d, n, m, rfl, rfl, m0, m1, hD, by omega, fun H1 g B1 D1 g0 g1 => ?_⟩
  refine ⟨_, rfl, _, _, rfl, rfl, by show 3 ≤ sizeLine; decide, fun l nl => ?_⟩
  have s1 := same_new (o := .lst [.int g, .int 0, .int (m - 1)]) nl
  refine ⟨_, rfl, _, _, rfl, d, n + 2, 3, rfl, rfl, by decide, by decide, D1.same s1, by omega, fun H2 v B2 D2 u0 u1 => ?_⟩
  obtain ⟨x, hx, ex⟩ := at_ints (ns := [g, 0, m - 1]) u0 (by show v < 3; exact u1)
  have hl : H2 l = some (.lst [.int g, .int 0, .int (m - 1)]) := B2 _ _ (D1.ne nl) upd_same
  refine ⟨l, _, v, _, rfl, rfl, SqL.of hl, ex, ?_⟩
  simp at hx
  exact q _ _ ((B1.trans s1.but).trans B2) D2 (by rcases hx with rfl | rfl | rfl <;> omega) (by rcases hx with rfl | rfl | rfl <;> omega)
end
end Tw


namespace Tw
open PySem PySem.Spec PyProof.Rows L2
abbrev s_init : Stmt := inClass (topS 4) 0
theorem sc_init : FnScope ["self", "number"] ["self", "number"] (defScope s_init) := ⟨rfl, rfl, rfl, by decide +kernel, rfl, by decide +kernel, by decide +kernel⟩
abbrev s_is_whole : Stmt := topS 6
theorem sc_is_whole : FnScope ["thing"] ["thing"] (defScope s_is_whole) := ⟨rfl, rfl, rfl, by decide +kernel, rfl, by decide +kernel, by decide +kernel⟩
abbrev s_is_number : Stmt := topS 7
theorem sc_is_number : FnScope ["thing", "bound"] ["thing", "bound"] (defScope s_is_number) := ⟨rfl, rfl, rfl, by decide +kernel, rfl, by decide +kernel, by decide +kernel⟩
abbrev s_check_number : Stmt := topS 8
theorem sc_check_number : FnScope ["number", "bound"] ["number", "bound"] (defScope s_check_number) := ⟨rfl, rfl, rfl, by decide +kernel, rfl, by decide +kernel, by decide +kernel⟩
section
variable {P : Program} {w : World} {K : PySem.W.Frag} {mg : Str → Option Value} {base : Heap}
theorem ok_init {f CR : Addr} {fd : FuncData} (F : Fun K "__init__" "NoNumber.__init__" s_init f fd) (g_RowError : mg "RowError" = some (.ref CR)) (r_RowError : ClX.CRead K CR (.type "type"))
    (i_RowError : PySem.W.findCls K (.ref CR) (.type "type") "__init__" = some (.val (.builtin "ValueError.__init__"))) : FnOk P w K mg base CX0 1 f fd ["self", "number"] (spInit K) := by
  refine F.ok sc_init (fun vs H Q E h => ?_) (fun cdv A outer s H vs Q E hr h => ?_)
  · obtain ⟨_, _, rfl, _⟩ := h; rfl
  obtain ⟨_, v, rfl, a, C, rfl, T, nf, ha, q⟩ := h
  refine ⟨_, pss_cons (ps_expr (pe_ownInit (by rfl) g_RowError r_RowError i_RowError (pa_cons (pv 0) (pa_cons pe_str pa_nil)))) (pss_one (ps_ost (pv 0) (pv 1))), ?_⟩
  refine ⟨_, rfl, a, C, _, rfl, by show 1 ≤ 1000; decide, T, ha, ?_⟩
  exact ⟨_, rfl, _, rfl, a, C, rfl, T, nf, .inl ⟨ha, fun d nd ne => q d nd ne⟩⟩
theorem ok_is_whole (D : Top K mg "is_whole" s_is_whole ["thing"]) (z_isinstance : mg "isinstance" = none) (z_int : mg "int" = none) (z_bool : mg "bool" = none) : Has P w K mg base CX0 1 "is_whole" ["thing"] (sp1 pWhole) := by
  refine D.ok1 sc_is_whole (fun f cdv A outer s H v1 Q E hr h => ?_)
  obtain ⟨n, rfl, q⟩ := h
  refine ⟨_, (pss_one (ps_ret (pe_and (pe_callB (id := "isinstance") call_isA (by rfl) z_isinstance (by decide +kernel) (pa_cons (pv 0) (pa_cons (pe_bltn (v := .ty "int") (by rfl) z_int (by decide +kernel) rfl) pa_nil))) (pe_one (pe_not (pe_callB (id := "isinstance") call_isA (by rfl) z_isinstance (by decide +kernel) (pa_cons (pv 0) (pa_cons (pe_bltn (v := .ty "bool") (by rfl) z_bool (by decide +kernel) rfl) pa_nil)))))))), ?_⟩
  refine ⟨_, rfl, .inr ⟨_, _, _, _, true, rfl, .ty _, .base (.int n), kit_ty (by decide +kernel), _, rfl, ifT rfl ?_⟩⟩
  exact ⟨_, rfl, .inr ⟨_, _, _, _, false, rfl, .ty _, .base (.int n), kit_ty (by decide +kernel), _, rfl, q⟩⟩
theorem ok_is_number (D : Top K mg "is_number" s_is_number ["thing", "bound"]) (h_is_whole : Has P w K mg base CX0 1 "is_whole" ["thing"] (sp1 pWhole)) : Has P w K mg base CX0 2 "is_number" ["thing", "bound"] (sp2 pIsNum) := by
  refine D.ok2 sc_is_number (fun f cdv A outer s H v1 v2 Q E hr h => ?_)
  obtain ⟨n, m, rfl, rfl, q⟩ := h
  refine ⟨_, (pss_one (ps_ret (pe_and (pe_own h_is_whole (hr.mono (by decide)) pass0 (pa_cons (pv 0) pa_nil)) (pe_one (pe_chain op_le op_lt pe_int (pv 0) (pv 1)))))), ?_⟩
  refine ⟨_, rfl, _, rfl, n, rfl, _, rfl, ifT rfl ?_⟩
  refine ⟨_, rfl, _, _, rfl, rfl, _, rfl, ifD (fun l => ⟨_, rfl, _, _, rfl, rfl, ?_⟩) (fun l => ?_)⟩
  · have e : decide (0 ≤ n ∧ n < m) = decide (n < m) := by
      by_cases h : n < m <;> simp [h, l]
    rw [e] at q
    exact q
  · have e : decide (0 ≤ n ∧ n < m) = false := decide_eq_false fun z => l z.1
    rw [e] at q
    exact q
theorem ok_check_number {CN fI : Addr} {fdI : FuncData} (D : Top K mg "check_number" s_check_number ["number", "bound"]) (h_is_number : Has P w K mg base CX0 2 "is_number" ["thing", "bound"] (sp2 pIsNum)) (oex_NoNumber : OexC K CN)
    (n_NoNumber : PySem.W.findIn K (.ref CN) "__init__" = some (some (.ref fI))) (t_NoNumber : PySem.W.typeIn K (.ref fI) = some (.type "function")) (F_NoNumber : FnOk P w K mg base CX0 1 fI fdI ["self", "number"] (spInit K)) (b_NoNumber : Binds K fdI ["self", "number"] [])
    (g_NoNumber : mg "NoNumber" = some (.ref CN)) (nf : PySem.W.findIn K (.ref CN) "number" = some none) : Has P w K mg base (L2.CX P w) 3 "check_number" ["number", "bound"] (sp2 (pCheck CN)) := by
  refine D.ok2X sc_check_number (fun f cdv A outer s H v1 v2 Q E hr h => ?_)
  obtain ⟨n, m, rfl, rfl, q, e⟩ := h
  refine ⟨_, (pss_one (ps_if (pt_not (pt_val (pe_own h_is_number (hr.mono (by decide)) pass0 (pa_cons (pv 0) (pa_cons (pv 1) pa_nil))))) (pss_one (ps_raise rfl (takes_of rfl rfl rfl rfl) (pmk_oex oex_NoNumber n_NoNumber t_NoNumber F_NoNumber (hr.mono (by decide)) b_NoNumber .nil pass0 (by rfl) g_NoNumber (pa_cons (pv 0) pa_nil)))) pss_nil)), ?_⟩
  have bad : ¬ (0 ≤ n ∧ n < m) → _ := fun hn => e hn
  refine ⟨_, rfl, _, rfl, _, _, rfl, n, m, rfl, rfl, _, rfl, ifN (fun l => ?_) (fun l => q l.1 l.2)⟩
  refine ⟨_, rfl, by show 1 ≤ 1000; decide, fun a na => ⟨_, _, rfl, a, CN, rfl, oex_NoNumber, nf, upd_same, fun d nd ne => ⟨rfl, d, [("number", .int n)], upd_same, ?_, ?_, ?_⟩⟩⟩
  · rw [upd_ne ne, upd_same]
  · rw [upd_ne ne] at nd; exact nd
  · rw [made_eq na ne]
    rw [upd_ne ne] at nd
    exact bad l d nd
end
end Tw


namespace Tw
open PySem PySem.Spec PyProof.Rows L2
abbrev s_next_of : Stmt := topS 16
theorem sc_next_of : FnScope ["rule", "number", "times", "plus", "bound"] ["rule", "number"] (defScope s_next_of) := ⟨rfl, rfl, rfl, by decide +kernel, rfl, by decide +kernel, by decide +kernel⟩
section
variable {P : Program} {w : World} {K : PySem.W.Frag} {mg : Str → Option Value} {base : Heap}
theorem ok_next_of {CN : Addr} (D : Top K mg "next_of" s_next_of ["rule", "number"]) (h_check_number : Has P w K mg base (L2.CX P w) 3 "check_number" ["number", "bound"] (sp2 (pCheck CN))) :
    Has P w K mg base (L2.CX P w) 4 "next_of" ["rule", "number"] (sp2 (pNextOf K CN)) := by
  refine D.ok2X sc_next_of (fun f cdv A outer s H v1 v2 Q E hr h => ?_)
  obtain ⟨r, t, p, m, n, rfl, rfl, hr1, R, q, e⟩ := h
  refine ⟨_, (pss_cons (ps_asg (pv 0) (pg_tup rfl (pgs_cons (pg_name (i := 2) sc_next_of.nd rfl (.inl rfl)) (pgs_cons (pg_name (i := 3) sc_next_of.nd rfl (.inl rfl)) (pgs_cons (pg_name (i := 4) sc_next_of.nd rfl (.inl rfl)) pgs_nil)))))
 (pss_cons (ps_expr (pe_own h_check_number (hr.mono (by decide)) (passes_call (takes_of rfl rfl rfl rfl) (fun _ _ _ _ z => z)) (pa_cons (pv 1) (pa_cons (pv 4) pa_nil))))
 (pss_one (ps_ret (pe_op op_mod (pe_op op_add (pe_op op_mulB (pv 2) (pv 1)) (pv 3)) (pv 4)))))), ?_⟩
  refine ⟨_, rfl, r, _, rfl, hr1, rfl, _, _, rfl, _, _, rfl, _, _, rfl, rfl, ?_⟩
  refine ⟨_, rfl, _, rfl, _, _, rfl, n, m, rfl, rfl, fun n0 n1 => ?_, e⟩
  have := R.b2
  have := R.t0
  have := R.t1
  have := R.b1
  exact ⟨_, rfl, _, rfl, _, _, rfl, rfl, ⟨by unfold Big; omega, by unfold Big; omega⟩, _, rfl, _, _, rfl, rfl, _, rfl, _, _, rfl, rfl, (show (0 : Int) < m by omega), q n0 n1⟩
end
end Tw


namespace Tw
open PySem PySem.Spec PyProof.Rows L2
abbrev s_row_from : Stmt := topS 17
theorem sc_row_from : FnScope ["rule", "start", "many", "row", "number", "place"] ["rule", "start", "many"] (defScope s_row_from) := ⟨rfl, rfl, rfl, by decide +kernel, rfl, by decide +kernel, by decide +kernel⟩
section
variable {P : Program} {w : World} {K : PySem.W.Frag} {mg : Str → Option Value} {base : Heap}
theorem ok_row_from {CN : Addr} (D : Top K mg "row_from" s_row_from ["rule", "start", "many"]) (h_check_number : Has P w K mg base (L2.CX P w) 3 "check_number" ["number", "bound"] (sp2 (pCheck CN))) (h_next_of : Has P w K mg base (L2.CX P w) 4 "next_of" ["rule", "number"] (sp2 (pNextOf K CN)))
    (z_range : mg "range" = none) (z_tuple : mg "tuple" = none) : Has P w K mg base (L2.CX P w) 5 "row_from" ["rule", "start", "many"] (sp3 (pRowFrom K CN)) := by
  refine D.ok3X sc_row_from (fun f cdv A outer s H v1 v2 v3 Q E hr h => ?_)
  obtain ⟨r, t, p, m, s0, n, rfl, rfl, rfl, hr1, R, n0, n1, q, e⟩ := h
  refine ⟨_, (pss_cons (ps_expr (pe_own h_check_number (hr.mono (by decide)) (passes_call (takes_of rfl rfl rfl rfl) (fun _ _ _ _ z => z)) (pa_cons (pv 1) (pa_cons (pe_ix ix_tup (pv 0) pe_int (fun _ _ => rfl)) pa_nil))))
 (pss_cons (ps_set (i := 3) sc_row_from.nd rfl (.inl rfl) (pe_lst pa_nil))
 (pss_cons (ps_set (i := 4) sc_row_from.nd rfl (.inl rfl) (pv 1))
 (pss_cons (ps_for (passes_of rfl) rfl (pi_range1 (by rfl) z_range (pa_cons (pv 2) pa_nil)) (pg_name (i := 5) sc_row_from.nd rfl (.inl rfl)) (pss_cons (ps_expr (pe_bm PySem.F.plainAttrs_list PySem.F.slot_list_append PySem.F.type_list_append mt_append (pv 3) (pa_cons (pv 4) pa_nil)))
 (pss_one (ps_set (i := 4) sc_row_from.nd rfl (.inl rfl) (pe_own h_next_of (hr.mono (by decide)) (passes_call (takes_of rfl rfl rfl rfl) (fun _ _ _ _ z => z)) (pa_cons (pv 0) (pa_cons (pv 4) pa_nil)))))))
 (pss_one (ps_ret (pe_callTy call_tuple_of (by rfl) z_tuple (by decide +kernel) (pa_cons (pv 3) pa_nil)))))))), ?_⟩
  have m0 : 0 < m := by have := R.b1; omega
  refine ⟨_, rfl, _, rfl, r, _, 2, .int m, rfl, rfl, hr1, rfl, _, _, rfl, s0, m, rfl, rfl, fun a0 a1 => ?_, e⟩
  refine ⟨by show 0 ≤ sizeLine; decide, fun l nl => ?_⟩
  have s1 := same_new (o := .lst []) nl
  refine ⟨_, rfl, _, rfl, n, rfl, by omega, by omega, for_range (lo := 0) (n := n.toNat) (fun i σ H' => ∃ (y : Option V), σ = [some (.ref r), some (.int s0), some (.int n), some (.ref l), some (.int (itr (stp t p m) i s0)), y] ∧ H' = upd H l (.lst ((orb (stp t p m) i s0).map V.int))) ⟨none, rfl, rfl⟩ ?_ ?_⟩
  · rintro i σ H' hi ⟨y, rfl, rfl⟩
    have ir := itr_rng (t := t) (p := p) m0 ⟨a0, a1⟩ i
    refine ⟨_, rfl, .inl ⟨rfl, _, SqL.of upd_same⟩, _, rfl, l, _, _, rfl, rfl, upd_same, szl (by rw [List.length_map, orb_len]; omega), ?_⟩
    rw [upd_upd, show (orb (stp t p m) i s0).map V.int ++ [.int (itr (stp t p m) i s0)] = (orb (stp t p m) (i + 1) s0).map V.int by rw [orb_succ, List.map_append]; rfl]
    have s2 : Same H (upd H l (.lst ((orb (stp t p m) (i + 1) s0).map V.int))) := same_new nl
    refine ⟨_, rfl, _, rfl, _, _, rfl, r, t, p, m, _, rfl, rfl, s2.tup hr1, R, fun _ _ => ?_, fun z => absurd ir z⟩
    exact ⟨some (.int (0 + i)), rfl, rfl⟩
  · rintro σ H' ⟨y, rfl, rfl⟩
    have s2 : Same H (upd H l (.lst ((orb (stp t p m) n.toNat s0).map V.int))) := same_new nl
    refine ⟨_, rfl, l, _, rfl, .inl ⟨SqL.of upd_same, fun u nu => ?_⟩⟩
    exact q a0 a1 _ u (s2.trans (same_new nu)) (s2.free nu) upd_same
end
end Tw


namespace Tw
open PySem PySem.Spec PyProof.Rows L2
abbrev s_common_divisor : Stmt := topS 9
theorem sc_common_divisor : FnScope ["one", "other"] ["one", "other"] (defScope s_common_divisor) := ⟨rfl, rfl, rfl, by decide +kernel, rfl, by decide +kernel, by decide +kernel⟩
section
variable {P : Program} {w : World} {K : PySem.W.Frag} {mg : Str → Option Value} {base : Heap}
theorem ok_common_divisor (D : Top K mg "common_divisor" s_common_divisor ["one", "other"]) : Has P w K mg base CX0 1 "common_divisor" ["one", "other"] (sp2 pGcd) := by
  refine D.ok2 sc_common_divisor (fun f cdv A outer s H v1 v2 Q E hr h => ?_)
  obtain ⟨x, y, rfl, rfl, x0, y0, q⟩ := h
  refine ⟨_, (pss_cons (ps_while PassesOwn.never (pt_cmpR op_ne (pv 1) pe_int (nomark _)) (pss_one (ps_par (i := 0) (j := 1) (by rfl) sc_common_divisor.nd rfl rfl (by decide) rfl rfl (pa_cons (pv 1) (pa_cons (pe_op op_mod (pv 0) (pv 1)) pa_nil)) (by rfl))))
 (pss_one (ps_ret (pv 0)))), ?_⟩
  refine ⟨fun k σ H' => ∃ a b : Int, σ = [some (.int a), some (.int b)] ∧ H' = H ∧ 0 ≤ a ∧ 0 ≤ b ∧ b.toNat = k ∧ Int.gcd a b = Int.gcd x y, ⟨y.toNat, x, y, rfl, rfl, x0, y0, rfl, rfl⟩, ?_⟩
  rintro k σ H' ⟨a, b, rfl, rfl, a0, b0, hk, hg⟩
  refine ⟨_, rfl, rfl, _, rfl, ifNI (fun nb => ?_) (fun nb => ?_)⟩
  · have bp : 0 < b := by omega
    have mr := mod_bd a bp
    refine ⟨fun σ' H1 => ∃ k', k' < k ∧ ∃ a b : Int, σ' = [some (.int a), some (.int b)] ∧ H1 = H' ∧ 0 ≤ a ∧ 0 ≤ b ∧ b.toNat = k' ∧ Int.gcd a b = Int.gcd x y, fun _ _ z => z, ?_⟩
    refine ⟨_, rfl, _, rfl, _, rfl, _, _, rfl, rfl, bp, _, _, rfl, (a % b).toNat, by omega, b, a % b, rfl, rfl, b0, mr.1, rfl, (gcd_step a0 bp).trans hg⟩
  · subst nb
    refine ⟨_, rfl, ?_⟩
    have e : ((Int.gcd x y : Nat) : Int) = a := by
      rw [← hg, Int.gcd_zero_right]
      omega
    rw [e] at q
    exact q
end
end Tw


namespace Tw
open PySem PySem.Spec PyProof.Rows L2
abbrev s_inverse : Stmt := topS 10
theorem sc_inverse : FnScope ["number", "bound", "high", "low", "high_factor", "low_factor", "goes_in"] ["number", "bound"] (defScope s_inverse) := ⟨rfl, rfl, rfl, by decide +kernel, rfl, by decide +kernel, by decide +kernel⟩
section
variable {P : Program} {w : World} {K : PySem.W.Frag} {mg : Str → Option Value} {base : Heap}
theorem ok_inverse (D : Top K mg "inverse" s_inverse ["number", "bound"]) : Has P w K mg base CX0 1 "inverse" ["number", "bound"] (sp2 pInv) := by
  refine D.ok2 sc_inverse (fun f cdv A outer s H v1 v2 Q E hr h => ?_)
  obtain ⟨x, m, rfl, rfl, x0, m0, m1, hg, q⟩ := h
  refine ⟨_, (pss_cons (ps_par (i := 2) (j := 3) (by rfl) sc_inverse.nd rfl rfl (by decide) rfl rfl (pa_cons (pv 1) (pa_cons (pe_op op_mod (pv 0) (pv 1)) pa_nil)) (by rfl))
 (pss_cons (ps_asg (pe_tup (pa_cons pe_int (pa_cons pe_int pa_nil))) (pg_tup rfl (pgs_cons (pg_name (i := 4) sc_inverse.nd rfl (.inl rfl)) (pgs_cons (pg_name (i := 5) sc_inverse.nd rfl (.inl rfl)) pgs_nil))))
 (pss_cons (ps_while PassesOwn.never (pt_cmpR op_ne (pv 3) pe_int (nomark _)) (pss_cons (ps_set (i := 6) sc_inverse.nd rfl (.inl rfl) (pe_op op_fdivB (pv 2) (pv 3)))
 (pss_cons (ps_par (i := 2) (j := 3) (by rfl) sc_inverse.nd rfl rfl (by decide) rfl rfl (pa_cons (pv 3) (pa_cons (pe_op op_sub (pv 2) (pe_op op_mulB (pv 6) (pv 3))) pa_nil)) (by rfl))
 (pss_one (ps_par (i := 4) (j := 5) (by rfl) sc_inverse.nd rfl rfl (by decide) rfl rfl (pa_cons (pv 5) (pa_cons (pe_op op_sub (pv 4) (pe_op op_mulB (pv 6) (pv 5))) pa_nil)) (by rfl))))))
 (pss_one (ps_ret (pe_op op_mod (pv 4) (pv 1))))))), ?_⟩
  have xr := mod_bd x m0
  refine ⟨_, rfl, _, rfl, _, rfl, _, _, rfl, rfl, m0, _, _, rfl, ?_⟩
  refine ⟨by show 2 ≤ sizeLine; decide, fun z nz => ⟨z, _, rfl, SqT.of upd_same, rfl, _, _, rfl, _, _, rfl, rfl, ?_⟩⟩
  refine ⟨fun k σ H' => ∃ (hi lo hf lf A B : Int) (y : Option V), σ = [some (.int x), some (.int m), some (.int hi), some (.int lo), some (.int hf), some (.int lf), y] ∧ H' = upd H z (.tup [.int 0, .int 1]) ∧ 0 ≤ lo ∧ 0 < hi ∧ lo.toNat = k ∧ Int.gcd hi lo = 1 ∧ m ∣ hf * x - hi ∧ m ∣ lf * x - lo ∧
    -A ≤ hf ∧ hf ≤ A ∧ -B ≤ lf ∧ lf ≤ B ∧ 0 ≤ A ∧ 0 ≤ B ∧ A * lo + B * hi = m ∧ hi ≤ m ∧ lo ≤ m, ⟨(x % m).toNat, m, x % m, 0, 1, 0, 1, none, rfl, rfl, xr.1, m0, rfl, ?_, ⟨-1, by omega⟩, ⟨x / m, ?_⟩, by omega, by omega, by omega, by omega, by omega, by omega, by omega, by omega, by omega⟩, ?_⟩
  · rw [gcd_step x0 m0]; exact hg
  · have := Int.mul_ediv_add_emod x m
    omega
  rintro k σ H' ⟨hi, lo, hf, lf, A, B, y, rfl, rfl, l0, h0, hk, gg, d1, d2, a1, a2, b1, b2, A0, B0, hm, him, lm⟩
  refine ⟨_, rfl, rfl, _, rfl, ifNI (fun nb => ?_) (fun nb => ?_)⟩
  · have lp : 0 < lo := by omega
    have mr := mod_bd hi lp
    have dv := Int.mul_ediv_add_emod hi lo
    have q0 : 0 ≤ hi / lo := Int.ediv_nonneg (by omega) l0
    have qh : hi / lo ≤ hi := Int.ediv_le_self _ (by omega)
    obtain ⟨qq, eqq⟩ : ∃ qq, qq = hi / lo := ⟨_, rfl⟩
    rw [← eqq] at dv q0 qh
    have e3 : hi - qq * lo = hi % lo := by rw [Int.mul_comm qq lo]; omega
    have Bm : B ≤ m := by
      have h1 := mul_bd B0 (Int.le_refl B) (show (0:Int) ≤ 1 by decide) (show (1:Int) ≤ hi by omega)
      have h2 := Int.mul_nonneg A0 l0
      have h3 := Int.mul_le_mul_of_nonneg_left (show (1:Int) ≤ hi by omega) B0
      omega
    refine ⟨fun σ' H1 => ∃ k', k' < k ∧ ∃ (hi lo hf lf A B : Int) (y : Option V), σ' = [some (.int x), some (.int m), some (.int hi), some (.int lo), some (.int hf), some (.int lf), y] ∧ H1 = upd H z (.tup [.int 0, .int 1]) ∧ 0 ≤ lo ∧ 0 < hi ∧ lo.toNat = k' ∧ Int.gcd hi lo = 1 ∧ m ∣ hf * x - hi ∧ m ∣ lf * x - lo ∧
      -A ≤ hf ∧ hf ≤ A ∧ -B ≤ lf ∧ lf ≤ B ∧ 0 ≤ A ∧ 0 ≤ B ∧ A * lo + B * hi = m ∧ hi ≤ m ∧ lo ≤ m, fun _ _ z => z, ?_⟩
    have qB := Int.mul_nonneg q0 B0
    have ab1 : -(qq * B) ≤ qq * lf := by have := Int.mul_le_mul_of_nonneg_left b1 q0; rw [Int.mul_neg] at this; exact this
    have ab2 : qq * lf ≤ qq * B := Int.mul_le_mul_of_nonneg_left b2 q0
    have f1 : m ∣ (hf - qq * lf) * x - (hi - qq * lo) := by
      obtain ⟨c1, e1⟩ := d1
      obtain ⟨c2, e2⟩ := d2
      exact ⟨c1 - qq * c2, by grind⟩
    have f2 : B * (hi - qq * lo) + (A + qq * B) * lo = m := by rw [← hm]; grind
    have f3 : Int.gcd lo (hi - qq * lo) = 1 := by rw [e3, gcd_step (by omega) lp]; exact gg
    have g1 : 0 ≤ hi - qq * lo ∧ hi - qq * lo < lo := by omega
    have g2 : -(A + qq * B) ≤ hf - qq * lf ∧ hf - qq * lf ≤ A + qq * B ∧ 0 ≤ A + qq * B := by omega
    have g3 : Big qq ∧ Big lo ∧ Big lf := by unfold Big; omega
    subst eqq
    refine ⟨_, rfl, _, rfl, _, _, rfl, rfl, ⟨lp, by omega⟩, ?_⟩
    refine ⟨_, rfl, _, rfl, _, rfl, _, rfl, _, _, rfl, rfl, ⟨g3.1, g3.2.1⟩, _, _, rfl, rfl, _, _, rfl, ?_⟩
    refine ⟨_, rfl, _, rfl, _, rfl, _, rfl, _, _, rfl, rfl, ⟨g3.1, g3.2.2⟩, _, _, rfl, rfl, _, _, rfl, ?_⟩
    refine ⟨(hi - hi / lo * lo).toNat, by omega, lo, hi - hi / lo * lo, lf, hf - hi / lo * lf, B, A + hi / lo * B, some (.int (hi / lo)), rfl, rfl, g1.1, lp, rfl, f3, d2, f1, b1, b2, g2.1, g2.2.1, B0, g2.2.2, f2, lm, by omega⟩
  · subst nb
    rw [Int.gcd_zero_right] at gg
    have h1 : hi = 1 := by omega
    subst h1
    have vr := mod_bd hf m0
    refine ⟨_, rfl, _, rfl, _, _, rfl, rfl, m0, q _ _ (same_new nz) vr.1 vr.2 ?_⟩
    rw [Int.mul_emod, Int.emod_emod, ← Int.mul_emod]
    obtain ⟨c1, e1⟩ := d1
    rw [show x * hf = 1 + m * c1 by grind, Int.add_mul_emod_self_left]
end
end Tw


namespace Tw
open PySem PySem.Spec PyProof.Rows L2
abbrev s_chained : Stmt := topS 21
theorem sc_chained : FnScope ["first", "second", "times", "plus", "bound", "more_times", "more_plus"] ["first", "second"] (defScope s_chained) := ⟨rfl, rfl, rfl, by decide +kernel, rfl, by decide +kernel, by decide +kernel⟩
abbrev s_rule_of_steps : Stmt := topS 20
theorem sc_rule_of_steps : FnScope ["rule", "steps", "bound", "done", "doubled", "left"] ["rule", "steps"] (defScope s_rule_of_steps) := ⟨rfl, rfl, rfl, by decide +kernel, rfl, by decide +kernel, by decide +kernel⟩
section
variable {P : Program} {w : World} {K : PySem.W.Frag} {mg : Str → Option Value} {base : Heap}
theorem ok_chained (D : Top K mg "chained" s_chained ["first", "second"]) : Has P w K mg base CX0 1 "chained" ["first", "second"] (sp2 (pChained K)) := by
  refine D.ok2 sc_chained (fun f cdv A outer s H v1 v2 Q E hr h => ?_)
  obtain ⟨r1, r2, t1, p1, t2, p2, m, rfl, rfl, h1, h2, R1, R2, q⟩ := h
  refine ⟨_, (pss_cons (ps_asg (pv 0) (pg_tup rfl (pgs_cons (pg_name (i := 2) sc_chained.nd rfl (.inl rfl)) (pgs_cons (pg_name (i := 3) sc_chained.nd rfl (.inl rfl)) (pgs_cons (pg_name (i := 4) sc_chained.nd rfl (.inl rfl)) pgs_nil)))))
 (pss_cons (ps_par (i := 5) (j := 6) (by rfl) sc_chained.nd rfl rfl (by decide) rfl rfl (pa_cons (pe_ix ix_tup (pv 1) pe_int (fun _ _ => rfl)) (pa_cons (pe_ix ix_tup (pv 1) pe_int (fun _ _ => rfl)) pa_nil)) (by rfl))
 (pss_one (ps_ret (pe_tup (pa_cons (pe_op op_mod (pe_op op_mulB (pv 5) (pv 2)) (pv 4)) (pa_cons (pe_op op_mod (pe_op op_add (pe_op op_mulB (pv 5) (pv 3)) (pv 6)) (pv 4)) (pa_cons (pv 4) pa_nil)))))))), ?_⟩
  have a1 := R1.t0
  have a2 := R1.t1
  have a3 := R1.p0
  have a4 := R1.p1
  have a5 := R1.b2
  have a6 := R1.b1
  have b1 := R2.t0
  have b2 := R2.t1
  refine ⟨_, rfl, r1, _, rfl, h1, rfl, _, _, rfl, _, _, rfl, _, _, rfl, rfl, ?_⟩
  refine ⟨_, rfl, r2, _, 0, .int t2, rfl, rfl, h2, rfl, _, rfl, r2, _, 1, .int p2, rfl, rfl, h2, rfl, _, _, rfl, ?_⟩
  refine ⟨_, rfl, _, rfl, _, _, rfl, rfl, ⟨by unfold Big; omega, by unfold Big; omega⟩, _, rfl, _, _, rfl, rfl, (show (0 : Int) < m by omega), ?_⟩
  refine ⟨_, rfl, _, rfl, _, _, rfl, rfl, ⟨by unfold Big; omega, by unfold Big; omega⟩, _, rfl, _, _, rfl, rfl, _, rfl, _, _, rfl, rfl, (show (0 : Int) < m by omega), ?_⟩
  refine ⟨_, rfl, by show 3 ≤ sizeLine; decide, fun u nu => q _ u (same_new nu) nu upd_same⟩
theorem rs_one {t p m : Int} (R : Rule t p m) : rsT t m 1 = t ∧ rsP t p m 1 = p := by
  constructor
  · unfold rsT
    rw [Int.pow_one]
    exact Int.emod_eq_of_lt R.t0 R.t1
  · unfold rsP
    show p * (0 + t ^ 0) % m = p
    rw [Int.pow_zero, Int.zero_add, Int.mul_one]
    exact Int.emod_eq_of_lt R.p0 R.p1
theorem ok_rule_of_steps (D : Top K mg "rule_of_steps" s_rule_of_steps ["rule", "steps"]) (h_chained : Has P w K mg base CX0 1 "chained" ["first", "second"] (sp2 (pChained K))) : Has P w K mg base CX0 2 "rule_of_steps" ["rule", "steps"] (sp2 (pRos K)) := by
  refine D.ok2 sc_rule_of_steps (fun f cdv A outer s H v1 v2 Q E hr h => ?_)
  obtain ⟨r, t, p, m, n, rfl, rfl, h1, R, n0, q⟩ := h
  refine ⟨_, (pss_cons (ps_set (i := 2) sc_rule_of_steps.nd rfl (.inl rfl) (pe_ix ix_tup (pv 0) pe_int (fun _ _ => rfl)))
 (pss_cons (ps_set (i := 3) sc_rule_of_steps.nd rfl (.inl rfl) (pe_tup (pa_cons (pe_op op_mod pe_int (pv 2)) (pa_cons pe_int (pa_cons (pv 2) pa_nil)))))
 (pss_cons (ps_set (i := 4) sc_rule_of_steps.nd rfl (.inl rfl) (pv 0))
 (pss_cons (ps_set (i := 5) sc_rule_of_steps.nd rfl (.inl rfl) (pv 1))
 (pss_cons (ps_while PassesOwn.never (pt_cmpR op_gt (pv 5) pe_int (nomark _)) (C8.pss_cut (ps_if (pt_cmpR op_eq (pe_op op_and (pv 5) pe_int) pe_int (nomark _)) (pss_one (ps_set (i := 3) sc_rule_of_steps.nd rfl (.inl rfl) (pe_own h_chained (hr.mono (by decide)) pass0 (pa_cons (pv 3) (pa_cons (pv 4) pa_nil))))) pss_nil)
 (pss_cons (ps_set (i := 4) sc_rule_of_steps.nd rfl (.inl rfl) (pe_own h_chained (hr.mono (by decide)) pass0 (pa_cons (pv 4) (pa_cons (pv 4) pa_nil))))
 (pss_one (ps_set (i := 5) sc_rule_of_steps.nd rfl (.inl rfl) (pe_op op_fdivB (pv 5) pe_int))))))
 (pss_one (ps_ret (pv 3)))))))), ?_⟩
  have m0 : 0 < m := by have := R.b1; omega
  refine ⟨_, rfl, r, _, 2, .int m, rfl, rfl, h1, rfl, ?_⟩
  refine ⟨_, rfl, _, _, rfl, rfl, m0, _, rfl, by show 3 ≤ sizeLine; decide, fun dn0 nd0 => ?_⟩
  have s1 := same_new (o := .tup [.int (1 % m), .int 0, .int m]) nd0
  refine ⟨_, rfl, _, rfl, ?_⟩
  obtain ⟨o1, o2⟩ := rs_one R
  refine ⟨fun k σ H' => ∃ (dn db : Addr) (l : Int) (a c : Nat), σ = [some (.ref r), some (.int n), some (.int m), some (.ref dn), some (.ref db), some (.int l)] ∧ Same H H' ∧ H' dn = some (.tup [.int (rsT t m a), .int (rsP t p m a), .int m]) ∧ SqT K H' db [.int (rsT t m c), .int (rsP t p m c), .int m] ∧ 0 ≤ l ∧ a + c * l.toNat = n.toNat ∧ k = l.toNat,
    ⟨n.toNat, dn0, r, n, 0, 1, rfl, s1, ?_, ?_, n0, by omega, rfl⟩, ?_⟩
  · rw [upd_same]
    unfold rsT rsP
    rw [Int.pow_zero, show geo t 0 = 0 from rfl, Int.mul_zero, Int.zero_emod]
  · rw [o1, o2]
    exact s1.tup h1
  rintro k σ H1 ⟨dn, db, l, a, c, rfl, sm, hdn, hdb, l0, hn, rfl⟩
  refine ⟨_, rfl, _, _, rfl, rfl, _, rfl, ifD (fun lp => ?_) (fun lp => ?_)⟩
  · refine ⟨fun σ' H' => ∃ k', k' < l.toNat ∧ ∃ (dn db : Addr) (l : Int) (a c : Nat), σ' = [some (.ref r), some (.int n), some (.int m), some (.ref dn), some (.ref db), some (.int l)] ∧ Same H H' ∧ H' dn = some (.tup [.int (rsT t m a), .int (rsP t p m a), .int m]) ∧ SqT K H' db [.int (rsT t m c), .int (rsP t p m c), .int m] ∧ 0 ≤ l ∧ a + c * l.toNat = n.toNat ∧ k' = l.toNat, fun _ _ z => z, ?_⟩
    refine ⟨fun σ' H' => ∃ (dn : Addr) (a2 : Nat), σ' = [some (.ref r), some (.int n), some (.int m), some (.ref dn), some (.ref db), some (.int l)] ∧ Same H H' ∧ H' dn = some (.tup [.int (rsT t m a2), .int (rsP t p m a2), .int m]) ∧ SqT K H' db [.int (rsT t m c), .int (rsP t p m c), .int m] ∧ a2 + (c + c) * (l / 2).toNat = n.toNat, ?_, ?_⟩
    · refine ⟨_, rfl, _, _, rfl, rfl, rfl, _, rfl, ifI (fun e => ?_) (fun e => ?_)⟩
      · rw [bitAnd_m1] at e
        refine ⟨_, rfl, _, rfl, _, _, rfl, dn, db, _, _, _, _, m, rfl, rfl, SqT.of hdn, hdb, R.rs a, R.rs c, fun H2 u s2 nu hu => ?_⟩
        rw [rs_T, rs_P] at hu
        refine ⟨u, a + c, rfl, sm.trans s2, hu, s2.tup hdb, ?_⟩
        have e2 : l.toNat = 2 * (l / 2).toNat + 1 := by omega
        rw [← hn, e2]
        generalize (l / 2).toNat = z
        grind
      · rw [bitAnd_m1] at e
        refine ⟨dn, a, rfl, sm, hdn, hdb, ?_⟩
        have e2 : l.toNat = 2 * (l / 2).toNat := by omega
        rw [← hn, e2]
        generalize (l / 2).toNat = z
        grind
    · rintro σ' H2 ⟨dn2, a2, rfl, sm2, hdn2, hdb2, hn2⟩
      refine ⟨_, rfl, _, rfl, _, _, rfl, db, db, _, _, _, _, m, rfl, rfl, hdb2, hdb2, R.rs c, R.rs c, fun H3 u s3 nu hu => ?_⟩
      rw [rs_T, rs_P] at hu
      refine ⟨_, rfl, _, _, rfl, rfl, ⟨by decide, by decide⟩, (l / 2).toNat, by omega, dn2, u, l / 2, a2, c + c, rfl, sm2.trans s3, s3 _ _ hdn2, SqT.of hu, by omega, hn2, rfl⟩
  · have l00 : l = 0 := by omega
    subst l00
    have ea : a = n.toNat := by
      rw [← hn]
      show a = a + c * 0
      omega
    subst ea
    exact ⟨_, rfl, q _ dn sm hdn⟩
end
end Tw


namespace Tw
open PySem PySem.Spec PyProof.Rows L2
abbrev s_rule_back : Stmt := topS 19
theorem sc_rule_back : FnScope ["rule", "times", "plus", "bound", "undone"] ["rule"] (defScope s_rule_back) := ⟨rfl, rfl, rfl, by decide +kernel, rfl, by decide +kernel, by decide +kernel⟩
abbrev s_jumped : Stmt := topS 18
theorem sc_jumped : FnScope ["rule", "start", "steps"] ["rule", "start", "steps"] (defScope s_jumped) := ⟨rfl, rfl, rfl, by decide +kernel, rfl, by decide +kernel, by decide +kernel⟩
section
variable {P : Program} {w : World} {K : PySem.W.Frag} {mg : Str → Option Value} {base : Heap}
theorem ok_rule_back {CB : Addr} (D : Top K mg "rule_back" s_rule_back ["rule"]) (h_common_divisor : Has P w K mg base CX0 1 "common_divisor" ["one", "other"] (sp2 pGcd)) (h_inverse : Has P w K mg base CX0 1 "inverse" ["number", "bound"] (sp2 pInv))
    (x_NoBack : PySem.W.excIn K CB [.type "ValueError", .type "Exception", .type "BaseException", .type "object"] "ValueError.__new__" = true) (g_NoBack : mg "NoBack" = some (.ref CB)) (k_NoBack : PySem.W.keepIn K (.ref CB) = true) (e_NoBack : PySem.W.subIn K (.ref CB) (.type "BaseException") = some true) (y_NoBack : PySem.W.typeIn K (.ref CB) = some (.type "type")) :
    Has P w K mg base (L2.CX P w) 2 "rule_back" ["rule"] (sp1 (pRback K CB)) := by
  refine D.ok1X sc_rule_back (fun f cdv A outer s H v1 Q E hr h => ?_)
  obtain ⟨r, t, p, m, rfl, h1, R, q, e⟩ := h
  refine ⟨_, (pss_cons (ps_asg (pv 0) (pg_tup rfl (pgs_cons (pg_name (i := 1) sc_rule_back.nd rfl (.inl rfl)) (pgs_cons (pg_name (i := 2) sc_rule_back.nd rfl (.inl rfl)) (pgs_cons (pg_name (i := 3) sc_rule_back.nd rfl (.inl rfl)) pgs_nil)))))
 (pss_cons (ps_if (pt_cmpR op_ne (pe_own h_common_divisor (hr.mono (by decide)) pass0 (pa_cons (pv 1) (pa_cons (pv 3) pa_nil))) pe_int (nomark _)) (pss_one (ps_raise rfl (takes_of rfl rfl rfl rfl) (pmk_own PySem.F.excBase_ValueError x_NoBack g_NoBack k_NoBack (raises_own e_NoBack y_NoBack) (by rfl)))) pss_nil)
 (pss_cons (ps_set (i := 4) sc_rule_back.nd rfl (.inl rfl) (pe_own h_inverse (hr.mono (by decide)) pass0 (pa_cons (pv 1) (pa_cons (pv 3) pa_nil))))
 (pss_one (ps_ret (pe_tup (pa_cons (pv 4) (pa_cons (pe_op op_mod (pe_op op_mulB (pe_un un_neg (pv 4)) (pv 2)) (pv 3)) (pa_cons (pv 3) pa_nil))))))))), ?_⟩
  have m0 : 0 < m := by have := R.b1; omega
  have a1 := R.t0
  have a2 := R.t1
  have a3 := R.p0
  have a4 := R.p1
  have a5 := R.b2
  refine ⟨_, rfl, r, _, rfl, h1, rfl, _, _, rfl, _, _, rfl, _, _, rfl, rfl, ?_⟩
  refine ⟨_, rfl, _, rfl, _, _, rfl, t, m, rfl, rfl, R.t0, by omega, rfl, _, rfl, ifNI (fun ne => ?_) (fun ne => ?_)⟩
  · exact e (fun z => ne (by rw [z]; rfl))
  · have g1 : Int.gcd t m = 1 := by omega
    refine ⟨_, rfl, _, rfl, _, _, rfl, t, m, rfl, rfl, R.t0, m0, R.b2, g1, fun H0 u s0 u0 u1 hu => ?_⟩
    refine ⟨_, rfl, _, rfl, _, rfl, _, rfl, _, _, rfl, rfl, ⟨by unfold Big; omega, by unfold Big; omega⟩, _, rfl, _, _, rfl, rfl, m0, ?_⟩
    exact ⟨_, rfl, by show 3 ≤ sizeLine; decide, fun x nx => q g1 _ x u (s0.trans (same_new nx)) (s0.free nx) u0 u1 hu upd_same⟩
theorem ok_jumped {CN CB : Addr} (D : Top K mg "jumped" s_jumped ["rule", "start", "steps"]) (h_check_number : Has P w K mg base (L2.CX P w) 3 "check_number" ["number", "bound"] (sp2 (pCheck CN))) (h_next_of : Has P w K mg base (L2.CX P w) 4 "next_of" ["rule", "number"] (sp2 (pNextOf K CN)))
    (h_rule_of_steps : Has P w K mg base CX0 2 "rule_of_steps" ["rule", "steps"] (sp2 (pRos K))) (h_rule_back : Has P w K mg base (L2.CX P w) 2 "rule_back" ["rule"] (sp1 (pRback K CB))) : Has P w K mg base (L2.CX P w) 5 "jumped" ["rule", "start", "steps"] (sp3 (pJump K CN CB)) := by
  refine D.ok3X sc_jumped (fun f cdv A outer s H v1 v2 v3 Q E hr h => ?_)
  obtain ⟨r, t, p, m, s0, n, rfl, rfl, rfl, h1, R, eN, qa, qb, eB⟩ := h
  refine ⟨_, (pss_cons (ps_expr (pe_own h_check_number (hr.mono (by decide)) (passes_call (takes_of rfl rfl rfl rfl) (fun _ _ _ _ z => z)) (pa_cons (pv 1) (pa_cons (pe_ix ix_tup (pv 0) pe_int (fun _ _ => rfl)) pa_nil))))
 (pss_cons (ps_if (pt_cmpR op_lt (pv 2) pe_int (nomark _)) (pss_one (ps_ret (pe_own h_next_of (hr.mono (by decide)) (passes_call (takes_of rfl rfl rfl rfl) (fun _ _ _ _ z => z)) (pa_cons (pe_own h_rule_of_steps (hr.mono (by decide)) pass0 (pa_cons (pe_own h_rule_back (hr.mono (by decide)) (passes_call (takes_of rfl rfl rfl rfl) (fun _ _ _ _ z => z)) (pa_cons (pv 0) pa_nil)) (pa_cons (pe_un un_neg (pv 2)) pa_nil))) (pa_cons (pv 1) pa_nil))))) pss_nil)
 (pss_one (ps_ret (pe_own h_next_of (hr.mono (by decide)) (passes_call (takes_of rfl rfl rfl rfl) (fun _ _ _ _ z => z)) (pa_cons (pe_own h_rule_of_steps (hr.mono (by decide)) pass0 (pa_cons (pv 0) (pa_cons (pv 2) pa_nil))) (pa_cons (pv 1) pa_nil))))))), ?_⟩
  have m0 : 0 < m := by have := R.b1; omega
  refine ⟨_, rfl, _, rfl, r, _, 2, .int m, rfl, rfl, h1, rfl, _, _, rfl, s0, m, rfl, rfl, fun a0 a1 => ?_, eN⟩
  refine ⟨_, rfl, _, _, rfl, rfl, _, rfl, ifD (fun nn => ?_) (fun nn => ?_)⟩
  · refine ⟨_, rfl, _, rfl, r, t, p, m, rfl, h1, R, fun g H1 u x s1 nu u0 u1 hu hx => ?_, fun g => eB ⟨a0, a1⟩ nn g⟩
    have pr := mod_bd (-x * p) m0
    have R2 : Rule x (-x * p % m) m := ⟨R.b1, R.b2, u0, u1, pr.1, pr.2⟩
    refine ⟨_, rfl, _, rfl, _, _, rfl, u, x, _, m, -n, rfl, rfl, SqT.of hx, R2, by omega, fun H2 u2 s2 hx2 => ?_⟩
    refine ⟨_, rfl, _, _, rfl, u2, _, _, m, s0, rfl, rfl, SqT.of hx2, R2.rs _, fun _ _ => ?_, fun z => absurd ⟨a0, a1⟩ z⟩
    rw [stp_rs]
    exact qb ⟨a0, a1⟩ nn g _ _ (s1.trans s2) (back_of m0 hu s0 a0 a1 _)
  · refine ⟨_, rfl, _, rfl, _, _, rfl, r, t, p, m, n, rfl, rfl, h1, R, by omega, fun H2 u2 s2 hx2 => ?_⟩
    refine ⟨_, rfl, _, _, rfl, u2, _, _, m, s0, rfl, rfl, SqT.of hx2, R.rs _, fun _ _ => ?_, fun z => absurd ⟨a0, a1⟩ z⟩
    rw [stp_rs]
    exact qa ⟨a0, a1⟩ (by omega) _ s2
end
end Tw


namespace Tw
open PySem PySem.Spec PyProof.Rows L2
abbrev s_before : Stmt := topS 22
theorem sc_before : FnScope ["rule", "number", "times", "plus", "bound", "shared", "apart", "least"] ["rule", "number"] (defScope s_before) := ⟨rfl, rfl, rfl, by decide +kernel, rfl, by decide +kernel, by decide +kernel⟩
section
variable {P : Program} {w : World} {K : PySem.W.Frag} {mg : Str → Option Value} {base : Heap}
theorem ok_before {CN : Addr} (D : Top K mg "before" s_before ["rule", "number"]) (h_check_number : Has P w K mg base (L2.CX P w) 3 "check_number" ["number", "bound"] (sp2 (pCheck CN))) (h_common_divisor : Has P w K mg base CX0 1 "common_divisor" ["one", "other"] (sp2 pGcd)) (h_inverse : Has P w K mg base CX0 1 "inverse" ["number", "bound"] (sp2 pInv)) :
    Has P w K mg base (L2.CX P w) 4 "before" ["rule", "number"] (sp2 (pBefore K CN)) := by
  refine D.ok2X sc_before (fun f cdv A outer s H v1 v2 Q E hr h => ?_)
  obtain ⟨r, t, p, m, n, rfl, rfl, h1, R, eN, q0, q1⟩ := h
  refine ⟨_, (pss_cons (ps_asg (pv 0) (pg_tup rfl (pgs_cons (pg_name (i := 2) sc_before.nd rfl (.inl rfl)) (pgs_cons (pg_name (i := 3) sc_before.nd rfl (.inl rfl)) (pgs_cons (pg_name (i := 4) sc_before.nd rfl (.inl rfl)) pgs_nil)))))
 (pss_cons (ps_expr (pe_own h_check_number (hr.mono (by decide)) (passes_call (takes_of rfl rfl rfl rfl) (fun _ _ _ _ z => z)) (pa_cons (pv 1) (pa_cons (pv 4) pa_nil))))
 (pss_cons (ps_set (i := 5) sc_before.nd rfl (.inl rfl) (pe_own h_common_divisor (hr.mono (by decide)) pass0 (pa_cons (pv 2) (pa_cons (pv 4) pa_nil))))
 (pss_cons (ps_if (pt_cmpR op_ne (pe_op op_mod (pe_op op_sub (pv 1) (pv 3)) (pv 5)) pe_int (nomark _)) (pss_one (ps_ret (pe_tup (pa_cons pe_int (pa_cons pe_non pa_nil))))) pss_nil)
 (pss_cons (ps_set (i := 6) sc_before.nd rfl (.inl rfl) (pe_op op_fdivB (pv 4) (pv 5)))
 (pss_cons (ps_set (i := 7) sc_before.nd rfl (.inl rfl) (pe_op op_mod (pe_op op_mulB (pe_op op_fdivB (pe_op op_sub (pv 1) (pv 3)) (pv 5)) (pe_own h_inverse (hr.mono (by decide)) pass0 (pa_cons (pe_op op_fdivB (pv 2) (pv 5)) (pa_cons (pv 6) pa_nil)))) (pv 6)))
 (pss_one (ps_ret (pe_tup (pa_cons (pv 5) (pa_cons (pv 7) pa_nil))))))))))), ?_⟩
  have m0 : 0 < m := by have := R.b1; omega
  have t0 := R.t0
  have t1 := R.t1
  have p0 := R.p0
  have p1 := R.p1
  have b2 := R.b2
  have g0 := gcd_pos (t := t) m0
  obtain ⟨e1, e2, e3, e4⟩ := gcd_parts (t := t) m0
  have gm : (Int.gcd t m : Int) ≤ m := Int.le_of_dvd m0 (Int.gcd_dvd_right ..)
  refine ⟨_, rfl, r, _, rfl, h1, rfl, _, _, rfl, _, _, rfl, _, _, rfl, rfl, ?_⟩
  refine ⟨_, rfl, _, rfl, _, _, rfl, n, m, rfl, rfl, fun a0 a1 => ?_, eN⟩
  refine ⟨_, rfl, _, rfl, _, _, rfl, t, m, rfl, rfl, t0, by omega, ?_⟩
  refine ⟨_, rfl, _, rfl, _, _, rfl, rfl, _, rfl, _, _, rfl, rfl, g0, rfl, _, rfl, ifNI (fun nz => ?_) (fun z => ?_)⟩
  · exact ⟨by show 2 ≤ sizeLine; decide, fun u nu => q0 ⟨a0, a1⟩ nz _ u (same_new nu) nu upd_same⟩
  · have me : m / (Int.gcd t m : Nat) ≤ m := Int.ediv_le_self _ (by omega)
    have cb : -1000000000000 ≤ (n - p) / (Int.gcd t m : Nat) ∧ (n - p) / (Int.gcd t m : Nat) ≤ 1000000000000 := by
      constructor
      · rw [Int.le_ediv_iff_mul_le g0]
        have := mul_bd (show (0:Int) ≤ 1000000000000 by decide) (Int.le_refl _) (show (0:Int) ≤ 1 by decide) (show (1:Int) ≤ (Int.gcd t m : Nat) by omega)
        omega
      · exact Int.le_trans (Int.ediv_le_ediv g0 (show n - p ≤ 1000000000000 by omega)) (Int.ediv_le_self _ (by decide))
    have tp : 0 ≤ t / (Int.gcd t m : Nat) := Int.ediv_nonneg t0 (by omega)
    refine ⟨_, rfl, _, rfl, _, _, rfl, rfl, ⟨g0, by omega⟩, ?_⟩
    refine ⟨_, rfl, _, rfl, _, _, rfl, rfl, _, rfl, _, _, rfl, rfl, ⟨g0, by omega⟩, ?_⟩
    refine ⟨_, rfl, _, rfl, _, _, rfl, rfl, ⟨g0, by omega⟩, _, rfl, _, _, rfl, _, _, rfl, rfl, tp, e3, by omega, e4, fun H1 v s1 v0 v1 hv => ?_⟩
    refine ⟨_, _, rfl, rfl, ⟨by unfold Big; omega, by unfold Big; omega⟩, _, rfl, _, _, rfl, rfl, e3, ?_⟩
    refine ⟨_, rfl, _, rfl, by show 2 ≤ sizeLine; decide, fun u nu => ?_⟩
    exact q1 ⟨a0, a1⟩ z _ u _ (s1.trans (same_new nu)) (s1.free nu) (bef_of m0 a0 a1 z hv) upd_same
end
end Tw


namespace Tw
open PySem PySem.Spec PyProof.Rows L2
abbrev s_is_figures : Stmt := topS 13
theorem sc_is_figures : FnScope ["word", "sign"] ["word"] (defScope s_is_figures) := ⟨rfl, rfl, rfl, by decide +kernel, rfl, by decide +kernel, by decide +kernel⟩
section
variable {P : Program} {w : World} {K : PySem.W.Frag} {mg : Str → Option Value} {base : Heap}
theorem ok_is_figures {c Pt : Addr} {tF : Tok} (D : TopC K mg "is_figures" s_is_figures ["word"] c) (TB : GxR.TabB base mg c Pt) (g_FIGURES : mg "FIGURES" = some (.str (Str.ofString "0123456789") tF)) (z_all : mg "all" = none) :
    Has P w K mg base CX0 2 "is_figures" ["word"] (sp1 (pFig Pt)) := by
  refine D.ok1 sc_is_figures (fun f A outer s H v1 Q E hr h => ?_)
  obtain ⟨l, rfl, ll, hT, q⟩ := h
  refine ⟨_, (pss_cons (ps_if (PW.pt (pw_or (pt_cmpR op_eq (pv 0) pe_str (nomark _)) (pw_or1 (pt_not (pt_val (pe_allG (k := 0) (ix := 1) rfl sc_is_figures.nd rfl (hr.mono (by decide)) (by rfl) z_all (by decide +kernel) TB rfl ⟨rfl, rfl, by decide +kernel, by decide +kernel, rfl, rfl⟩ (pi_str (pv 0)) (fun _ _ _ _ _ _ hr => (pe_cmpR op_in_str (pv 1) (pe_glob (v := .str _) (by rfl) g_FIGURES ⟨_, rfl⟩) (by rfl))) (fun _ => rfl))))))) (pss_one (ps_ret pe_bl)) pss_nil)
 (pss_one (ps_ret (pe_or (pe_cmpR op_eq (pv 0) pe_str (nomark _)) (pe_one (pe_cmpR op_ne (pe_ix ix_str (pv 0) pe_int (fun _ _ => rfl)) pe_str (nomark _))))))), ?_⟩
  have eF : Str.ofString "0123456789" = SX.S tenS := by decide
  have e0 : Str.ofString "0" = SX.S [48] := by decide
  refine ⟨_, rfl, rfl, _, rfl, ifD (fun e => ?_) (fun ne => ?_)⟩
  · have e2 : SX.S l = Str.ofString "" := V.str.inj e
    have e3 : l = [] := by
      have := congrArg (fun z : Str => z.cps.toList) e2
      exact this
    have := q H (tabbed_refl hT)
    rw [e3] at this
    exact this
  · have lne : l ≠ [] := fun z => ne (by rw [z]; rfl)
    refine ⟨_, rfl, SX.S l, rfl, hT, l.length, fun i H' => GxR.Tabbed Pt H H' ∧ (l.take i).all dig = true, fun H2 t2 => ⟨t2, by simp⟩, fun H2 w2 => ?_, fun i H2 hi w2 => ?_⟩
    · obtain ⟨t2, ad⟩ := w2
      rw [List.take_length] at ad
      refine ⟨by show l.toArray.size ≤ l.length; simp, _, rfl, ifF rfl ?_⟩
      have qq := q H2 t2
      unfold figs at qq
      rw [ad] at qq
      obtain ⟨c0, r, rfl⟩ : ∃ c0 r, l = c0 :: r := by
        cases l with
        | nil => exact absurd rfl lne
        | cons c0 r => exact ⟨c0, r, rfl⟩
      refine ⟨_, rfl, rfl, _, rfl, ifD (fun e => ?_) (fun n2 => ?_)⟩
      · have e2 : c0 :: r = [48] := congrArg (fun z : Str => z.cps.toList) ((V.str.inj e).trans e0)
        rw [decide_eq_true e2] at qq
        exact qq
      · have n3 : c0 :: r ≠ [48] := fun z => n2 (by rw [z, e0])
        rw [decide_eq_false n3] at qq
        refine ⟨_, rfl, SX.S (c0 :: r), 0, c0, rfl, rfl, sz ll, (by show atI (c0 :: r) ((0 : Nat) : Int) = some c0; exact atI_nat rfl), rfl, ?_⟩
        have eb : (!decide (V.str ⟨#[c0]⟩ = V.str (Str.ofString "0"))) = decide ((c0 :: r).head? ≠ some 48) := by
          by_cases z : c0 = 48
          · rw [z]
            rfl
          · rw [decide_eq_false (fun k => z (by
              have := congrArg (fun z : Str => z.cps.toList) ((V.str.inj k).trans e0)
              have h2 : [c0] = [48] := this
              exact List.head_eq_of_cons_eq h2))]
            exact (decide_eq_true (show (c0 :: r).head? ≠ some 48 from fun k => z (Option.some.inj k))).symm
        rw [eb]
        exact qq
    · obtain ⟨t2, ad⟩ := w2
      refine ⟨by show i < l.toArray.size; simpa using hi, fun v H3 hy => ?_⟩
      obtain ⟨rfl, cc, hcc, rfl⟩ := hy
      have hc2 : l[i]? = some cc := by simpa using hcc
      have ed : (!(Builtin.Str.occurrences (Str.ofString "0123456789") (⟨#[cc]⟩ : Str) 0 (Str.ofString "0123456789").length 1).isEmpty) = dig cc := by
        rw [eF]
        exact (SX.in_one tenS cc).trans (dig_in cc)
      refine ⟨_, rfl, _, _, rfl, rfl, _, rfl, fun hb => ?_, fun hb => ?_⟩
      · refine ⟨t2, ?_⟩
        rw [List.take_add_one, hc2, List.all_append, ad]
        show (true && (dig cc && true)) = true
        rw [← ed, hb]
        rfl
      · refine ⟨_, rfl, ifT rfl ?_⟩
        have qq := q H3 t2
        have ef : figs l = false := by
          have : l.all dig = false := by
            rw [List.all_eq_false]
            exact ⟨cc, List.mem_of_getElem? hc2, by rw [← ed, hb]; decide⟩
          unfold figs
          rw [this, Bool.and_false, Bool.false_and]
        rw [ef] at qq
        exact qq
end
end Tw


namespace Tw
open PySem PySem.Spec PyProof.Rows L2
abbrev s_read_rule : Stmt := topS 14
theorem sc_read_rule : FnScope ["text", "words", "times", "plus", "bound", "word"] ["text"] (defScope s_read_rule) := ⟨rfl, rfl, rfl, by decide +kernel, rfl, by decide +kernel, by decide +kernel⟩
section
variable {P : Program} {w : World} {K : PySem.W.Frag} {mg : Str → Option Value} {base : Heap}
theorem ok_read_rule {c P1 P2 CU : Addr} (D : TopC K mg "read_rule" s_read_rule ["text"] c) (TB : GxR.TabB base mg c P1) (p12 : P1 ≠ P2) (h_is_figures : Has P w K mg base CX0 2 "is_figures" ["word"] (sp1 (pFig P2)))
    (z_all : mg "all" = none) (z_isinstance : mg "isinstance" = none) (z_str : mg "str" = none) (z_len : mg "len" = none) (z_int : mg "int" = none)
    (x_NoRule : PySem.W.excIn K CU [.type "ValueError", .type "Exception", .type "BaseException", .type "object"] "ValueError.__new__" = true) (g_NoRule : mg "NoRule" = some (.ref CU)) (k_NoRule : PySem.W.keepIn K (.ref CU) = true) (e_NoRule : PySem.W.subIn K (.ref CU) (.type "BaseException") = some true) (y_NoRule : PySem.W.typeIn K (.ref CU) = some (.type "type")) :
    Has P w K mg base (L2.CX P w) 4 "read_rule" ["text"] (sp1 (pRead P1 P2 CU)) := by
  refine D.ok1X sc_read_rule (fun f A outer s H v1 Q E hr h => ?_)
  obtain ⟨a, rfl, al, hT1, hT2, q, e⟩ := h
  refine ⟨_, (pss_cons (ps_set (i := 1) sc_read_rule.nd rfl (.inl rfl) (pe_ifExp (pt_val (pe_callB (id := "isinstance") call_isA (by rfl) z_isinstance (by decide +kernel) (pa_cons (pv 0) (pa_cons (pe_bltn (v := .ty "str") (by rfl) z_str (by decide +kernel) rfl) pa_nil)))) (pe_split (pv 0) pe_str) (pe_lst pa_nil)))
 (pss_cons (ps_if (PW.pt (pw_or (pt_cmpR op_ne (pe_callB (id := "len") call_len_seq (by rfl) z_len (by decide +kernel) (pa_cons (pv 1) pa_nil)) pe_int (nomark _)) (pw_or1 (pt_not (pt_val (pe_allG (k := 2) (ix := 5) rfl sc_read_rule.nd rfl (hr.mono (by decide)) (by rfl) z_all (by decide +kernel) TB rfl ⟨rfl, rfl, by decide +kernel, by decide +kernel, rfl, rfl⟩ (pi_list (pv 1)) (fun _ _ _ _ _ _ hr => (pe_own h_is_figures (hr.mono (by decide)) pass0 (pa_cons (pv 5) pa_nil))) (fun _ => rfl))))))) (pss_one (ps_raise rfl (takes_of rfl rfl rfl rfl) (pmk_own PySem.F.excBase_ValueError x_NoRule g_NoRule k_NoRule (raises_own e_NoRule y_NoRule) (by rfl)))) pss_nil)
 (pss_cons (ps_par3 (i := 2) (j := 3) (l := 4) rfl sc_read_rule.nd rfl rfl rfl (by decide) (by decide) (by decide) rfl rfl rfl (pa_cons (pe_callTy call_int_str (by rfl) z_int (by decide +kernel) (pa_cons (pe_ix ix_list (pv 1) pe_int (fun _ _ => rfl)) pa_nil)) (pa_cons (pe_callTy call_int_str (by rfl) z_int (by decide +kernel) (pa_cons (pe_ix ix_list (pv 1) pe_int (fun _ _ => rfl)) pa_nil)) (pa_cons (pe_callTy call_int_str (by rfl) z_int (by decide +kernel) (pa_cons (pe_ix ix_list (pv 1) pe_int (fun _ _ => rfl)) pa_nil)) pa_nil))) (by rfl))
 (pss_cons (ps_if (PW.pt (pw_or (pt_cmpR op_ge (pv 2) (pv 4) (nomark _)) (pw_or1 (pt_cmpR op_ge (pv 3) (pv 4) (nomark _))))) (pss_one (ps_raise rfl (takes_of rfl rfl rfl rfl) (pmk_own PySem.F.excBase_ValueError x_NoRule g_NoRule k_NoRule (raises_own e_NoRule y_NoRule) (by rfl)))) pss_nil)
 (pss_one (ps_ret (pe_tup (pa_cons (pv 2) (pa_cons (pv 3) (pa_cons (pv 4) pa_nil)))))))))), ?_⟩
  refine ⟨_, rfl, .inr ⟨_, _, _, _, true, rfl, .ty _, .base (.str _), kit_ty (by decide +kernel), _, rfl, ifT rfl ?_⟩⟩
  refine ⟨_, rfl, ⟨_, rfl⟩, SX.S a, _, rfl, rfl, rfl, sz (by show a.toArray.size + 2 ≤ 100000; simp; omega), fun l nl => ?_⟩
  rw [split_wds]
  have s1 := same_new (o := .lst (((wds a).map SX.S).map V.str)) nl
  have hl1 : (upd H l (.lst (((wds a).map SX.S).map V.str))) l = some (.lst (((wds a).map SX.S).map V.str)) := upd_same
  have T1 := tabG_same hT1 s1
  have T2 := tabG_same hT2 s1
  generalize hH1 : upd H l (.lst (((wds a).map SX.S).map V.str)) = H1 at s1 hl1 T1 T2 ⊢
  have g1 : Grow P1 P2 H H1 := (Grow.refl hT1 hT2).same s1
  refine ⟨_, rfl, l, _, rfl, .inl (SqL.of hl1), rfl, _, rfl, ?_⟩
  rw [List.length_map, List.length_map]
  refine ifNI (fun n3 => ?_) (fun e3 => ?_)
  · refine e ?_ _ g1
    unfold readR
    split
    · rename_i x y z ew
      rw [ew] at n3
      exact absurd rfl n3
    · rfl
  · obtain ⟨x, y, z, ew⟩ : ∃ x y z, wds a = [x, y, z] := by
      match h : wds a with
      | [x, y, z] => exact ⟨x, y, z, rfl⟩
      | [] => rw [h] at e3; cases e3
      | [_] => rw [h] at e3; cases e3
      | [_, _] => rw [h] at e3; cases e3
      | _ :: _ :: _ :: _ :: r =>
        rw [h] at e3
        have : ((r.length + 4 : Nat) : Int) = 3 := e3
        omega
    have lx : ∀ v ∈ wds a, v.length ≤ 640 := fun v hv => Nat.le_trans (wds_len hv) al
    refine ⟨_, rfl, l, rfl, ⟨_, SqL.of hl1⟩, T1, 3, fun i H' => (GxR.TabG H' P1 ∧ GxR.TabG H' P2 ∧ ∀ b, b ≠ P1 → b ≠ P2 → H' b = H1 b) ∧ ((wds a).take i).all figs = true, fun H2 t2 => ⟨⟨t2.1, ?_, fun b n1 n2 => t2.2 b n1⟩, rfl⟩, fun H2 w2 => ?_, fun i H2 hi w2 => ?_⟩
    · obtain ⟨ps, e1, e2⟩ := T2
      exact ⟨ps, by rw [t2.2 P2 (Ne.symm p12)]; exact e1, e2⟩
    · obtain ⟨⟨u1, u2, u3⟩, ad⟩ := w2
      have hl2 : H2 l = some (.lst (((wds a).map SX.S).map V.str)) := by
        rw [u3 l (tabG_ne T1 hl1 (fun ps z => by cases z)) (tabG_ne T2 hl1 (fun ps z => by cases z))]
        exact hl1
      have g2 : Grow P1 P2 H H2 := g1.trans ⟨u1, u2, fun b o n1 n2 e => by rw [u3 b n1 n2]; exact e⟩
      refine ⟨⟨_, SqL.of hl2, by rw [ew]; exact Nat.le_refl 3⟩, _, rfl, ifF rfl ?_⟩
      rw [ew] at hl2 ad lx
      have ad' : (figs x && (figs y && (figs z && true))) = true := ad
      simp only [Bool.and_eq_true, and_true] at ad'
      obtain ⟨fx, fy, fz⟩ := ad'
      have l1 := lx x (by simp)
      have l2 := lx y (by simp)
      have l3 := lx z (by simp)
      refine ⟨_, rfl, l, _, 0, .str (SX.S x), rfl, rfl, SqL.of hl2, rfl, SX.S x, vl x, rfl, figs_int fx (by omega), by show x.toArray.size ≤ 640; simpa using l1, ?_⟩
      refine ⟨_, rfl, l, _, 1, .str (SX.S y), rfl, rfl, SqL.of hl2, rfl, SX.S y, vl y, rfl, figs_int fy (by omega), by show y.toArray.size ≤ 640; simpa using l2, ?_⟩
      refine ⟨_, rfl, l, _, 2, .str (SX.S z), rfl, rfl, SqL.of hl2, rfl, SX.S z, vl z, rfl, figs_int fz (by omega), by show z.toArray.size ≤ 640; simpa using l3, ?_⟩
      refine ⟨_, _, _, rfl, ?_⟩
      have er : readR a = if vl z ≤ vl x ∨ vl z ≤ vl y then none else some (vl x, vl y, vl z) := by
        unfold readR
        rw [ew]
        show (if (figs x && figs y && figs z) = true then _ else _) = _
        rw [fx, fy, fz]
        rfl
      refine ⟨_, rfl, _, rfl, _, _, rfl, rfl, _, rfl, ifD (fun c1 => ?_) (fun c1 => ?_)⟩
      · exact e (by rw [er, if_pos (.inl c1)]) _ g2
      · refine ⟨_, rfl, _, rfl, _, _, rfl, rfl, _, rfl, ifD (fun c2 => ?_) (fun c2 => ?_)⟩
        · exact e (by rw [er, if_pos (.inr c2)]) _ g2
        · refine ⟨_, rfl, _, rfl, _, rfl, by show 3 ≤ sizeLine; decide, fun u nu => ?_⟩
          have hu : H u = none := by
            cases hq : H u with
            | none => rfl
            | some o =>
              exfalso
              by_cases z1 : u = P1
              · obtain ⟨ps, e1, _⟩ := u1
                rw [z1, e1] at nu
                cases nu
              · by_cases z2 : u = P2
                · obtain ⟨ps, e1, _⟩ := u2
                  rw [z2, e1] at nu
                  cases nu
                · rw [g2.keep u o z1 z2 hq] at nu
                  cases nu
          exact q (vl x) (vl y) (vl z) (by rw [er, if_neg (fun k => k.elim c1 c2)]) _ u (g2.same (same_new nu)) hu upd_same
    · obtain ⟨⟨u1, u2, u3⟩, ad⟩ := w2
      have hl2 : H2 l = some (.lst (((wds a).map SX.S).map V.str)) := by
        rw [u3 l (tabG_ne T1 hl1 (fun ps z => by cases z)) (tabG_ne T2 hl1 (fun ps z => by cases z))]
        exact hl1
      have hi3 : i < (wds a).length := by rw [ew]; exact hi
      have hv : (((wds a).map SX.S).map V.str)[i]? = some (.str (SX.S (wds a)[i])) := by
        rw [List.getElem?_map, List.getElem?_map, List.getElem?_eq_getElem hi3]
        rfl
      refine ⟨⟨_, _, SqL.of hl2, hv⟩, fun v H3 hy => ?_⟩
      obtain ⟨rfl, hy⟩ := hy
      obtain rfl : v = .str (SX.S (wds a)[i]) := Option.some.inj ((hy _ (SqL.of hl2)).symm.trans hv)
      refine ⟨_, rfl, _, rfl, (wds a)[i], rfl, Nat.le_trans (lx _ (List.getElem_mem hi3)) (by decide), u2, fun H4 t4 => ⟨_, rfl, fun hb => ?_, fun hb => ?_⟩⟩
      · have u4 : GxR.TabG H4 P1 := by
          obtain ⟨ps, e1, e2⟩ := u1
          exact ⟨ps, by rw [t4.2 P1 p12]; exact e1, e2⟩
        refine ⟨⟨u4, t4.1, fun b n1 n2 => (t4.2 b n2).trans (u3 b n1 n2)⟩, ?_⟩
        rw [List.take_add_one, List.getElem?_eq_getElem hi3, List.all_append, ad]
        show (true && (figs (wds a)[i] && true)) = true
        rw [hb]
        rfl
      · refine ⟨_, rfl, ifT rfl ?_⟩
        have u4 : GxR.TabG H4 P1 := by
          obtain ⟨ps, e1, e2⟩ := u1
          exact ⟨ps, by rw [t4.2 P1 p12]; exact e1, e2⟩
        refine e ?_ _ (g1.trans ⟨u4, t4.1, fun b o n1 n2 eo => by rw [t4.2 b n2, u3 b n1 n2]; exact eo⟩)
        have nf : ((wds a).all figs) = false := by
          rw [List.all_eq_false]
          exact ⟨_, List.getElem_mem hi3, by rw [hb]; decide⟩
        unfold readR
        rw [ew] at nf ⊢
        show (if (figs x && figs y && figs z) = true then _ else _) = _
        have nf2 : (figs x && (figs y && (figs z && true))) = false := nf
        rw [Bool.and_true, ← Bool.and_assoc] at nf2
        rw [nf2]
        rfl
end
end Tw


namespace Tw
open PySem PySem.Spec PyProof.Rows L2
abbrev s_rule_shown : Stmt := topS 15
theorem sc_rule_shown : FnScope ["rule", "times", "plus", "bound"] ["rule"] (defScope s_rule_shown) := ⟨rfl, rfl, rfl, by decide +kernel, rfl, by decide +kernel, by decide +kernel⟩
section
variable {P : Program} {w : World} {K : PySem.W.Frag} {mg : Str → Option Value} {base : Heap}
theorem ok_rule_shown (D : Top K mg "rule_shown" s_rule_shown ["rule"]) : Has P w K mg base CX0 1 "rule_shown" ["rule"] (sp1 (pShown K)) := by
  refine D.ok1 sc_rule_shown (fun f cdv A outer s H v1 Q E hr h => ?_)
  obtain ⟨r, t, p, m, rfl, h1, R, q⟩ := h
  refine ⟨_, (pss_cons (ps_asg (pv 0) (pg_tup rfl (pgs_cons (pg_name (i := 1) sc_rule_shown.nd rfl (.inl rfl)) (pgs_cons (pg_name (i := 2) sc_rule_shown.nd rfl (.inl rfl)) (pgs_cons (pg_name (i := 3) sc_rule_shown.nd rfl (.inl rfl)) pgs_nil)))))
 (pss_one (ps_ret (pe_joined (PJ.cons (pe_fmt (pv 1)) (PJ.cons pe_str (PJ.cons (pe_fmt (pv 2)) (PJ.cons pe_str (PJ.cons (pe_fmt (pv 3)) PJ.nil))))))))), ?_⟩
  have a1 := R.t0
  have a2 := R.t1
  have a3 := R.p0
  have a4 := R.p1
  have a5 := R.b2
  refine ⟨_, rfl, r, _, rfl, h1, rfl, _, _, rfl, _, _, rfl, _, _, rfl, rfl, ?_⟩
  have k : ∀ n : Nat, (n : Int) ≤ 1000000000000 → (TL.numL n).length ≤ 13 := fun n hn => TL.numL_len (by decide) (by
    have : (10 : Nat) ^ 13 = 10000000000000 := by decide
    omega)
  have k1 := k t.toNat (by omega)
  have k2 := k p.toNat (by omega)
  have k3 := k m.toNat (by omega)
  have eb : Str.ofString " " = SX.S [32] := by decide
  have ee : Str.empty = SX.S [] := by decide
  refine ⟨_, rfl, .inr ⟨t, rfl, lg_small a1 (by omega), ?_⟩⟩
  rw [str_num a1, ee]
  refine ⟨_, rfl, by rw [SX.S_cat]; exact s_len _ (by rw [List.nil_append]; omega), ?_⟩
  rw [SX.S_cat, List.nil_append]
  refine ⟨_, rfl, by rw [eb, SX.S_cat]; exact s_len _ (by rw [List.length_append]; show _ + 1 ≤ 1000; omega), ?_⟩
  rw [eb, SX.S_cat]
  refine ⟨_, rfl, .inr ⟨p, rfl, lg_small a3 (by omega), ?_⟩⟩
  rw [str_num a3]
  refine ⟨_, rfl, by rw [SX.S_cat]; exact s_len _ (by rw [List.length_append, List.length_append]; show _ + 1 + _ ≤ 1000; omega), ?_⟩
  rw [SX.S_cat]
  refine ⟨_, rfl, by rw [SX.S_cat]; exact s_len _ (by rw [List.length_append, List.length_append, List.length_append]; show _ + 1 + _ + 1 ≤ 1000; omega), ?_⟩
  rw [SX.S_cat]
  refine ⟨_, rfl, .inr ⟨m, rfl, lg_small (by omega) (by omega), ?_⟩⟩
  rw [str_num (show 0 ≤ m by omega)]
  refine ⟨_, rfl, by rw [SX.S_cat]; exact s_len _ (by rw [List.length_append, List.length_append, List.length_append, List.length_append]; show _ + 1 + _ + 1 + _ ≤ 1000; omega), ?_⟩
  rw [SX.S_cat]
  exact q
end
end Tw


namespace Tw
open PySem PySem.Spec PyProof.Rows L2
abbrev s_back : Stmt := topS 31
theorem sc_back : FnScope ["rule", "start", "steps", "found", "caught", "e"] ["rule", "start", "steps"] (defScope s_back) := ⟨rfl, rfl, rfl, by decide +kernel, rfl, by decide +kernel, by decide +kernel⟩
abbrev s_row_right : Stmt := topS 32
theorem sc_row_right : FnScope ["deck", "rule", "start", "many", "row"] ["deck", "rule", "start"] (defScope s_row_right) := ⟨rfl, rfl, rfl, by decide +kernel, rfl, by decide +kernel, by decide +kernel⟩
abbrev s_steps_right : Stmt := topS 33
theorem sc_steps_right : FnScope ["deck", "rule", "start", "one", "other", "back", "there"] ["deck", "rule", "start"] (defScope s_steps_right) := ⟨rfl, rfl, rfl, by decide +kernel, rfl, by decide +kernel, by decide +kernel⟩
abbrev s_before_right : Stmt := topS 34
theorem sc_before_right : FnScope ["rule", "start", "many", "least", "back", "other"] ["rule", "start"] (defScope s_before_right) := ⟨rfl, rfl, rfl, by decide +kernel, rfl, by decide +kernel, by decide +kernel⟩
abbrev s_law : Stmt := topS 35
theorem sc_law : FnScope ["script", "deck", "turn", "rule", "start"] ["script"] (defScope s_law) := ⟨rfl, rfl, rfl, by decide +kernel, rfl, by decide +kernel, by decide +kernel⟩
section
variable {P : Program} {w : World} {K : PySem.W.Frag} {mg : Str → Option Value} {base : Heap}
theorem ok_back {CN CB : Addr} (D : Top K mg "_law_back" s_back ["rule", "start", "steps"]) (h_jumped : Has P w K mg base (L2.CX P w) 5 "jumped" ["rule", "start", "steps"] (sp3 (pJump K CN CB)))
    (g_NoBack : mg "NoBack" = some (.ref CB)) (xmB : PySem.W.exmOne K (.ref CB) (.ref CB) = some true) : Has P w K mg base CX0 6 "_law_back" ["rule", "start", "steps"] (sp3 (pBackL K)) := by
  refine D.ok3 sc_back (fun f cdv A outer s H v1 v2 v3 Q E hr h => ?_)
  obtain ⟨r, t, p, m, s0, n, rfl, rfl, rfl, hr1, R, a0, a1, n0, q1, q2⟩ := h
  refine ⟨_, (pss_cons (ps_set (i := 3) sc_back.nd rfl (.inl rfl) pe_non)
 (pss_cons (ps_set (i := 4) sc_back.nd rfl (.inl rfl) pe_non)
 (pss_cons (ps_try_keep (i := 5) rfl rfl sc_back.nd rfl rfl ⟨rfl, by decide, .inl g_NoBack⟩ (fun W pn xe tk po => (pss_one (ps_set (i := 3) sc_back.nd rfl (.inl rfl) (pe_ownS h_jumped (hr.mono (by decide)) (fun σ => passAt tk σ) (pa_cons (pv 0) (pa_cons (pv 1) (pa_cons (pe_op op_sub pe_int (pv 2)) pa_nil))))))) (fun a pn => (pss_one (ps_set (i := 4) sc_back.nd rfl (.inl rfl) (pv 5)))))
 (pss_cons (ps_if (pt_cmpR op_notN (pv 4) pe_non (nomark _)) (pss_one (ps_ret pe_non)) pss_nil)
 (pss_one (ps_ret (pv 3))))))), ?_⟩
  refine ⟨_, rfl, _, rfl, _, rfl, _, _, rfl, rfl, _, _, _, rfl, r, t, p, m, s0, 0 - n, rfl, rfl, rfl, hr1, R, fun z => absurd ⟨a0, a1⟩ z, fun _ nn H1 s1 => ?_, fun _ nn g H1 y s1 hy => ?_, fun _ nn g => ?_⟩
  · obtain rfl : n = 0 := by omega
    refine ⟨_, rfl, rfl, _, rfl, ifN (fun e => absurd rfl e) (fun _ => ?_)⟩
    refine ⟨_, rfl, ?_⟩
    have e : ahd t p m (0 - (0 : Int)).toNat s0 = s0 := (itr_ahd5 (t := t) (p := p) a0 a1 0).symm
    rw [e]
    exact q1 (.inl rfl) _ _ s1 ⟨a0, a1, e⟩
  · refine ⟨_, rfl, rfl, _, rfl, ifN (fun e => absurd rfl e) (fun _ => ?_)⟩
    refine ⟨_, rfl, q1 (.inr g) _ _ s1 ?_⟩
    rw [show (-(0 - n)).toNat = n.toNat by omega] at hy
    exact hy
  · refine ⟨xmB, fun ae nae => ?_⟩
    have s2 := same_new (o := exv ae (.ref CB) none) nae
    refine ⟨_, rfl, ?_⟩
    refine ⟨_, rfl, rfl, _, rfl, ifN (fun e => ?_) (fun e => nomatch e)⟩
    exact q2 (by omega) g _ s2
theorem ok_row_right {CN CB : Addr} (D : Top K mg "_law_row_right" s_row_right ["deck", "rule", "start"]) (h_next : Has P w K mg base CX0 2 "_law_next" ["deck", "many"] (sp2 (pNext 1))) (h_row_from : Has P w K mg base (L2.CX P w) 5 "row_from" ["rule", "start", "many"] (sp3 (pRowFrom K CN)))
    (h_jumped : Has P w K mg base (L2.CX P w) 5 "jumped" ["rule", "start", "steps"] (sp3 (pJump K CN CB))) (h_next_of : Has P w K mg base (L2.CX P w) 4 "next_of" ["rule", "number"] (sp2 (pNextOf K CN))) (h_rule_of_steps : Has P w K mg base CX0 2 "rule_of_steps" ["rule", "steps"] (sp2 (pRos K))) :
    Has P w K mg base CX0 6 "_law_row_right" ["deck", "rule", "start"] (sp3 (pRowR 1)) := by
  refine D.ok3 sc_row_right (fun f cdv A outer s H v1 v2 v3 Q E hr h => ?_)
  obtain ⟨d, dn, r, t, p, m, s0, rfl, rfl, rfl, D0, dl, hr0, R, a0, a1, q⟩ := h
  refine ⟨_, (pss_cons (ps_set (i := 3) sc_row_right.nd rfl (.inl rfl) (pe_op op_add pe_int (pe_own h_next (hr.mono (by decide)) pass0 (pa_cons (pv 0) (pa_cons pe_int pa_nil)))))
 (pss_cons (ps_set (i := 4) sc_row_right.nd rfl (.inl rfl) (pe_own h_row_from (hr.mono (by decide)) passL (pa_cons (pv 1) (pa_cons (pv 2) (pa_cons pe_int pa_nil)))))
 (pss_cons (ps_if (PW.pt (pw_or (pt_cmpR (op_neD hr.units) (pe_own h_row_from (hr.mono (by decide)) passL (pa_cons (pv 1) (pa_cons (pe_ix ix_tup (pv 4) (pv 3) (fun _ _ => rfl)) (pa_cons (pe_op op_sub pe_int (pv 3)) pa_nil)))) (pe_slice sl_tup (pv 4) (po_some (pv 3)) po_none) (nomark _)) (pw_or1 (pt_cmpR (op_neD hr.units) (pe_own h_row_from (hr.mono (by decide)) passL (pa_cons (pv 1) (pa_cons (pv 2) (pa_cons (pv 3) pa_nil)))) (pe_slice sl_tup (pv 4) po_none (po_some (pv 3))) (nomark _))))) (pss_one (ps_ret pe_bl)) pss_nil)
 (pss_cons (ps_if (PW.pt (pw_or (pt_cmpR op_ne (pe_own h_jumped (hr.mono (by decide)) passL (pa_cons (pv 1) (pa_cons (pv 2) (pa_cons (pv 3) pa_nil)))) (pe_ix ix_tup (pv 4) (pv 3) (fun _ _ => rfl)) (nomark _)) (pw_or1 (pt_cmpR op_ne (pe_own h_next_of (hr.mono (by decide)) passL (pa_cons (pe_own h_rule_of_steps (hr.mono (by decide)) pass0 (pa_cons (pv 1) (pa_cons (pv 3) pa_nil))) (pa_cons (pv 2) pa_nil))) (pe_ix ix_tup (pv 4) (pv 3) (fun _ _ => rfl)) (nomark _))))) (pss_one (ps_ret pe_bl)) pss_nil)
 (pss_one (ps_ret (pe_and (pe_cmpR op_eq (pe_own h_next_of (hr.mono (by decide)) passL (pa_cons (pv 1) (pa_cons (pe_ix ix_tup (pv 4) (pe_op op_sub (pv 3) pe_int) (fun _ _ => rfl)) pa_nil))) (pe_ix ix_tup (pv 4) (pv 3) (fun _ _ => rfl)) (nomark _)) (pe_one (pe_cmpR op_eq (pe_own h_jumped (hr.mono (by decide)) passL (pa_cons (pv 1) (pa_cons (pv 2) (pa_cons pe_int pa_nil)))) (pv 2) (nomark _)))))))))), ?_⟩
  have m0 : 0 < m := by have := R.b1; omega
  have ir := fun k => itr_rng (t := t) (p := p) m0 ⟨a0, a1⟩ k
  refine ⟨_, rfl, _, _, rfl, d, dn, 59, rfl, rfl, by decide, by decide, D0, by omega, fun H1 v B1 D1 v0 v1 => ?_⟩
  obtain ⟨k, rfl⟩ := Int.eq_ofNat_of_zero_le v0
  have k1 : k < 59 := by omega
  have e1 : (1 : Int) + (k : Int) = ((k + 1 : Nat) : Int) := by omega
  refine ⟨_, _, rfl, rfl, ?_⟩
  have hr1 := B1 _ _ (D0.ne_tup hr0) hr0
  refine ⟨_, rfl, _, rfl, _, _, _, rfl, r, t, p, m, s0, 60, rfl, rfl, rfl, SqT.of hr1, R, by decide, by decide, fun _ _ H2 q2 s2 n2 h2 => ?_, fun z => absurd ⟨a0, a1⟩ z⟩
  have at_ : ∀ j : Nat, j < 60 → atI ((orb (stp t p m) (60 : Int).toNat s0).map V.int) (j : Int) = some (.int (itr (stp t p m) j s0)) := fun j hj => atI_nat (by rw [List.getElem?_map, orb_at _ _ (show j < (60 : Int).toNat from hj)]; rfl)
  have at1 : atI ((orb (stp t p m) (60 : Int).toNat s0).map V.int) (1 + (k : Int)) = some (.int (itr (stp t p m) (k + 1) s0)) := by rw [e1]; exact at_ (k + 1) (by omega)
  have l60 : ((orb (stp t p m) (60 : Int).toNat s0).map V.int).length = 60 := by rw [List.length_map, orb_len]; rfl
  -- the row from amid
  refine ⟨_, rfl, _, rfl, _, rfl, q2, _, 1 + (k : Int), _, rfl, rfl, SqT.of h2, at1, _, rfl, _, _, rfl, rfl, _, _, _, rfl, r, t, p, m, itr (stp t p m) (k + 1) s0, 60 - (1 + (k : Int)), rfl, rfl, rfl, SqT.of (s2 _ _ hr1), R, by omega, by omega, fun _ _ H3 q3 s3 n3 h3 => ?_, fun z => absurd (ir (k + 1)) z⟩
  refine ⟨_, rfl, _, rfl, _, rfl, q2, _, rfl, SqT.of (s3 _ _ h2), ?_, fun q4 n4 => ?_⟩
  · rintro ⟨z, _⟩
    have z : HT.sIx ((orb (stp t p m) (60 : Int).toNat s0).map V.int).length 0 (some (1 + (k : Int))) = 0 := z
    rw [l60, e1, HT.sIx_nat] at z
    omega
  have ec : cutV ((orb (stp t p m) (60 : Int).toNat s0).map V.int) (some (1 + (k : Int))) none = (orb (stp t p m) (60 - (1 + (k : Int))).toNat (itr (stp t p m) (k + 1) s0)).map V.int := by
    rw [e1, cut_drop, ← List.map_drop, orb_drop _ _ (show k + 1 ≤ (60 : Int).toNat by show k + 1 ≤ 60; omega)]
    congr 2
    show 60 - (k + 1) = _
    omega
  have s4 := same_new (o := .tup ((orb (stp t p m) (60 - (1 + (k : Int))).toNat (itr (stp t p m) (k + 1) s0)).map V.int)) n4
  rw [show cutV ((orb (stp t p m) (60 : Int).toNat s0).map V.int) (some (1 + (k : Int))) none = _ from ec]
  refine ⟨.tuple ((orb (stp t p m) (60 - (1 + (k : Int))).toNat (itr (stp t p m) (k + 1) s0)).map .int), .tuple ((orb (stp t p m) (60 - (1 + (k : Int))).toNat (itr (stp t p m) (k + 1) s0)).map .int), .tup (SqT.of (s4 _ _ h3)) (dp_ints _), .tup (SqT.of upd_same) (dp_ints _), shp_ints _, shp_ints _, _, rfl, ifF (by rw [eqv_self (shp_ints _)]; rfl) ?_⟩
  have S4 := s2.trans (s3.trans s4)
  -- the first so many
  refine ⟨_, rfl, _, rfl, _, rfl, _, _, _, rfl, r, t, p, m, s0, 1 + (k : Int), rfl, rfl, rfl, SqT.of (S4 _ _ hr1), R, by omega, by omega, fun _ _ H5 q5 s5 n5 h5 => ?_, fun z => absurd ⟨a0, a1⟩ z⟩
  have h25 := s5 _ _ (s4 _ _ (s3 _ _ h2))
  refine ⟨_, rfl, _, rfl, _, rfl, q2, _, rfl, SqT.of h25, ?_, fun q6 n6 => ?_⟩
  · rintro ⟨_, z⟩
    have z : HT.sIx ((orb (stp t p m) (60 : Int).toNat s0).map V.int).length ((orb (stp t p m) (60 : Int).toNat s0).map V.int).length (some (1 + (k : Int))) = ((orb (stp t p m) (60 : Int).toNat s0).map V.int).length := z
    rw [l60, e1, HT.sIx_nat] at z
    omega
  have ec2 : cutV ((orb (stp t p m) (60 : Int).toNat s0).map V.int) none (some (1 + (k : Int))) = (orb (stp t p m) (1 + (k : Int)).toNat s0).map V.int := by
    rw [e1, cut_take, ← List.map_take, orb_take _ _ (show k + 1 ≤ (60 : Int).toNat by show k + 1 ≤ 60; omega)]
    rfl
  have s6 := same_new (o := .tup ((orb (stp t p m) (1 + (k : Int)).toNat s0).map V.int)) n6
  rw [show cutV ((orb (stp t p m) (60 : Int).toNat s0).map V.int) none (some (1 + (k : Int))) = _ from ec2]
  refine ⟨.tuple ((orb (stp t p m) (1 + (k : Int)).toNat s0).map .int), .tuple ((orb (stp t p m) (1 + (k : Int)).toNat s0).map .int), .tup (SqT.of (s6 _ _ h5)) (dp_ints _), .tup (SqT.of upd_same) (dp_ints _), shp_ints _, shp_ints _, _, rfl, ifF (by rw [eqv_self (shp_ints _)]; rfl) ?_⟩
  have S6 := S4.trans (s5.trans s6)
  have h26 := s6 _ _ h25
  have hr6 := S6 _ _ hr1
  have ej : ahd t p m (1 + (k : Int)).toNat s0 = itr (stp t p m) (k + 1) s0 := by rw [show (1 + (k : Int)).toNat = k + 1 by omega, ← itr_ahd5 a0 a1]
  -- jumped
  refine ⟨_, rfl, _, rfl, _, rfl, _, _, _, rfl, r, t, p, m, s0, 1 + (k : Int), rfl, rfl, rfl, SqT.of hr6, R, fun z => absurd ⟨a0, a1⟩ z, fun _ _ H7 s7 => ?_, fun _ n => by omega, fun _ n => by omega⟩
  rw [ej]
  refine ⟨_, rfl, _, rfl, q2, _, 1 + (k : Int), _, rfl, rfl, SqT.of (s7 _ _ h26), at1, rfl, _, rfl, ifNI (fun ne => absurd rfl ne) (fun _ => ?_)⟩
  refine ⟨_, rfl, _, rfl, _, _, rfl, r, t, p, m, 1 + (k : Int), rfl, rfl, SqT.of (s7 _ _ hr6), R, by omega, fun H8 q8 s8 h8 => ?_⟩
  refine ⟨_, rfl, _, _, rfl, q8, _, _, m, s0, rfl, rfl, SqT.of h8, R.rs _, fun _ _ => ?_, fun z => absurd ⟨a0, a1⟩ z⟩
  rw [stp_rs, ej]
  have h28 := s8 _ _ (s7 _ _ h26)
  have hr8 := s8 _ _ (s7 _ _ hr6)
  refine ⟨_, rfl, _, rfl, q2, _, 1 + (k : Int), _, rfl, rfl, SqT.of h28, at1, rfl, _, rfl, ifNI (fun ne => absurd rfl ne) (fun _ => ?_)⟩
  -- the end
  have at0 : atI ((orb (stp t p m) (60 : Int).toNat s0).map V.int) (1 + (k : Int) - 1) = some (.int (itr (stp t p m) k s0)) := by rw [show 1 + (k : Int) - 1 = (k : Int) by omega]; exact at_ k (by omega)
  refine ⟨_, rfl, _, rfl, _, rfl, _, _, rfl, rfl, q2, _, 1 + (k : Int) - 1, _, rfl, rfl, SqT.of h28, at0, _, _, rfl, r, t, p, m, itr (stp t p m) k s0, rfl, rfl, SqT.of hr8, R, fun _ _ => ?_, fun z => absurd (ir k) z⟩
  refine ⟨_, rfl, _, rfl, q2, _, 1 + (k : Int), _, rfl, rfl, SqT.of h28, at1, rfl, _, rfl, ifT (decide_eq_true rfl) ?_⟩
  refine ⟨_, rfl, _, rfl, _, _, _, rfl, r, t, p, m, s0, 0, rfl, rfl, rfl, SqT.of hr8, R, fun z => absurd ⟨a0, a1⟩ z, fun _ _ H9 s9 => ?_, fun _ n => by omega, fun _ n => by omega⟩
  have e0 : ahd t p m (0 : Int).toNat s0 = s0 := (itr_ahd5 (t := t) (p := p) a0 a1 0).symm
  rw [e0]
  refine ⟨_, rfl, rfl, ?_⟩
  rw [decide_eq_true rfl]
  have S9 := S6.trans (s7.trans (s8.trans s9))
  exact q _ (B1.trans S9.but) (D1.same S9)
theorem ok_steps_right {CN CB : Addr} (D : Top K mg "_law_steps_right" s_steps_right ["deck", "rule", "start"]) (h_next : Has P w K mg base CX0 2 "_law_next" ["deck", "many"] (sp2 (pNext 1)))
    (h_jumped : Has P w K mg base (L2.CX P w) 5 "jumped" ["rule", "start", "steps"] (sp3 (pJump K CN CB))) (h_rule_of_steps : Has P w K mg base CX0 2 "rule_of_steps" ["rule", "steps"] (sp2 (pRos K))) (h_back : Has P w K mg base CX0 6 "_law_back" ["rule", "start", "steps"] (sp3 (pBackL K))) :
    Has P w K mg base CX0 7 "_law_steps_right" ["deck", "rule", "start"] (sp3 (pRowR 4)) := by
  refine D.ok3 sc_steps_right (fun f cdv A outer s H v1 v2 v3 Q E hr h => ?_)
  obtain ⟨d, dn, r, t, p, m, s0, rfl, rfl, rfl, D0, dl, hr0, R, a0, a1, q⟩ := h
  refine ⟨_, (pss_cons (ps_set (i := 3) sc_steps_right.nd rfl (.inl rfl) (pe_own h_next (hr.mono (by decide)) pass0 (pa_cons (pv 0) (pa_cons (pe_op op_pow pe_int pe_int) pa_nil))))
 (pss_cons (ps_set (i := 4) sc_steps_right.nd rfl (.inl rfl) (pe_ix ix_list (pe_lst (pa_cons (pe_own h_next (hr.mono (by decide)) pass0 (pa_cons (pv 0) (pa_cons (pe_op op_pow pe_int pe_int) pa_nil))) (pa_cons (pe_own h_next (hr.mono (by decide)) pass0 (pa_cons (pv 0) (pa_cons pe_int pa_nil))) pa_nil))) (pe_own h_next (hr.mono (by decide)) pass0 (pa_cons (pv 0) (pa_cons pe_int pa_nil))) (fun _ _ => rfl)))
 (pss_cons (ps_if (pt_cmpR op_ne (pe_own h_jumped (hr.mono (by decide)) passL (pa_cons (pv 1) (pa_cons (pe_own h_jumped (hr.mono (by decide)) passL (pa_cons (pv 1) (pa_cons (pv 2) (pa_cons (pv 3) pa_nil)))) (pa_cons (pv 4) pa_nil)))) (pe_own h_jumped (hr.mono (by decide)) passL (pa_cons (pv 1) (pa_cons (pv 2) (pa_cons (pe_op op_add (pv 3) (pv 4)) pa_nil)))) (nomark _)) (pss_one (ps_ret pe_bl)) pss_nil)
 (pss_cons (ps_if (pt_cmpR (op_neD hr.units) (pe_own h_rule_of_steps (hr.mono (by decide)) pass0 (pa_cons (pe_own h_rule_of_steps (hr.mono (by decide)) pass0 (pa_cons (pv 1) (pa_cons (pv 3) pa_nil))) (pa_cons (pv 4) pa_nil))) (pe_own h_rule_of_steps (hr.mono (by decide)) pass0 (pa_cons (pv 1) (pa_cons (pe_op op_mulB (pv 3) (pv 4)) pa_nil))) (nomark _)) (pss_one (ps_ret pe_bl)) pss_nil)
 (pss_cons (ps_set (i := 5) sc_steps_right.nd rfl (.inl rfl) (pe_own h_back (hr.mono (by decide)) pass0 (pa_cons (pv 1) (pa_cons (pv 2) (pa_cons (pv 3) pa_nil)))))
 (pss_cons (ps_if (pt_cmpR op_isN (pv 5) pe_non (nomark _)) (pss_one (ps_ret pe_bl)) pss_nil)
 (pss_cons (ps_set (i := 6) sc_steps_right.nd rfl (.inl rfl) (pe_own h_jumped (hr.mono (by decide)) passL (pa_cons (pv 1) (pa_cons (pv 2) (pa_cons (pv 4) pa_nil)))))
 (pss_one (ps_ret (pe_and (pe_cmpR op_eq (pe_own h_jumped (hr.mono (by decide)) passL (pa_cons (pv 1) (pa_cons (pv 5) (pa_cons (pv 3) pa_nil)))) (pv 2) (nomark _)) (pe_one (pe_cmpR op_eq (pe_own h_jumped (hr.mono (by decide)) passL (pa_cons (pv 1) (pa_cons (pv 5) (pa_cons (pe_op op_add (pv 3) (pv 4)) pa_nil)))) (pv 6) (nomark _))))))))))))), ?_⟩
  have m0 : 0 < m := by have := R.b1; omega
  have z9 : (10 : Int) ^ (9 : Int).toNat = 1000000000 := by decide
  refine ⟨_, rfl, _, _, rfl, rfl, ⟨by decide, by decide, by decide⟩, _, _, rfl, d, dn, _, rfl, rfl, by decide, by decide, D0, by omega, fun H1 one B1 D1 o0 o1 => ?_⟩
  rw [z9] at o1
  refine ⟨_, rfl, _, _, rfl, rfl, ⟨by decide, by decide, by decide⟩, _, _, rfl, d, dn + 1, _, rfl, rfl, by decide, by decide, D1, by omega, fun H2 x B2 D2 x0 x1 => ?_⟩
  rw [z9] at x1
  refine ⟨_, rfl, _, _, rfl, d, dn + 2, 4, rfl, rfl, by decide, by decide, D2, by omega, fun H3 y B3 D3 y0 y1 => ?_⟩
  refine ⟨by show 2 ≤ sizeLine; decide, fun l nl => ?_⟩
  have s3 := same_new (o := .lst [.int x, .int y]) nl
  refine ⟨_, rfl, _, _, rfl, d, dn + 3, 2, rfl, rfl, by decide, by decide, D3.same s3, by omega, fun H4 v B4 D4 u0 u1 => ?_⟩
  obtain ⟨ot, hot, eot⟩ := at_ints (ns := [x, y]) u0 (by show v < 2; exact u1)
  have hl : H4 l = some (.lst [.int x, .int y]) := B4 _ _ (D3.ne nl) upd_same
  refine ⟨l, _, v, _, rfl, rfl, SqL.of hl, eot, ?_⟩
  have otr : 0 ≤ ot ∧ ot < 1000000000 := by
    simp only [List.mem_cons, List.not_mem_nil, or_false] at hot
    rcases hot with rfl | rfl <;> omega
  have ot0 := otr.1
  have B04 : But d H H4 := ((B1.trans B2).trans (B3.trans s3.but)).trans B4
  have hr4 : H4 r = some (.tup [.int t, .int p, .int m]) := B04 _ _ (D0.ne_tup hr0) hr0
  have nr : 0 ≤ s0 ∧ s0 < m := ⟨a0, a1⟩
  -- steps and more steps
  refine ⟨_, rfl, _, rfl, _, rfl, _, rfl, _, _, _, rfl, r, t, p, m, s0, one, rfl, rfl, rfl, SqT.of hr4, R, fun z => absurd nr z, fun _ _ H5 s5 => ?_, fun _ n => by omega, fun _ n => by omega⟩
  have hr5 := s5 _ _ hr4
  refine ⟨_, rfl, _, _, _, rfl, r, t, p, m, _, ot, rfl, rfl, rfl, SqT.of hr5, R, fun z => absurd (ahd_rng m0 one.toNat s0) z, fun _ _ H6 s6 => ?_, fun _ n => by omega, fun _ n => by omega⟩
  have hr6 := s6 _ _ hr5
  refine ⟨_, rfl, _, rfl, _, rfl, _, rfl, _, _, rfl, rfl, _, _, _, rfl, r, t, p, m, s0, one + ot, rfl, rfl, rfl, SqT.of hr6, R, fun z => absurd nr z, fun _ _ H7 s7 => ?_, fun _ n => by omega, fun _ n => by omega⟩
  have e1 : (one + ot).toNat = one.toNat + ot.toNat := by omega
  rw [e1, ahd_add5]
  refine ⟨rfl, _, rfl, ifNI (fun ne => absurd rfl ne) (fun _ => ?_)⟩
  have hr7 := s7 _ _ hr6
  -- so many times so many
  refine ⟨_, rfl, _, rfl, _, _, rfl, r, t, p, m, one, rfl, rfl, SqT.of hr7, R, o0, fun H8 q8 s8 h8 => ?_⟩
  refine ⟨_, rfl, _, _, rfl, q8, _, _, m, ot, rfl, rfl, SqT.of h8, R.rs _, ot0, fun H9 q9 s9 h9 => ?_⟩
  rw [rs_rsT, rs_rsP] at h9
  have hr9 := s9 _ _ (s8 _ _ hr7)
  refine ⟨_, rfl, _, rfl, _, rfl, _, _, rfl, rfl, ⟨by unfold Big; omega, by unfold Big; omega⟩, _, _, rfl, r, t, p, m, one * ot, rfl, rfl, SqT.of hr9, R, Int.mul_nonneg o0 ot0, fun H10 q10 s10 h10 => ?_⟩
  rw [Int.toNat_mul o0 ot0] at h10
  have DPx : ∀ (H : Hp) (u : Addr), H u = some (.tup [.int (rsT t m (one.toNat * ot.toNat)), .int (rsP t p m (one.toNat * ot.toNat)), .int m]) → Dp K H (.ref u) (.tuple [.int (rsT t m (one.toNat * ot.toNat)), .int (rsP t p m (one.toNat * ot.toNat)), .int m]) := fun H u e => .tup (SqT.of e) (.cons (.int _) (.cons (.int _) (.cons (.int _) .nil)))
  refine ⟨_, _, DPx _ _ (s10 _ _ h9), DPx _ _ h10, rfl, rfl, _, rfl, ifF (by rw [eqv_self rfl]; rfl) ?_⟩
  have hr10 := s10 _ _ hr9
  have S10 := s5.trans (s6.trans (s7.trans (s8.trans (s9.trans s10))))
  -- back
  refine ⟨_, rfl, _, rfl, _, rfl, _, _, _, rfl, r, t, p, m, s0, one, rfl, rfl, rfl, SqT.of hr10, R, a0, a1, o0, fun _ H11 yb s11 hb => ?_, fun _ _ H11 s11 => ?_⟩
  · refine ⟨_, rfl, rfl, _, rfl, ifD (fun e => nomatch e) (fun _ => ?_)⟩
    have hr11 := s11 _ _ hr10
    obtain ⟨b0, b1, be⟩ := hb
    refine ⟨_, rfl, _, rfl, _, rfl, _, _, _, rfl, r, t, p, m, s0, ot, rfl, rfl, rfl, SqT.of hr11, R, fun z => absurd nr z, fun _ _ H12 s12 => ?_, fun _ n => by omega, fun _ n => by omega⟩
    have hr12 := s12 _ _ hr11
    refine ⟨_, rfl, _, rfl, _, rfl, _, _, _, rfl, r, t, p, m, yb, one, rfl, rfl, rfl, SqT.of hr12, R, fun z => absurd ⟨b0, b1⟩ z, fun _ _ H13 s13 => ?_, fun _ n => by omega, fun _ n => by omega⟩
    rw [be]
    refine ⟨_, rfl, rfl, _, rfl, ifT (decide_eq_true rfl) ?_⟩
    have hr13 := s13 _ _ hr12
    refine ⟨_, rfl, _, rfl, _, rfl, _, rfl, _, _, rfl, rfl, _, _, _, rfl, r, t, p, m, yb, one + ot, rfl, rfl, rfl, SqT.of hr13, R, fun z => absurd ⟨b0, b1⟩ z, fun _ _ H14 s14 => ?_, fun _ n => by omega, fun _ n => by omega⟩
    rw [e1, ahd_add5, be]
    refine ⟨_, rfl, rfl, ?_⟩
    rw [decide_eq_true rfl]
    have S14 := S10.trans (s11.trans (s12.trans (s13.trans s14)))
    exact q _ (B04.trans S14.but) (D4.same S14)
  · refine ⟨_, rfl, rfl, _, rfl, ifD (fun _ => ?_) (fun e => absurd rfl e)⟩
    have S11 := S10.trans s11
    exact q _ (B04.trans S11.but) (D4.same S11)
theorem ok_before_right {CN : Addr} (D : Top K mg "_law_before_right" s_before_right ["rule", "start"]) (h_before : Has P w K mg base (L2.CX P w) 4 "before" ["rule", "number"] (sp2 (pBefore K CN))) (h_next_of : Has P w K mg base (L2.CX P w) 4 "next_of" ["rule", "number"] (sp2 (pNextOf K CN)))
    (h_back : Has P w K mg base CX0 6 "_law_back" ["rule", "start", "steps"] (sp3 (pBackL K))) : Has P w K mg base CX0 7 "_law_before_right" ["rule", "start"] (sp2 (pBefR K)) := by
  refine D.ok2 sc_before_right (fun f cdv A outer s H v1 v2 Q E hr h => ?_)
  obtain ⟨r, t, p, m, s0, rfl, rfl, h1, R, a0, a1, q⟩ := h
  refine ⟨_, (pss_cons (ps_asg (pe_own h_before (hr.mono (by decide)) passL (pa_cons (pv 0) (pa_cons (pv 1) pa_nil))) (pg_tup rfl (pgs_cons (pg_name (i := 2) sc_before_right.nd rfl (.inl rfl)) (pgs_cons (pg_name (i := 3) sc_before_right.nd rfl (.inl rfl)) pgs_nil))))
 (pss_cons (ps_set (i := 4) sc_before_right.nd rfl (.inl rfl) (pe_own h_back (hr.mono (by decide)) pass0 (pa_cons (pv 0) (pa_cons (pv 1) (pa_cons pe_int pa_nil)))))
 (pss_cons (ps_if (pt_cmpR op_notN (pv 4) pe_non (nomark _)) (pss_one (ps_ret (pe_and (pe_cmpR (op_eqD hr.units) (pe_tup (pa_cons (pv 2) (pa_cons (pv 3) pa_nil))) (pe_tup (pa_cons pe_int (pa_cons (pv 4) pa_nil))) (nomark _)) (pe_one (pe_cmpR op_eq (pe_own h_next_of (hr.mono (by decide)) passL (pa_cons (pv 0) (pa_cons (pv 4) pa_nil))) (pv 1) (nomark _)))))) pss_nil)
 (pss_cons (ps_if (pt_cmpR op_eq (pv 2) pe_int (nomark _)) (pss_one (ps_ret (pe_cmpR op_isN (pv 3) pe_non (nomark _)))) pss_nil)
 (pss_cons (ps_set (i := 5) sc_before_right.nd rfl (.inl rfl) (pe_op op_add (pv 3) (pe_op op_fdivB (pe_ix ix_tup (pv 0) pe_int (fun _ _ => rfl)) (pv 2))))
 (pss_one (ps_ret (pe_and (pe_cmpR op_gt (pv 2) pe_int (nomark _)) (pe_and (pe_cmpR op_eq (pe_own h_next_of (hr.mono (by decide)) passL (pa_cons (pv 0) (pa_cons (pv 3) pa_nil))) (pv 1) (nomark _)) (pe_one (pe_cmpR op_eq (pe_own h_next_of (hr.mono (by decide)) passL (pa_cons (pv 0) (pa_cons (pv 5) pa_nil))) (pv 1) (nomark _)))))))))))), ?_⟩
  have m0 : 0 < m := by have := R.b1; omega
  have b2 := R.b2
  have g0 := gcd_pos (t := t) m0
  have gm : (Int.gcd t m : Int) ≤ m := Int.le_of_dvd m0 (Int.gcd_dvd_right ..)
  have nr : 0 ≤ s0 ∧ s0 < m := ⟨a0, a1⟩
  refine ⟨_, rfl, _, rfl, _, _, rfl, r, t, p, m, s0, rfl, rfl, h1, R, fun z => absurd nr z, fun _ nz H1 u1 s1 nu1 hu1 => ?_, fun _ z H1 u1 x s1 nu1 hx hu1 => ?_⟩
  · refine ⟨u1, _, rfl, SqT.of hu1, rfl, _, _, rfl, _, _, rfl, rfl, ?_⟩
    have g1 : Int.gcd t m ≠ 1 := fun g => nz (by rw [g]; exact Int.emod_one _)
    refine ⟨_, rfl, _, rfl, _, _, _, rfl, r, t, p, m, s0, 1, rfl, rfl, rfl, s1.tup h1, R, a0, a1, by decide, fun c => (c.elim (fun z => absurd z (by decide)) (fun g => absurd g g1)), fun _ _ H2 s2 => ?_⟩
    refine ⟨_, rfl, rfl, _, rfl, ifN (fun e => absurd rfl e) (fun _ => ?_)⟩
    refine ⟨_, rfl, rfl, _, rfl, ifI (fun _ => ?_) (fun ne => absurd rfl ne)⟩
    refine ⟨_, rfl, rfl, ?_⟩
    rw [decide_eq_true rfl]
    exact q _ (s1.trans s2)
  · refine ⟨u1, _, rfl, SqT.of hu1, rfl, _, _, rfl, _, _, rfl, rfl, ?_⟩
    refine ⟨_, rfl, _, rfl, _, _, _, rfl, r, t, p, m, s0, 1, rfl, rfl, rfl, s1.tup h1, R, a0, a1, by decide, fun c H2 y s2 hy => ?_, fun _ g1 H2 s2 => ?_⟩
    · have g1 : Int.gcd t m = 1 := c.resolve_left (by decide)
      have exy := bef_uniq m0 hx (bef_back hy g1)
      subst exy
      obtain ⟨b0, b1, be⟩ := hy
      refine ⟨_, rfl, rfl, _, rfl, ifN (fun _ => ?_) (fun e => nomatch e)⟩
      refine ⟨_, rfl, _, rfl, by show 2 ≤ sizeLine; decide, fun a3 n3 => ?_⟩
      have s3 := same_new (o := .tup [.int (Int.gcd t m : Nat), .int x]) n3
      refine ⟨_, rfl, by show 2 ≤ sizeLine; decide, fun a4 n4 => ?_⟩
      have s4 := same_new (o := .tup [.int 1, .int x]) n4
      refine ⟨.tuple [.int (Int.gcd t m : Nat), .int x], .tuple [.int 1, .int x], .tup (SqT.of (s4 _ _ upd_same)) (.cons (.int _) (.cons (.int _) .nil)), .tup (SqT.of upd_same) (.cons (.int _) (.cons (.int _) .nil)), rfl, rfl, _, rfl, ifT (by rw [g1]; exact eqv_self rfl) ?_⟩
      have S4 := s1.trans (s2.trans (s3.trans s4))
      refine ⟨_, rfl, _, rfl, _, _, rfl, r, t, p, m, x, rfl, rfl, S4.tup h1, R, fun _ _ => ?_, fun z => absurd ⟨b0, b1⟩ z⟩
      have e : stp t p m x = s0 := hx.2.2
      rw [e]
      refine ⟨_, rfl, rfl, ?_⟩
      rw [decide_eq_true rfl]
      exact q _ S4
    · refine ⟨_, rfl, rfl, _, rfl, ifN (fun e => absurd rfl e) (fun _ => ?_)⟩
      refine ⟨_, rfl, rfl, _, rfl, ifI (fun e => by omega) (fun _ => ?_)⟩
      have S2 := s1.trans s2
      have gg : (1 : Int) < (Int.gcd t m : Nat) := by omega
      obtain ⟨c0, c1, ce, x1⟩ := bef_other m0 hx gg
      obtain ⟨x0, _, xe⟩ := hx
      refine ⟨_, rfl, _, rfl, r, _, 2, .int m, rfl, rfl, S2.tup h1, rfl, _, rfl, _, _, rfl, rfl, ⟨g0, by omega⟩, _, _, rfl, rfl, ?_⟩
      refine ⟨_, rfl, _, _, rfl, rfl, _, rfl, ifT (decide_eq_true gg) ?_⟩
      refine ⟨_, rfl, _, rfl, _, _, rfl, r, t, p, m, x, rfl, rfl, S2.tup h1, R, fun _ _ => ?_, fun z => absurd ⟨x0, x1⟩ z⟩
      have e : stp t p m x = s0 := xe
      rw [e]
      refine ⟨_, rfl, rfl, _, rfl, ifT (decide_eq_true rfl) ?_⟩
      refine ⟨_, rfl, _, rfl, _, _, rfl, r, t, p, m, _, rfl, rfl, S2.tup h1, R, fun _ _ => ?_, fun z => absurd ⟨c0, c1⟩ z⟩
      have e : stp t p m (x + m / (Int.gcd t m : Nat)) = s0 := ce
      rw [e]
      refine ⟨_, rfl, rfl, ?_⟩
      rw [decide_eq_true rfl]
      exact q _ S2
theorem ok_law {CN CU fL P1 P2 : Addr} {fdL : FuncData} (F : Fun K "law" "law" s_law fL fdL) (h_deck : Has P w K mg base CX0 1 "_law_deck" ["script"] (sp1 (pDeck K))) (h_rule : Has P w K mg base CX0 5 "_law_rule" ["deck", "most"] (sp2 pRule)) (h_start : Has P w K mg base CX0 4 "_law_start" ["deck", "bound"] (sp2 (pNext 3)))
    (h_read_rule : Has P w K mg base (L2.CX P w) 4 "read_rule" ["text"] (sp1 (pRead P1 P2 CU))) (h_rule_shown : Has P w K mg base CX0 1 "rule_shown" ["rule"] (sp1 (pShown K))) (h_row_right : Has P w K mg base CX0 6 "_law_row_right" ["deck", "rule", "start"] (sp3 (pRowR 1)))
    (h_steps_right : Has P w K mg base CX0 7 "_law_steps_right" ["deck", "rule", "start"] (sp3 (pRowR 4))) (h_before_right : Has P w K mg base CX0 7 "_law_before_right" ["rule", "start"] (sp2 (pBefR K))) (h_before : Has P w K mg base (L2.CX P w) 4 "before" ["rule", "number"] (sp2 (pBefore K CN)))
    (h_next_of : Has P w K mg base (L2.CX P w) 4 "next_of" ["rule", "number"] (sp2 (pNextOf K CN))) (h_rule_of_steps : Has P w K mg base CX0 2 "rule_of_steps" ["rule", "steps"] (sp2 (pRos K))) (z_range : mg "range" = none) :
    FnOk P w K mg base CX0 8 fL fdL ["script"] (spLawT K P1 P2) := by
  refine F.ok sc_law (fun vs H Q E h => by obtain ⟨_, rfl, _⟩ := h; rfl) (fun cdv A outer s H vs Q E hr h => ?_)
  obtain ⟨v1, rfl, sa, xs, rfl, hS, T1, T2, q⟩ := h
  refine ⟨_, (pss_cons (ps_set (i := 1) sc_law.nd rfl (.inl rfl) (pe_own h_deck (hr.mono (by decide)) pass0 (pa_cons (pv 0) pa_nil)))
 (pss_cons (ps_for PassesOwn.never rfl (pi_range1 (by rfl) z_range (pa_cons pe_int pa_nil)) (pg_name (i := 2) sc_law.nd rfl (.inl rfl)) (pss_cons (ps_set (i := 3) sc_law.nd rfl (.inl rfl) (pe_own h_rule (hr.mono (by decide)) pass0 (pa_cons (pv 1) (pa_cons (pe_op op_pow pe_int pe_int) pa_nil))))
 (pss_cons (ps_set (i := 4) sc_law.nd rfl (.inl rfl) (pe_own h_start (hr.mono (by decide)) pass0 (pa_cons (pv 1) (pa_cons (pe_ix ix_tup (pv 3) pe_int (fun _ _ => rfl)) pa_nil))))
 (pss_cons (ps_if (PW.pt (pw_or (pt_cmpR (op_neD hr.units) (pe_own h_read_rule (hr.mono (by decide)) passL (pa_cons (pe_own h_rule_shown (hr.mono (by decide)) pass0 (pa_cons (pv 3) pa_nil)) pa_nil)) (pv 3) (nomark _)) (pw_or1 (pt_not (pt_val (pe_own h_row_right (hr.mono (by decide)) pass0 (pa_cons (pv 1) (pa_cons (pv 3) (pa_cons (pv 4) pa_nil))))))))) (pss_one (ps_ret pe_bl)) pss_nil)
 (pss_cons (ps_if (PW.pt (pw_or (pt_not (pt_val (pe_own h_steps_right (hr.mono (by decide)) pass0 (pa_cons (pv 1) (pa_cons (pv 3) (pa_cons (pv 4) pa_nil)))))) (pw_or1 (pt_not (pt_val (pe_own h_before_right (hr.mono (by decide)) pass0 (pa_cons (pv 3) (pa_cons (pv 4) pa_nil)))))))) (pss_one (ps_ret pe_bl)) pss_nil)
 (pss_one (ps_if (pt_cmpR op_eq (pe_ix ix_tup (pe_own h_before (hr.mono (by decide)) passL (pa_cons (pv 3) (pa_cons (pe_own h_next_of (hr.mono (by decide)) passL (pa_cons (pv 3) (pa_cons (pv 4) pa_nil))) pa_nil))) pe_int (fun _ _ => rfl)) pe_int (nomark _)) (pss_one (ps_ret pe_bl)) pss_nil)))))))
 (pss_one (ps_ret (pe_cmpR (op_eqD hr.units) (pe_own h_rule_of_steps (hr.mono (by decide)) pass0 (pa_cons (pe_tup (pa_cons pe_int (pa_cons pe_int (pa_cons pe_int pa_nil)))) (pa_cons pe_int pa_nil))) (pe_tup (pa_cons pe_int (pa_cons pe_int (pa_cons pe_int pa_nil)))) (nomark _)))))), ?_⟩
  refine ⟨_, rfl, _, rfl, sa, xs, rfl, hS, fun H1 d s1 nd D1 => ?_⟩
  refine ⟨6, rfl, by decide, by decide, for_range (lo := 0) (n := 6) (fun i σ H' => ∃ (y2 y3 y4 : Option V), σ = [some (.ref sa), some (.ref d), y2, y3, y4] ∧ Deck H' d (200 * i) ∧ GxR.TabG H' P1 ∧ GxR.TabG H' P2) ⟨none, none, none, rfl, D1, tabG_same T1 s1, tabG_same T2 s1⟩ ?_ ?_⟩
  · rintro i σ H2 hi ⟨y2, y3, y4, rfl, D2, T12, T22⟩
    refine ⟨_, rfl, _, _, rfl, rfl, ⟨by decide, by decide, by decide⟩, _, _, rfl, d, 200 * i, _, rfl, rfl, by decide, by decide, D2, by omega, fun H3 r t p m B3 D3 nr hr3 R mM => ?_⟩
    have m0 : 0 < m := by have := R.b1; omega
    have b2 := R.b2
    have T13 := tabG_but T12 D2 B3
    have T23 := tabG_but T22 D2 B3
    refine ⟨_, rfl, _, rfl, r, _, 2, .int m, rfl, rfl, SqT.of hr3, rfl, _, _, rfl, d, 200 * i + 60, m, rfl, rfl, by omega, by omega, D3, by omega, fun H4 st B4 D4 u0 u1 => ?_⟩
    have hr4 := B4 _ _ (D3.ne_tup hr3) hr3
    have T14 := tabG_but T13 D3 B4
    have T24 := tabG_but T23 D3 B4
    refine ⟨_, rfl, _, rfl, r, t, p, m, rfl, SqT.of hr4, R, ?_⟩
    refine ⟨_, rfl, shw t p m, rfl, by have := shw_len R; omega, T14, T24, fun t' p' m' er H5 q5 G5 n5 h5 => ?_, fun er => absurd er (by rw [read_shw R]; simp)⟩
    rw [read_shw R] at er
    cases er
    have hr5 := G5.get T14 T24 hr4 (fun ps z => by cases z)
    have D5 := G5.deck T14 T24 D4
    refine ⟨_, rfl, .tuple [.int t, .int p, .int m], .tuple [.int t, .int p, .int m], .tup (SqT.of h5) (.cons (.int _) (.cons (.int _) (.cons (.int _) .nil))), .tup (SqT.of hr5) (.cons (.int _) (.cons (.int _) (.cons (.int _) .nil))), rfl, rfl, _, rfl, ifF (by rw [eqv_self rfl]; rfl) ?_⟩
    refine ⟨_, rfl, _, rfl, _, rfl, _, _, _, rfl, d, 200 * i + 63, r, t, p, m, st, rfl, rfl, rfl, D5, by omega, hr5, R, u0, u1, fun H6 B6 D6 => ?_⟩
    refine ⟨_, rfl, ifF rfl ?_⟩
    have hr6 := B6 _ _ (D5.ne_tup hr5) hr5
    have T16 := tabG_but G5.t1 D5 B6
    have T26 := tabG_but G5.t2 D5 B6
    refine ⟨_, rfl, _, rfl, _, rfl, _, _, _, rfl, d, 200 * i + 64, r, t, p, m, st, rfl, rfl, rfl, D6, by omega, hr6, R, u0, u1, fun H7 B7 D7 => ?_⟩
    refine ⟨_, rfl, ifF rfl ?_⟩
    have hr7 := B7 _ _ (D6.ne_tup hr6) hr6
    have T17 := tabG_but T16 D6 B7
    have T27 := tabG_but T26 D6 B7
    refine ⟨_, rfl, _, rfl, _, _, rfl, r, t, p, m, st, rfl, rfl, SqT.of hr7, R, u0, u1, fun H8 s8 => ?_⟩
    refine ⟨_, rfl, ifF rfl ?_⟩
    have hr8 := s8 _ _ hr7
    refine ⟨_, rfl, _, rfl, _, rfl, _, _, rfl, r, t, p, m, st, rfl, rfl, SqT.of hr8, R, fun _ _ => ?_, fun z => absurd ⟨u0, u1⟩ z⟩
    refine ⟨_, _, rfl, r, t, p, m, _, rfl, rfl, SqT.of hr8, R, fun z => absurd (stp_rng m0 st) z, fun _ nz => absurd (bef_next (x := st) m0) nz, fun _ _ H9 q9 x9 s9 n9 hx9 h9 => ?_⟩
    have g0 := gcd_pos (t := t) m0
    refine ⟨q9, _, 0, .int (Int.gcd t m : Nat), rfl, rfl, SqT.of h9, rfl, rfl, _, rfl, ifI (fun e => by omega) (fun _ => ?_)⟩
    have S9 := s8.trans s9
    exact ⟨some (.int (0 + i)), some (.ref r), some (.int st), rfl, (D7.same S9).mono (by omega), tabG_same T17 S9, tabG_same T27 S9⟩
  · rintro σ H2 ⟨y2, y3, y4, rfl, D2, _, _⟩
    refine ⟨by show 3 ≤ sizeLine; decide, fun a na => ?_⟩
    refine ⟨_, _, rfl, a, 1, 0, 2, 5, rfl, rfl, SqT.of upd_same, ⟨by decide, by decide, by decide, by decide, by decide, by decide⟩, by decide, fun H3 q3 s3 h3 => ?_⟩
    refine ⟨by show 3 ≤ sizeLine; decide, fun a4 na4 => ?_⟩
    have s4 := same_new (o := .tup [.int 1, .int 0, .int 2]) na4
    have e1 : rsT 1 2 (5 : Int).toNat = 1 := by decide
    have e2 : rsP 1 0 2 (5 : Int).toNat = 0 := by decide
    rw [e1, e2] at h3
    refine ⟨.tuple [.int 1, .int 0, .int 2], .tuple [.int 1, .int 0, .int 2], .tup (SqT.of (s4 _ _ h3)) (.cons (.int _) (.cons (.int _) (.cons (.int _) .nil))), .tup (SqT.of upd_same) (.cons (.int _) (.cons (.int _) (.cons (.int _) .nil))), rfl, rfl, ?_⟩
    rw [eqv_self rfl]
    exact q _
end
end Tw


namespace Tw
open PySem PySem.Spec PyProof.Rows L2

def fnK : List He.DefD := [dOf "_law_mix" s_mix,
  dOf "_law_deck" s_deck,
  dOf "_law_next" s_next,
  dOf "_law_great" s_great,
  dOf "_law_bound" s_bound,
  dOf "_law_rule" s_rule,
  dOf "_law_start" s_start,
  dOf "is_whole" s_is_whole,
  dOf "is_number" s_is_number,
  dOf "check_number" s_check_number,
  dOf "next_of" s_next_of,
  dOf "row_from" s_row_from,
  dOf "common_divisor" s_common_divisor,
  dOf "inverse" s_inverse,
  dOf "chained" s_chained,
  dOf "rule_of_steps" s_rule_of_steps,
  dOf "rule_back" s_rule_back,
  dOf "jumped" s_jumped,
  dOf "before" s_before,
  dOf "is_figures" s_is_figures,
  dOf "read_rule" s_read_rule,
  dOf "rule_shown" s_rule_shown,
  dOf "_law_back" s_back,
  dOf "_law_row_right" s_row_right,
  dOf "_law_steps_right" s_steps_right,
  dOf "_law_before_right" s_before_right,
  dOf "law" s_law,
  mOf "NoNumber" "__init__" "NoNumber.__init__" s_init]
def faK0 : List He.Fa := [.glo "_law_mix", .glo "_law_deck", .glo "_law_next", .glo "_law_great", .glo "_law_bound", .glo "_law_rule", .glo "_law_start", .glo "is_whole", .glo "is_number", .glo "check_number", .glo "next_of", .glo "row_from", .glo "common_divisor", .glo "inverse", .glo "chained", .glo "rule_of_steps", .glo "rule_back", .glo "jumped", .glo "before", .glo "is_figures", .glo "read_rule", .glo "rule_shown", .glo "_law_back", .glo "_law_row_right", .glo "_law_steps_right", .glo "_law_before_right", .glo "law", .free "sum", .free "len", .free "range"]
def faK1 : List He.Fa := [.free "isinstance", .free "int", .free "bool", .free "tuple", .free "str", .free "all", .glo "RowError", .glo "NoRule", .glo "NoBack", .glo "NoNumber", .meth "NoNumber" "__init__", .noat "NoNumber" "number", .exc "NoBack", .exc "NoRule", .str "FIGURES" "0123456789"]
def faK : List He.Fa := faK0 ++ faK1
def tfK : List He.Defn := [("is_figures", none), ("read_rule", none)]
def exK (K : Fr) : Bool := numB K && (exmB K "NoBack" "NoBack" && (decide ((He.cT K ("read_rule", none)).2 ≠ (He.cT K ("is_figures", none)).2)))
abbrev hk : PySem.W.Hook := hookK 5 faK fnK tfK exK
def ob (s : PySem.W.SharedT) : AlK := obsK 5 faK fnK tfK exK (HandSHeadRun.getT s)
theorem ob_eq (s : PySem.W.SharedT) : ob s = hk.obs s.abs := obsK_eq (HandSHeadRun.getT_eq s)
abbrev Rw : PySem.W.OpenRow := PySem.W.OpenLaw.row PySem.Challenge.rw_timesrow_k05_whole_steps
def names0 : List Str := ["RowError", "NoRule", "NoBack", "NoNumber", "is_whole", "is_number", "check_number", "common_divisor", "inverse", "FIGURES", "is_figures", "read_rule", "rule_shown", "next_of", "row_from", "jumped", "rule_back", "rule_of_steps", "chained", "before", "_law_mix", "_law_deck", "_law_next", "_law_great", "_law_bound", "_law_rule", "_law_start", "_law_back", "_law_row_right", "_law_steps_right"]
def names1 : List Str := ["_law_before_right"]
def namesK : List Str := names0 ++ names1
set_option maxHeartbeats 0 in
theorem run (w : World) : HandSHeadRun.RunEq Rw (PySem.W.view Rw.prog [35]) hk ob 4000 namesK w := by
  intro os
  kernel_rfl
theorem factsK {w : World} {K : Fr} {h : Heap} {mg : Str → Option Value} {f : Addr} (X : K.In h) (G : h.Ns mainGlobals mg) (hfa : mg ("law" : Str) = some (.ref f)) (c : SaysK faK fnK tfK exK h K) : LamX.LawAtS PySem.Challenge.rw_timesrow_k05_whole_steps w K CX0 8 63 "script" mg f h := by
  have T_mix : Top K mg "_law_mix" s_mix ["cell", "k"] := top_of X G (c.d.def_ 0 (d := dOf "_law_mix" s_mix) rfl) (c.d.fact 0 (f := .glo "_law_mix") rfl) fun _ _ _ _ _ _ us hl => match us, hl with | [_, _], _ => rfl
  have T_deck : Top K mg "_law_deck" s_deck ["script"] := top_of X G (c.d.def_ 1 (d := dOf "_law_deck" s_deck) rfl) (c.d.fact 1 (f := .glo "_law_deck") rfl) fun _ _ _ _ _ _ us hl => match us, hl with | [_], _ => rfl
  have T_next : Top K mg "_law_next" s_next ["deck", "many"] := top_of X G (c.d.def_ 2 (d := dOf "_law_next" s_next) rfl) (c.d.fact 2 (f := .glo "_law_next") rfl) fun _ _ _ _ _ _ us hl => match us, hl with | [_, _], _ => rfl
  have T_great : Top K mg "_law_great" s_great ["deck", "most"] := top_of X G (c.d.def_ 3 (d := dOf "_law_great" s_great) rfl) (c.d.fact 3 (f := .glo "_law_great") rfl) fun _ _ _ _ _ _ us hl => match us, hl with | [_, _], _ => rfl
  have T_bound : Top K mg "_law_bound" s_bound ["deck", "most"] := top_of X G (c.d.def_ 4 (d := dOf "_law_bound" s_bound) rfl) (c.d.fact 4 (f := .glo "_law_bound") rfl) fun _ _ _ _ _ _ us hl => match us, hl with | [_, _], _ => rfl
  have T_rule : Top K mg "_law_rule" s_rule ["deck", "most"] := top_of X G (c.d.def_ 5 (d := dOf "_law_rule" s_rule) rfl) (c.d.fact 5 (f := .glo "_law_rule") rfl) fun _ _ _ _ _ _ us hl => match us, hl with | [_, _], _ => rfl
  have T_start : Top K mg "_law_start" s_start ["deck", "bound"] := top_of X G (c.d.def_ 6 (d := dOf "_law_start" s_start) rfl) (c.d.fact 6 (f := .glo "_law_start") rfl) fun _ _ _ _ _ _ us hl => match us, hl with | [_, _], _ => rfl
  have T_is_whole : Top K mg "is_whole" s_is_whole ["thing"] := top_of X G (c.d.def_ 7 (d := dOf "is_whole" s_is_whole) rfl) (c.d.fact 7 (f := .glo "is_whole") rfl) fun _ _ _ _ _ _ us hl => match us, hl with | [_], _ => rfl
  have T_is_number : Top K mg "is_number" s_is_number ["thing", "bound"] := top_of X G (c.d.def_ 8 (d := dOf "is_number" s_is_number) rfl) (c.d.fact 8 (f := .glo "is_number") rfl) fun _ _ _ _ _ _ us hl => match us, hl with | [_, _], _ => rfl
  have T_check_number : Top K mg "check_number" s_check_number ["number", "bound"] := top_of X G (c.d.def_ 9 (d := dOf "check_number" s_check_number) rfl) (c.d.fact 9 (f := .glo "check_number") rfl) fun _ _ _ _ _ _ us hl => match us, hl with | [_, _], _ => rfl
  have T_next_of : Top K mg "next_of" s_next_of ["rule", "number"] := top_of X G (c.d.def_ 10 (d := dOf "next_of" s_next_of) rfl) (c.d.fact 10 (f := .glo "next_of") rfl) fun _ _ _ _ _ _ us hl => match us, hl with | [_, _], _ => rfl
  have T_row_from : Top K mg "row_from" s_row_from ["rule", "start", "many"] := top_of X G (c.d.def_ 11 (d := dOf "row_from" s_row_from) rfl) (c.d.fact 11 (f := .glo "row_from") rfl) fun _ _ _ _ _ _ us hl => match us, hl with | [_, _, _], _ => rfl
  have T_common_divisor : Top K mg "common_divisor" s_common_divisor ["one", "other"] := top_of X G (c.d.def_ 12 (d := dOf "common_divisor" s_common_divisor) rfl) (c.d.fact 12 (f := .glo "common_divisor") rfl) fun _ _ _ _ _ _ us hl => match us, hl with | [_, _], _ => rfl
  have T_inverse : Top K mg "inverse" s_inverse ["number", "bound"] := top_of X G (c.d.def_ 13 (d := dOf "inverse" s_inverse) rfl) (c.d.fact 13 (f := .glo "inverse") rfl) fun _ _ _ _ _ _ us hl => match us, hl with | [_, _], _ => rfl
  have T_chained : Top K mg "chained" s_chained ["first", "second"] := top_of X G (c.d.def_ 14 (d := dOf "chained" s_chained) rfl) (c.d.fact 14 (f := .glo "chained") rfl) fun _ _ _ _ _ _ us hl => match us, hl with | [_, _], _ => rfl
  have T_rule_of_steps : Top K mg "rule_of_steps" s_rule_of_steps ["rule", "steps"] := top_of X G (c.d.def_ 15 (d := dOf "rule_of_steps" s_rule_of_steps) rfl) (c.d.fact 15 (f := .glo "rule_of_steps") rfl) fun _ _ _ _ _ _ us hl => match us, hl with | [_, _], _ => rfl
  have T_rule_back : Top K mg "rule_back" s_rule_back ["rule"] := top_of X G (c.d.def_ 16 (d := dOf "rule_back" s_rule_back) rfl) (c.d.fact 16 (f := .glo "rule_back") rfl) fun _ _ _ _ _ _ us hl => match us, hl with | [_], _ => rfl
  have T_jumped : Top K mg "jumped" s_jumped ["rule", "start", "steps"] := top_of X G (c.d.def_ 17 (d := dOf "jumped" s_jumped) rfl) (c.d.fact 17 (f := .glo "jumped") rfl) fun _ _ _ _ _ _ us hl => match us, hl with | [_, _, _], _ => rfl
  have T_before : Top K mg "before" s_before ["rule", "number"] := top_of X G (c.d.def_ 18 (d := dOf "before" s_before) rfl) (c.d.fact 18 (f := .glo "before") rfl) fun _ _ _ _ _ _ us hl => match us, hl with | [_, _], _ => rfl
  have T_is_figures : TopC K mg "is_figures" s_is_figures ["word"] (He.cT K ("is_figures", none)).1 := topC_of X G (c.d.def_ 19 (d := dOf "is_figures" s_is_figures) rfl) (c.d.fact 19 (f := .glo "is_figures") rfl) fun _ _ _ _ _ _ us hl => match us, hl with | [_], _ => rfl
  have T_read_rule : TopC K mg "read_rule" s_read_rule ["text"] (He.cT K ("read_rule", none)).1 := topC_of X G (c.d.def_ 20 (d := dOf "read_rule" s_read_rule) rfl) (c.d.fact 20 (f := .glo "read_rule") rfl) fun _ _ _ _ _ _ us hl => match us, hl with | [_], _ => rfl
  have T_rule_shown : Top K mg "rule_shown" s_rule_shown ["rule"] := top_of X G (c.d.def_ 21 (d := dOf "rule_shown" s_rule_shown) rfl) (c.d.fact 21 (f := .glo "rule_shown") rfl) fun _ _ _ _ _ _ us hl => match us, hl with | [_], _ => rfl
  have T_back : Top K mg "_law_back" s_back ["rule", "start", "steps"] := top_of X G (c.d.def_ 22 (d := dOf "_law_back" s_back) rfl) (c.d.fact 22 (f := .glo "_law_back") rfl) fun _ _ _ _ _ _ us hl => match us, hl with | [_, _, _], _ => rfl
  have T_row_right : Top K mg "_law_row_right" s_row_right ["deck", "rule", "start"] := top_of X G (c.d.def_ 23 (d := dOf "_law_row_right" s_row_right) rfl) (c.d.fact 23 (f := .glo "_law_row_right") rfl) fun _ _ _ _ _ _ us hl => match us, hl with | [_, _, _], _ => rfl
  have T_steps_right : Top K mg "_law_steps_right" s_steps_right ["deck", "rule", "start"] := top_of X G (c.d.def_ 24 (d := dOf "_law_steps_right" s_steps_right) rfl) (c.d.fact 24 (f := .glo "_law_steps_right") rfl) fun _ _ _ _ _ _ us hl => match us, hl with | [_, _, _], _ => rfl
  have T_before_right : Top K mg "_law_before_right" s_before_right ["rule", "start"] := top_of X G (c.d.def_ 25 (d := dOf "_law_before_right" s_before_right) rfl) (c.d.fact 25 (f := .glo "_law_before_right") rfl) fun _ _ _ _ _ _ us hl => match us, hl with | [_, _], _ => rfl
  have z_sum := He.free_ok X G (c.d.fact 27 (f := .free "sum") rfl)
  have z_len := He.free_ok X G (c.d.fact 28 (f := .free "len") rfl)
  have z_range := He.free_ok X G (c.d.fact 29 (f := .free "range") rfl)
  have z_isinstance := He.free_ok X G (c.d.fact 30 (f := .free "isinstance") rfl)
  have z_int := He.free_ok X G (c.d.fact 31 (f := .free "int") rfl)
  have z_bool := He.free_ok X G (c.d.fact 32 (f := .free "bool") rfl)
  have z_tuple := He.free_ok X G (c.d.fact 33 (f := .free "tuple") rfl)
  have z_str := He.free_ok X G (c.d.fact 34 (f := .free "str") rfl)
  have z_all := He.free_ok X G (c.d.fact 35 (f := .free "all") rfl)
  have G_CR := He.glo_ok X G (c.d.fact 36 (f := .glo "RowError") rfl)
  have G_CU := He.glo_ok X G (c.d.fact 37 (f := .glo "NoRule") rfl)
  have G_CB := He.glo_ok X G (c.d.fact 38 (f := .glo "NoBack") rfl)
  have G_CN := He.glo_ok X G (c.d.fact 39 (f := .glo "NoNumber") rfl)
  obtain ⟨iI, tI0, _⟩ := He.meth_ok (c.d.fact 40 (f := .meth "NoNumber" "__init__") rfl)
  have tI := beq_iff_eq.mp tI0
  have nf : PySem.W.findIn K (.ref (He.ga K "NoNumber")) "number" = some none := He.noat_ok (c.d.fact 41 (f := .noat "NoNumber" "number") rfl)
  obtain ⟨fdI, FI0⟩ := c.d.def_ 27 (d := mOf "NoNumber" "__init__" "NoNumber.__init__" s_init) rfl
  have FI := fun_of (x := "__init__") (q := "NoNumber.__init__") (st := s_init) FI0
  have bI := FI.binds (ps := ["self", "number"]) fun _ _ _ _ _ _ us hl => match us, hl with | [_, _], _ => rfl
  obtain ⟨wCBx, wCBk, wCBs, wCBy⟩ := He.exc_ok (c.d.fact 42 (f := .exc "NoBack") rfl)
  obtain ⟨wCUx, wCUk, wCUs, wCUy⟩ := He.exc_ok (c.d.fact 43 (f := .exc "NoRule") rfl)
  obtain ⟨tok_FIGURES, g_FIGURES⟩ := He.str_ok X G (c.d.fact 44 (f := .str "FIGURES" "0123456789") rfl)
  have ex0 := c.more
  obtain ⟨e0, ex0⟩ := He.ba ex0
  obtain ⟨e1, ex0⟩ := He.ba ex0
  have e2 := ex0
  obtain ⟨ox0, rd0⟩ := He.ba e0
  have ox := oexB_ok ox0
  obtain ⟨RI, ri⟩ := rdB_ok rd0
  obtain ⟨fdL, FL0⟩ := c.d.def_ 26 (d := dOf "law" s_law) rfl
  have FL := fun_of (x := "law") (q := "law") (st := s_law) FL0
  have eL := hfa.symm.trans (He.glo_ok X G (c.d.fact 26 (f := .glo "law") rfl))
  cases eL
  have bL := FunD.bindsA (ps := ["script"]) (K := K) (x := "law") (qual := "law") (params := defArgs s_law) (body := defBody s_law) (scope := defScope s_law) (kws := []) FL0 fun _ _ _ _ _ _ us hl => match us, hl with | [_], _ => rfl
  refine ⟨fdL, tfK.map (He.cT K), spLawT K (He.cT K ("read_rule", none)).2 (He.cT K ("is_figures", none)).2, fun p hp => ?_, fun p hp => ?_, fun p hp => ?_, fun s v => bL s [v] rfl, ?_, fun base KB GB TB => ?fn⟩
  · obtain ⟨d, hd, rfl⟩ := List.mem_map.mp hp; exact c.empty d hd
  · obtain ⟨d, hd, rfl⟩ := List.mem_map.mp hp; exact c.out d hd
  · obtain ⟨d, hd, rfl⟩ := List.mem_map.mp hp; exact PySem.W.codeHd_of_K X (c.hd d hd)
  rotate_left
  have TB_is_figures := tabB_of (TB (He.cT K ("is_figures", none)) (List.mem_map.mpr ⟨_, by unfold tfK; simp, rfl⟩))
  have TB_read_rule := tabB_of (TB (He.cT K ("read_rule", none)) (List.mem_map.mpr ⟨_, by unfold tfK; simp, rfl⟩))

  · have o_mix := ok_mix (P := (PySem.Challenge.rw_timesrow_k05_whole_steps).prog) (w := w) (base := base) T_mix
    have o_next := ok_next T_next o_mix z_len
    have o_great := ok_great T_great o_next
    have o_bound := ok_bound T_bound o_next o_great z_len z_range
    have o_rule := ok_rule T_rule o_next o_great o_bound
    have o_whole := ok_is_whole (P := (PySem.Challenge.rw_timesrow_k05_whole_steps).prog) (w := w) (base := base) T_is_whole z_isinstance z_int z_bool
    have o_check := ok_check_number T_check_number (ok_is_number T_is_number o_whole) ox iI tI (ok_init FI G_CR RI ri) bI G_CN nf
    have o_nextof := ok_next_of T_next_of o_check
    have o_gcd := ok_common_divisor (P := (PySem.Challenge.rw_timesrow_k05_whole_steps).prog) (w := w) (base := base) T_common_divisor
    have o_ros := ok_rule_of_steps T_rule_of_steps (ok_chained (P := (PySem.Challenge.rw_timesrow_k05_whole_steps).prog) (w := w) (base := base) T_chained)
    have o_rb := ok_rule_back T_rule_back o_gcd (ok_inverse T_inverse) wCBx G_CB wCBk wCBs wCBy
    have o_jump := ok_jumped T_jumped o_check o_nextof o_ros o_rb
    have o_rf := ok_row_from T_row_from o_check o_nextof z_range z_tuple
    have o_bef := ok_before T_before o_check o_gcd (ok_inverse T_inverse)
    have o_fig := ok_is_figures (P := (PySem.Challenge.rw_timesrow_k05_whole_steps).prog) (w := w) T_is_figures TB_is_figures g_FIGURES z_all
    have o_read := ok_read_rule T_read_rule TB_read_rule (of_decide_eq_true e2) o_fig z_all z_isinstance z_str z_len z_int wCUx G_CU wCUk wCUs wCUy
    have o_back := ok_back T_back o_jump G_CB (of_decide_eq_true e1)
    exact ok_law FL (ok_deck T_deck z_sum) o_rule (ok_start T_start o_next o_great) o_read (ok_rule_shown T_rule_shown) (ok_row_right T_row_right o_next o_rf o_jump o_nextof o_ros) (ok_steps_right T_steps_right o_next o_jump o_ros o_back) (ok_before_right T_before_right o_bef o_nextof o_back) o_bef o_nextof o_ros z_range
  · intro H a ns hl _ hT hS
    exact ⟨_, rfl, a, ns, rfl, hS, tabG_nil (hT _ (List.mem_map.mpr ⟨("read_rule", none), by unfold tfK; simp, rfl⟩)), tabG_nil (hT _ (List.mem_map.mpr ⟨("is_figures", none), by unfold tfK; simp, rfl⟩)), fun _ => rfl⟩
end Tw
open PySem PySem.W PySem.Calls PyProof.Rows
set_option maxHeartbeats 0 in
theorem PySem.Challenge.cw_timesrow_k05_whole_steps_holds : PySem.Challenge.rw_timesrow_k05_whole_steps.Holds := by
  w_on; o_law
  refine HandSHeadRun.head_any (r := OpenLaw.row PySem.Challenge.rw_timesrow_k05_whole_steps) (q := view (OpenLaw.row PySem.Challenge.rw_timesrow_k05_whole_steps).prog [35]) (H := Tw.hk) (ob := Tw.ob) (M := 4000) (loose := Tw.namesK) (d := HandSHeadRun.topDef (OpenLaw.row PySem.Challenge.rw_timesrow_k05_whole_steps).prog 35) (kwd := []) Tw.ob_eq
    (by kernel_rfl) (fun s => by kernel_rfl) Tw.run (by kernel_rfl) (by kernel_rfl) (by kernel_rfl) (by rfl) (by first | assumption | decide +kernel) (by decide +kernel) ⟨rfl, rfl, rfl, rfl, rfl, by decide +kernel⟩ ?hw ?hc
  case hw => w_witness2
  case hc =>
    refine LamX.walk_ofTsE (l := PySem.Challenge.rw_timesrow_k05_whole_steps) (n := 63) (k := 8) (x := "script") (CX := fun _ => L2.CX0) rfl (by decide) (by kernel_rfl) ⟨rfl, by decide, by decide⟩ ?F (fun _ _ _ _ _ z => z)
    intro w mg fa h Y G hmg0
    obtain ⟨K, KX, c⟩ := Y
    have hmg : mg ("law" : PySem.Str) = some (.ref fa) := by
      have e : (HandSHeadRun.topDef (OpenLaw.row PySem.Challenge.rw_timesrow_k05_whole_steps).prog 35).name = ("law" : PySem.Str) := by kernel_rfl
      rw [← e]
      exact hmg0
    exact ⟨K, KX, Tw.factsK KX G hmg c⟩

