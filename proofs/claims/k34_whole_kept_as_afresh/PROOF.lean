import PyProof.Rows.All
import Wide.All
import OpenK.AllK
import Wide.FinOn
import PyProof.EqAt
import PyProof.EqKinds
import PyProof.TupleCall
import KE.KExcIs
import HandS.ForMost
import HandS.ForExc
import HandS.ExcInit
import HandS.ExcField
import HandS.IsInst
import HandS.ClsMeth
import HandS.Wide
import HandS.SetFor
import HandS.Codes
import HandS.Style
import KE.GoesMore
import HandS.Walk
import HandS.NoneIn
import HandS.TupMul
import HandS.WideBits
import HandS.TupAny
import HandS.Conv
import KE.KExcStr
import HandS.ExcValue
import HandS.Iter
import HandS.MakeKw
import HandS.MakeKwOnly
import HandS.Comp
import HandS.AnyAll
import HandS.GenOver
import HandS.Nested
import HandS.Text
import HandS.FStr
import PyProof.Rows.SumAny
import PyProof.WalksMore
import HandS.TupLen
import PyProof.MinMaxWalk
import HandS.Flow
import HandS.TryOnly
import PySem.Challenge.RW_timesrow_k34_whole_kept_as_afresh
set_option Elab.async false
set_option linter.all false
set_option maxRecDepth 100000
set_option maxHeartbeats 4000000
/-! Own rules over the hand layer: a caught exception kept as a value, its class asked, its field read; the base's own initialiser reached through an own class; products and quotients by plain bounds. -/
namespace Tw
open PySem PySem.Spec PyProof.Rows L2

/-! ### an exception held as a value -/
def exv (a : Addr) (cls : Value) (d : Option Addr) : HO := .ext fun h => ∃ (oe : Obj) (vs : Array Value), h.get? a = some oe ∧ Zc cls d oe ∧ oe.data = .fields vs
theorem exv_ok {P : Program} {w : World} {H : Hp} {h : Heap} {a : Addr} {cls : Value} {d : Option Addr} {oe : Obj} {vs : Array Value} (he : h.get? a = some oe) (hz : Zc cls d oe) (hd : oe.data = .fields vs) : ObjOk P w H h a (exv a cls d) :=
  ⟨⟨oe, vs, he, hz, hd⟩, ⟨oe, he⟩, fun _ _ z k => by
    obtain ⟨o, v, e, q⟩ := z
    exact ⟨o, v, k _ e, q⟩⟩
theorem exv_at {P : Program} {w : World} {H : Hp} {h : Heap} {a : Addr} {cls : Value} {d : Option Addr} (hok : HOk P w H h) (he : H a = some (exv a cls d)) : ∃ (oe : Obj) (vs : Array Value), h.get? a = some oe ∧ Zc cls d oe ∧ oe.data = .fields vs := by
  have x : ObjOk P w H h a (.ext fun h => ∃ (oe : Obj) (vs : Array Value), h.get? a = some oe ∧ Zc cls d oe ∧ oe.data = .fields vs) := hok a _ he
  exact x.1
section
variable {X : Cx} {pins : List (Addr × Obj)} {σ : L2.St} {H : Hp} {s : Shared}
/-- an object of ours that was not tracked is tracked from here on -/
theorem track {a : Addr} {o : HO} (I : Inv X pins σ H s) (na : H a = none) (h0 : ∀ ob, X.s_0.heap.get? a = some ob → X.H_0 a = none → a ∉ X.ex → False) (hL : a ≠ X.env.locals)
    (hc : ∀ x c, X.env.cells.lookup x = some c → c ≠ a) (hp : ∀ p ∈ X.pn ++ pins, p.1 ≠ a) (new : ObjOk X.prog X.w (upd H a o) s.heap a o) : Inv X pins σ (upd H a o) s := by
  have ne : ∀ {b : Addr} {u : HO}, H b = some u → b ≠ a := fun {b u} e => ne_of_none e na
  refine ⟨I.ok, I.os, I.bare, ⟨I.base.keep, I.base.slot, fun b ob e n hx => ?_, I.base.there, fun b xs e => ?_, fun b ob u e => ?_, fun b ps e => ?_⟩, I.loc, I.cell, ?_, fun x c e => ?_, fun p q => ?_, fun b u e => ?_, I.len⟩
  · have nb : b ≠ a := fun z => h0 ob (z ▸ e) (z ▸ n) (z ▸ hx)
    rw [upd_ne nb]
    exact I.base.free b ob e n hx
  · have q := I.base.tups b xs e
    rw [upd_ne (ne q)]
    exact q
  · have q := I.base.frzs b ob u e
    rw [upd_ne (ne q)]
    exact q
  · obtain ⟨more, q⟩ := I.base.tbls b ps e
    exact ⟨more, by rw [upd_ne (ne q)]; exact q⟩
  · rw [upd_ne (Ne.symm hL)]
    exact I.free
  · rw [upd_ne (hc x c e)]
    exact I.freeC x c e
  · obtain ⟨e, n, l, f, d⟩ := I.pin p q
    exact ⟨e, by rw [upd_ne (hp p q)]; exact n, l, f, d⟩
  · by_cases hb : b = a
    · subst hb
      rw [upd_same] at e
      cases e
      exact new
    · rw [upd_ne hb] at e
      exact (I.hok b u e).stay (fun _ _ _ q => q) (fun c q => by rw [upd_ne (ne q)]; exact q) (fun c xs q => by rw [upd_ne (ne q)]; exact q)
/-- into an except suite and out of it: nothing more is pinned there than was before -/
theorem toSuite (I : Inv X pins σ H s) (a : Addr) : Inv (X.suite a (X.pn ++ pins)) [] σ H s :=
  { ok := I.ok.suite _ _, os := I.os, bare := I.bare, base := I.base, loc := I.loc, cell := I.cell, free := I.free, freeC := I.freeC, hok := I.hok, len := I.len
    pin := fun p hp => I.pin p ((List.append_nil (X.pn ++ pins)) ▸ hp) }
theorem ofSuite {a : Addr} {more : List (Addr × Obj)} (I : Inv (X.suite a (X.pn ++ pins)) more σ H s) (ok : X.Ok) : Inv X pins σ H s :=
  { ok := ok, os := I.os, bare := I.bare, base := I.base, loc := I.loc, cell := I.cell, free := I.free, freeC := I.freeC, hok := I.hok, len := I.len
    pin := fun p hp => I.pin p (List.mem_append_left more hp) }
/-- no frame is a record -/
theorem rec_noframe {h B : Heap} {l : List Env} {a : Addr} {o : Obj} {vs : Array Value} (ff : h.FunFrames B l) (e : h.get? a = some o) (dd : o.data = .fields vs) : a ∉ frs l := fun hm => by
  obtain ⟨_, o2, e2, nf⟩ := ff.mem hm
  have z := Option.some.inj (e.symm.trans e2)
  subst z
  exact nf vs dd
/-- an address that the ground does not know is younger than the def's entry, and is not pinned -/
theorem young {B : Heap} {a : Addr} (J : Inv X pins σ H s) (gr : ∀ b o, s.heap.get? b = some o → b ∉ frs X.stack → B.get? b = some o) (hB : B.get? a = none) (nS : a ∉ frs X.stack) (nF : a ∉ X.fs) :
    (∀ ob, X.s_0.heap.get? a = some ob → X.H_0 a = none → a ∉ X.ex → False) ∧ ∀ p ∈ X.pn ++ pins, p.1 ≠ a := by
  constructor
  · intro ob e n hx
    have z := gr a ob (J.base.keep a ob e n nF hx) nS
    rw [hB] at z
    cases z
  · intro p hp z
    obtain ⟨e, _, l, f, _⟩ := J.pin p hp
    have y := gr p.1 p.2 e (fun hm => (List.mem_cons.mp (J.stkSub p.1 hm)).elim l f)
    rw [z, hB] at y
    cases y
end
/-- what the clause wishes of an exception of the body: the clause takes it; it is held, and stays held behind the suite -/
def wKeep (K : PySem.W.Frag) (c : Value) (i : Nat) (ts : TS) (D : Ends) : WX := fun cls d σ H =>
  PySem.W.exmOne K cls c = some true ∧ ∀ a, H a = none → ts { nx := fun σ1 H1 => D.nx (σ1.set i none) H1, rt := D.rt, bk := fun σ1 H1 => D.bk (σ1.set i none) H1, ct := fun σ1 H1 => D.ct (σ1.set i none) H1 } (σ.set i (some (.ref a))) (upd H a (exv a cls d))
section
variable {X : Cx} {x n : Str} {c : Value} {i : Nat} {body suite : List Stmt} {b0 : Stmt} {np pos pos' : Pos} {tb : WX → TS} {ts : TS}
/-- the clause's name is looked up while the exception is handled -/
theorem clause_name {pins : List (Addr × Obj)} {σ : L2.St} {H : Hp} {s : Shared} {a : Addr} {Q : Value → Shared → Prop} {E : Value → Shared → Prop} (hc : Names X x c) (I : Inv X pins σ H s) (q : Q c s) :
    wpAny (model X.prog X.w) (X.A.mark (some (.ref a))) (eval (.Name x np) X.env) Q E s := by
  have J := toSuite I a
  obtain ⟨g, nd, m | ⟨m, v, nn⟩⟩ := hc
  · exact ld_glob (X := X.suite a (X.pn ++ pins)) J g m q nd
  · exact ld_blt (X := X.suite a (X.pn ++ pins)) J g m v q nn nd
/-- behind the suite: the name goes, and the way goes on as it would -/
theorem suite_done {pins : List (Addr × Obj)} {a : Addr} {D : Ends} {fl : Flow} {s : Shared} (ok : X.Ok) (hN : X.N.Nodup) (hi : X.N[i]? = some n) (hln : X.env.kindOf n = some .local)
    (h : SP (X.suite a (X.pn ++ pins)) [] { nx := fun σ1 H1 => D.nx (σ1.set i none) H1, rt := D.rt, bk := fun σ1 H1 => D.bk (σ1.set i none) H1, ct := fun σ1 H1 => D.ct (σ1.set i none) H1 } fl s) :
    wpAny (model X.prog X.w) X.A (do bindName X.env n .none; unbindBehindTheSuite X.env n pos') (fun _ s7 => SP X pins D fl s7) X.xe s := by
  cases fl with
  | next => obtain ⟨_, _, S, q⟩ := h; exact gone_ok (ofSuite S ok) hN hi hln fun _ J => ⟨_, _, J, q⟩
  | brk => obtain ⟨_, _, S, q⟩ := h; exact gone_ok (ofSuite S ok) hN hi hln fun _ J => ⟨_, _, J, q⟩
  | cont => obtain ⟨_, _, S, q⟩ := h; exact gone_ok (ofSuite S ok) hN hi hln fun _ J => ⟨_, _, J, q⟩
  | ret u => obtain ⟨_, _, _, S, r, q⟩ := h; exact gone_ok (ofSuite S ok) hN hi hln fun _ J => ⟨_, _, _, J, r, q⟩
/-- an exception in the air of the try's body, met by the clause -/
theorem met {pins : List (Addr × Obj)} {xe : Value → Shared → Prop} {D : Ends} {u : Value} {s1 : Shared} (ok : X.Ok) (hs : X.stack = X.env :: X.outer) (hf : X.env.frame = some X.env.locals) (hN : X.N.Nodup) (hi : X.N[i]? = some n) (hln : X.env.kindOf n = some .local) (hc : Names X x c)
    (hsu : ∀ (a : Addr) (pn : List (Addr × Obj)), PSs (X.suite a pn) (b0 :: suite) ts) (air : XE (X.tr (X.pn ++ pins) xe) (wKeep X.K c i ts D) u s1) :
    wpAny (model X.prog X.w) X.A (noteFrame u X.env) (fun _ s2 => wpAny (model X.prog X.w) X.A (setFlight u none) (fun _ s3 =>
      wpAny (model X.prog X.w) X.A (handleBy u X.env [.ExceptHandler (some (.Name x np)) (some n) (b0 :: suite) pos']) (SP X pins D) X.xe s3) X.xe s2) X.xe s1 := by
  obtain ⟨a, B, sI, _, σ1, H1, cls, d, rfl, J0, gr, up, sky, na, os, ag, xm, yes⟩ := air
  have J : Inv X pins σ1 H1 sI := J0.ofTry ok
  have top : X.A.frames = some (X.env :: X.outer) := ok.frames.trans (congrArg some hs)
  have sky1 : Sky B (X.env :: X.outer) a (Zc cls d) X.env.locals s1.heap := hs ▸ sky
  refine Sky.land Zc.steady top hf sky1 fun h3 fly3 up3 => ?_
  have J3 : Inv X pins σ1 H1 { s1 with heap := h3 } := J.landed gr fly3.1 (up.trans up3) os ag
  obtain ⟨oe3, vs3, at3, z3, d3⟩ := fly3.there
  have nfr : a ∉ frs (X.env :: X.outer) := rec_noframe fly3.2.2.1 at3 d3
  have nS : a ∉ frs X.stack := hs ▸ nfr
  have nL : a ≠ X.env.locals := fun z => nfr (List.mem_filterMap.mpr ⟨X.env, List.mem_cons_self, by rw [hf, z]⟩)
  have nF : a ∉ X.fs := fun hm => let ⟨e, he, q⟩ := List.mem_filterMap.mp hm; nfr (List.mem_filterMap.mpr ⟨e, List.mem_cons_of_mem _ he, q⟩)
  have TY : PySem.W.Looks (model X.prog X.w) h3 (typeOf (.ref a)) cls := fun _ _ _ _ k q => wpAny_typeOf_ref (k _ _ at3) (z3.1.symm ▸ q)
  refine wpAny_handleBy_cons (codeAny_handlers_test (clause_name hc J3 ((PySem.W.exm_one (M := model X.prog X.w) J3.kIn TY xm).here ?_))) (fun q => by cases q)
  refine codeAny_handlers_suite_as (HandSPX.lands_againZ fly3 fun h4 fly4 up4 => ?_)
  have J4 : Inv X pins σ1 H1 { s1 with heap := h4 } := J.landed gr fly4.1 ((up.trans up3).trans up4) os ag
  obtain ⟨oe, vs, at4, z4, d4⟩ := fly4.there
  obtain ⟨y1, y2⟩ := young J gr fly4.2.1 nS nF
  have ncell : ∀ y cc, X.env.cells.lookup y = some cc → cc ≠ a := fun y cc e z => by
    obtain ⟨_, oc, hoc, hdc⟩ := J4.cell y cc e
    subst z
    have w1 : oe = oc := Option.some.inj (at4.symm.trans hoc)
    rw [← w1, d4] at hdc
    cases hdc
  have J5 := toSuite (track (o := exv a cls d) J4 na y1 nL ncell y2 (exv_ok at4 z4 d4)) a
  refine store_ok (X := X.suite a (X.pn ++ pins)) (v := .ref a) J5 hN hi (.inl hln) rfl (fun s5 S5 => ?_) (.inr hln)
  exact wpAny_mono ((hsu a (X.pn ++ pins)).run [] s5 _ _ _ S5 (yes a na)) (fun fl s6 h6 => suite_done ok hN hi hln h6) (fun _ _ z => z.elim)
theorem ps_try_keep (hs : X.stack = X.env :: X.outer) (hf : X.env.frame = some X.env.locals) (hN : X.N.Nodup) (hi : X.N[i]? = some n) (hln : X.env.kindOf n = some .local) (hc : Names X x c)
    (hb : ∀ (W : WX) (pn : List (Addr × Obj)) (xe : Value → Shared → Prop), Takes (X.tr pn xe) W → PassesOwn (model X.prog X.w) X.A X.env xe → PSs (X.tr pn xe) body (tb W))
    (hsu : ∀ (a : Addr) (pn : List (Addr × Obj)), PSs (X.suite a pn) (b0 :: suite) ts) :
    PS X (.Try body [.ExceptHandler (some (.Name x np)) (some n) (b0 :: suite) pos'] [] [] pos) (fun D σ H => tb (wKeep X.K c i ts D) D σ H) := by
  refine ⟨fun pins s σ H D I h => wpAny_Try_except ?_⟩
  have ok := I.ok
  refine wpAny_mono ((hb _ (X.pn ++ pins) _ (fun u s1 air => met ok hs hf hN hi hln hc hsu air) PassesOwn.looking).run [] s σ H D (I.toTry _) h) (fun fl s1 r => ?_) (fun _ _ q => q)
  cases fl with
  | next => obtain ⟨_, _, J, q⟩ := r; exact wpAny_execs_nil ⟨_, _, J.ofTry ok, q⟩
  | brk => obtain ⟨_, _, J, q⟩ := r; exact ⟨_, _, J.ofTry ok, q⟩
  | cont => obtain ⟨_, _, J, q⟩ := r; exact ⟨_, _, J.ofTry ok, q⟩
  | ret u => obtain ⟨_, _, _, J, v, q⟩ := r; exact ⟨_, _, _, J.ofTry ok, v, q⟩
end

/-! ### isinstance of a held exception -/
/-- what is asked of an own exception class -/
structure XcC (K : PySem.W.Frag) (D : Addr) : Prop where
  hc : PySem.W.isClsIn K D = true
  hg : PySem.W.findIn K (.ref D) "__getattribute__" = some (some (.builtin "BaseException.__getattribute__"))
  hk : PySem.W.findIn K (.ref D) "__getattr__" = some none
  hs : PySem.W.subIn K (.ref D) (.type "BaseException") = some true
  hd : PySem.W.hasDictIn K D = true
  ha : PySem.W.findIn K (.ref D) "__class__" = some (some (.builtin "object.__class__"))
  hn : PySem.W.specialIn K (.builtin "object.__class__") "__get__" = some (some (.builtin "getset_descriptor.__get__"))
  ht : PySem.W.takesIn K (.builtin "object.__class__") = some true
  hm : PySem.W.mroIn K D (.type "object") = some true
section
variable {X : Cx} {pins : List (Addr × Obj)} {σ : L2.St} {H : Hp} {s : Shared}
/-- a held exception, its dict as the heap tells it -/
def HasD (H : Hp) (d : Option Addr) : Prop := ∀ dx, d = some dx → ∃ fs, H dx = some (.xd fs)
theorem inst_of {a D : Addr} {d : Option Addr} (I : Inv X pins σ H s) (e : H a = some (exv a (.ref D) d)) (hd : HasD H d) : ∃ oe od, PySem.W.InstAt s.heap a oe D od := by
  obtain ⟨oe, vs, he, hz, hv⟩ := exv_at I.hok e
  have nc : PySem.W.notCls oe = true := by unfold PySem.W.notCls; rw [hv] <;> rfl
  cases d with
  | none => exact ⟨oe, none, he, hz.1, nc, by rw [hz.2]; trivial⟩
  | some dx =>
    obtain ⟨fs, ed⟩ := hd dx rfl
    have hx : ObjOk X.prog X.w H s.heap dx (.xd fs) := I.hok dx _ ed
    obtain ⟨mA, hns, hr⟩ := hx
    obtain ⟨od, ho, hl⟩ := lookIn_ns hns
    exact ⟨oe, some od, he, hz.1, nc, by rw [hz.2]; exact ho⟩
end
/-- isinstance(e, c), e a held exception of the class at D -/
def rIsX (K : PySem.W.Frag) : List V → Hp → VK → Prop := fun xs H Q => ∃ (a D : Addr) (d : Option Addr) (c : V) (u : Value) (b : Bool), xs = [.ref a, c] ∧ ClsV c u ∧ H a = some (exv a (.ref D) d) ∧ HasD H d ∧ XcC K D ∧ PySem.W.kitOne K (.ref D) u = some b ∧ Q (.bl b) H
theorem call_isX {X : Cx} : CallR X (.builtin "isinstance") (rIsX X.K) := by
  intro pins s σ H xs us Q I r h
  obtain ⟨a, D, d, c, u, b, rfl, k, ea, hd, T, e, q⟩ := h
  obtain ⟨u1, u2, rfl, r1, r2⟩ := vals2 r
  cases (show u1 = Value.ref a from r1)
  have e2 := k.eq r2
  subst e2
  obtain ⟨oe, od, J⟩ := inst_of I ea hd
  exact PySem.W.kia_one (PySem.W.kitx_exc T.hc T.hg T.hk T.hs T.ha T.hn T.ht T.hm) I.kIn J e (fun z => nomatch z) fun tk => ⟨.bl b, H, I.tok tk, rfl, q⟩
/-- both: a held exception, or anything that the layer knows -/
def rIsA (K : PySem.W.Frag) : List V → Hp → VK → Prop := fun xs H Q => rIsX K xs H Q ∨ rIsi K xs H Q
theorem call_isA {X : Cx} : CallR X (.builtin "isinstance") (rIsA X.K) := by
  intro pins s σ H xs us Q I r h
  rcases h with h | h
  · exact call_isX pins s σ H xs us Q I r h
  · exact call_isi pins s σ H xs us Q I r h

/-! ### a field of a held exception -/
def tXv (K : PySem.W.Frag) (f : Str) (te : TE) : TE := fun σ H Q => te σ H fun x H1 => ∃ (a C dd : Addr) (fs : List (Str × V)) (v : V), x = .ref a ∧ H1 a = some (exv a (.ref C) (some dd)) ∧ XcC K C ∧ PySem.W.findIn K (.ref C) f = some none ∧ H1 dd = some (.xd fs) ∧ fs.lookup f = some v ∧ Q v H1
theorem pe_xv {X : Cx} {e : Expr} {te : TE} {pos : Pos} {n : Str} (he : PE X e te) (hb : attributeBase e n X.env (eval e X.env) = eval e X.env := by rfl) : PE X (.Attribute e n pos) (tXv X.K n te) := by
  refine ⟨fun pins s σ H Q I h => ?_⟩
  refine attr_of hb (thn (he.run pins s σ H _ I h) fun u s1 hh => ?_)
  obtain ⟨x, H1, I1, rx, a, C, dd, fs, v, ex, ea, T, hno, ed, l, q⟩ := hh
  subst ex
  obtain rfl : u = Value.ref a := rx
  obtain ⟨oe, vs, ha, hz, hd⟩ := exv_at I1.hok ea
  have hx : ObjOk X.prog X.w H1 s1.heap dd (.xd fs) := I1.hok dd _ ed
  obtain ⟨mA, hns, hr⟩ := hx
  obtain ⟨od, ho, hl⟩ := lookIn_ns hns
  obtain ⟨u, hu, ru⟩ := RelO.some_of (v := v) (o := mA n) (by rw [← l]; exact hr n)
  have J : PySem.W.InstAt s1.heap a oe C (some od) := ⟨ha, hz.1, by unfold PySem.W.notCls; rw [hd] <;> rfl, by rw [hz.2]; exact ho⟩
  exact HandSPX.exc_get I1.kIn J T.hg T.hk T.hs (PySem.W.findObj_own T.hd hno rfl (by rw [hl, hu])) (handed_of ru) ⟨v, H1, I1.tok _, ru, q⟩

/-! ### B.__init__(self, ..), B an own class over ValueError -/
theorem pe_ownInit {X : Cx} {B : Addr} {mc : Value} {x : Str} {e : Expr} {es : List Expr} {ta : TA} {p1 p2 pos : Pos} {pl : Sem Bool} (hg : Gl X x) (hm : X.mg x = some (.ref B)) (r : ClX.CRead X.K B mc)
    (k : PySem.W.findCls X.K (.ref B) mc "__init__" = some (.val (.builtin "ValueError.__init__"))) (ha : PA X (e :: es) ta)
    (hc : eval (.Call (.Attribute (.Name x p1) "__init__" p2) (e :: es) [] pos) X.env = (do
      let ov ← eval (.Name x p1) X.env
      standAt p2.atName
      let (f, first) ← holding [ov] (getMethod ov "__init__" pl)
      callWith pos f first (backTo pos (starEach (e :: es) X.env)) (backToKw pos (keywordEach [] X.env))) := by rfl)
    (he : starEach (e :: es) X.env = (false, eval e X.env) :: starEach es X.env := by rfl) (hpl : (backTo pos (starEach es X.env)).any (·.1) = false := by rfl) (hdb : (x == ("__debug__" : Str)) = false := by decide) :
    PE X (.Call (.Attribute (.Name x p1) "__init__" p2) (e :: es) [] pos) (tVeI X.K ta) := by
  refine ⟨fun pins s σ H Q I h => ?_⟩
  refine PySem.W.methodCall_KW (ld_glob I hg hm ?_ hdb) hc
  refine PySem.W.method_cls I.kIn r.ga (PySem.W.cls_value I.kIn r.rd k rfl ?_)
  show wpAny _ _ (callWith pos (Value.builtin "ValueError.__init__") [] (backTo pos (starEach (e :: es) X.env)) []) _ _ _
  refine PyProof.Rows.callWith_method1 (thn (ha.run pos pins _ σ H _ (I.tok _) h) fun us s1 ⟨vs, H1, I1, r1, a, C, ws, ev, hl, T, ea, q⟩ => ?_) he hpl
  subst ev
  cases r1 with
  | @cons _ u0 _ ur ra rw' =>
    obtain rfl : u0 = Value.ref a := ra
    have hlen : ur.length ≤ sizeLine := by
      rw [← Paired.length rw', sizeLine_eq]
      omega
    exact oinit_ok T I1 ea hlen fun s' J => ⟨.non, H1, J, rfl, q⟩

/-! ### products and quotients by plain bounds -/
def Big (i : Int) : Prop := -1000000000000000000000000000000000000000000 < i ∧ i < 1000000000000000000000000000000000000000000
theorem Big.abs {i : Int} (h : Big i) : i.natAbs < 2 ^ 140 := by
  obtain ⟨a, b⟩ := h
  have : (2 : Nat) ^ 140 = 1393796574908163946345982392040522594123776 := by decide
  rw [this]
  omega
def CMulB (i j : Int) : Prop := Big i ∧ Big j
def CDivB (_ j : Int) : Prop := 0 < j ∧ j < 1000000000000000000000000000000000000000000
theorem op_mulB {X : Cx} : OpR X (binaryOp .Mult) (rI CMulB fun i j => .int (i * j)) := by
  intro pins s σ H x y u v Q I r1 r2 h
  obtain ⟨i, j, e1, e2, hc, q⟩ := h
  exact op_mulW pins s σ H x y u v Q I r1 r2 ⟨i, j, e1, e2, wide_mul hc.1.abs hc.2.abs (by decide) (by decide) (by decide), q⟩
theorem op_fdivB {X : Cx} : OpR X (binaryOp .FloorDiv) (rI CDivB fun i j => .int (i / j)) := by
  intro pins s σ H x y u v Q I r1 r2 h
  obtain ⟨i, j, e1, e2, hc, q⟩ := h
  have hb : Big j := ⟨by have := hc.1; omega, hc.2⟩
  exact op_fdivW pins s σ H x y u v Q I r1 r2 ⟨i, j, e1, e2, wide_div hc.1 hb.abs (by decide) (by decide), q⟩
end Tw

/-! Short words: a def of the top, its promise, its call; readings. -/
namespace Tw
open PySem PySem.Spec PyProof.Rows L2

/-- a def of the text as the top has left it -/
def Top (K : PySem.W.Frag) (mg : Str → Option Value) (x : Str) (st : Stmt) (ps : List Str) : Prop :=
  ∃ (f : Addr) (fd : FuncData), Fun K x x st f fd ∧ mg x = some (.ref f) ∧ Binds K fd ps []
/-- a def that keeps its promise, ready to be called -/
def Lk (K : PySem.W.Frag) (f : Addr) (fd : FuncData) : Prop := ∃ (oc : Value) (od : Option Addr) (osl : Array (Option Value)), K.lookup f = some ⟨oc, od, .func fd, osl⟩
theorem Lk.eq {K : PySem.W.Frag} {f : Addr} {fd fe : FuncData} (a : Lk K f fd) (b : Lk K f fe) : fd = fe := by
  obtain ⟨oc, od, osl, e⟩ := a
  obtain ⟨oc', od', osl', e'⟩ := b
  rw [e] at e'
  cases e'
  rfl
theorem lk_of {K : PySem.W.Frag} {x q : Str} {st : Stmt} {f : Addr} {fd : FuncData} (F : Fun K x q st f fd) : Lk K f fd := by
  obtain ⟨oc, od, kV, doc, pm, an, cdv, ct, osl, _, lk, _⟩ := F.ex
  exact ⟨oc, od, osl, lk⟩
def Has (P : Program) (w : World) (K : PySem.W.Frag) (mg : Str → Option Value) (base : Heap) (CX : CXT) (k : Nat) (x : Str) (ps : List Str) (sp : Sp) : Prop :=
  ∃ (f : Addr) (fd : FuncData), FnOk P w K mg base CX k f fd ps sp ∧ mg x = some (.ref f) ∧ PySem.W.keepIn K (.ref f) = true ∧ Binds K fd ps [] ∧ Lk K f fd
theorem Has.mono {P : Program} {w : World} {K : PySem.W.Frag} {mg : Str → Option Value} {base : Heap} {CX : CXT} {j k : Nat} {x : Str} {ps : List Str} {sp : Sp} (h : Has P w K mg base CX j x ps sp) (l : j ≤ k) : Has P w K mg base CX k x ps sp := by
  obtain ⟨f, fd, F, g, kp, b, lk⟩ := h
  exact ⟨f, fd, F.mono l, g, kp, b, lk⟩
/-! promises by the number of arguments -/
def sp1 (p : V → Hp → VK → XK → Prop) : Sp := fun vs H Q E => ∃ a, vs = [a] ∧ p a H Q E
def sp2 (p : V → V → Hp → VK → XK → Prop) : Sp := fun vs H Q E => ∃ a b, vs = [a, b] ∧ p a b H Q E
def sp3 (p : V → V → V → Hp → VK → XK → Prop) : Sp := fun vs H Q E => ∃ a b c, vs = [a, b, c] ∧ p a b c H Q E
def sp4 (p : V → V → V → V → Hp → VK → XK → Prop) : Sp := fun vs H Q E => ∃ a b c d, vs = [a, b, c, d] ∧ p a b c d H Q E
section
variable {P : Program} {w : World} {K : PySem.W.Frag} {mg : Str → Option Value} {base : Heap} {x : Str} {st : Stmt} {N : List Str} {k : Nat}
theorem Top.ok {ps : List Str} {sp : Sp} (D : Top K mg x st ps) (S : FnScope N ps (defScope st)) (len : ∀ vs H Q E, sp vs H Q E → vs.length = ps.length)
    (hbody : ∀ (f : Addr) (cdv : Value) (A : Around) (outer : List Env) (s : Shared) (H : Hp) (vs : List V) (Q : VK) (E : XK), Room k (A.deeper (envOfC x (defScope st) s.heap.objs.size f cdv)) → sp vs H Q E →
      ∃ t, PSs (cxOf CX0 P w K mg base N x (defScope st) f cdv A outer s H E).nox (defBody st) t ∧ t { nx := fun _ H' => Q .non H', rt := Q } (start N vs) H) : Has P w K mg base CX0 (k + 1) x ps sp := by
  obtain ⟨f, fd, F, g, b⟩ := D
  exact ⟨f, fd, F.ok S len (fun cdv A outer s H vs Q E hr h => hbody f cdv A outer s H vs Q E hr h), g, F.kp, b, lk_of F⟩
theorem Top.okX {ps : List Str} {sp : Sp} (D : Top K mg x st ps) (S : FnScope N ps (defScope st)) (len : ∀ vs H Q E, sp vs H Q E → vs.length = ps.length)
    (hbody : ∀ (f : Addr) (cdv : Value) (A : Around) (outer : List Env) (s : Shared) (H : Hp) (vs : List V) (Q : VK) (E : XK), Room k (A.deeper (envOfC x (defScope st) s.heap.objs.size f cdv)) → sp vs H Q E →
      ∃ t, PSs (cxOf (L2.CX P w) P w K mg base N x (defScope st) f cdv A outer s H E) (defBody st) t ∧ t { nx := fun _ H' => Q .non H', rt := Q } (start N vs) H) : Has P w K mg base (L2.CX P w) (k + 1) x ps sp := by
  obtain ⟨f, fd, F, g, b⟩ := D
  exact ⟨f, fd, F.okX S len (fun cdv A outer s H vs Q E hr h => hbody f cdv A outer s H vs Q E hr h), g, F.kp, b, lk_of F⟩
theorem Top.ok1 {a : Str} {p : V → Hp → VK → XK → Prop} (D : Top K mg x st [a]) (S : FnScope N [a] (defScope st))
    (hbody : ∀ (f : Addr) (cdv : Value) (A : Around) (outer : List Env) (s : Shared) (H : Hp) (v1 : V) (Q : VK) (E : XK), Room k (A.deeper (envOfC x (defScope st) s.heap.objs.size f cdv)) → p v1 H Q E →
      ∃ t, PSs (cxOf CX0 P w K mg base N x (defScope st) f cdv A outer s H E).nox (defBody st) t ∧ t { nx := fun _ H' => Q .non H', rt := Q } (start N [v1]) H) : Has P w K mg base CX0 (k + 1) x [a] (sp1 p) :=
  D.ok S (fun vs H Q E h => by obtain ⟨_, rfl, _⟩ := h; rfl) (fun f cdv A outer s H vs Q E hr h => by obtain ⟨v1, rfl, h⟩ := h; exact hbody f cdv A outer s H v1 Q E hr h)
theorem Top.ok2 {a b : Str} {p : V → V → Hp → VK → XK → Prop} (D : Top K mg x st [a, b]) (S : FnScope N [a, b] (defScope st))
    (hbody : ∀ (f : Addr) (cdv : Value) (A : Around) (outer : List Env) (s : Shared) (H : Hp) (v1 v2 : V) (Q : VK) (E : XK), Room k (A.deeper (envOfC x (defScope st) s.heap.objs.size f cdv)) → p v1 v2 H Q E →
      ∃ t, PSs (cxOf CX0 P w K mg base N x (defScope st) f cdv A outer s H E).nox (defBody st) t ∧ t { nx := fun _ H' => Q .non H', rt := Q } (start N [v1, v2]) H) : Has P w K mg base CX0 (k + 1) x [a, b] (sp2 p) :=
  D.ok S (fun vs H Q E h => by obtain ⟨_, _, rfl, _⟩ := h; rfl) (fun f cdv A outer s H vs Q E hr h => by obtain ⟨v1, v2, rfl, h⟩ := h; exact hbody f cdv A outer s H v1 v2 Q E hr h)
theorem Top.ok3 {a b c : Str} {p : V → V → V → Hp → VK → XK → Prop} (D : Top K mg x st [a, b, c]) (S : FnScope N [a, b, c] (defScope st))
    (hbody : ∀ (f : Addr) (cdv : Value) (A : Around) (outer : List Env) (s : Shared) (H : Hp) (v1 v2 v3 : V) (Q : VK) (E : XK), Room k (A.deeper (envOfC x (defScope st) s.heap.objs.size f cdv)) → p v1 v2 v3 H Q E →
      ∃ t, PSs (cxOf CX0 P w K mg base N x (defScope st) f cdv A outer s H E).nox (defBody st) t ∧ t { nx := fun _ H' => Q .non H', rt := Q } (start N [v1, v2, v3]) H) : Has P w K mg base CX0 (k + 1) x [a, b, c] (sp3 p) :=
  D.ok S (fun vs H Q E h => by obtain ⟨_, _, _, rfl, _⟩ := h; rfl) (fun f cdv A outer s H vs Q E hr h => by obtain ⟨v1, v2, v3, rfl, h⟩ := h; exact hbody f cdv A outer s H v1 v2 v3 Q E hr h)
theorem Top.ok1X {a : Str} {p : V → Hp → VK → XK → Prop} (D : Top K mg x st [a]) (S : FnScope N [a] (defScope st))
    (hbody : ∀ (f : Addr) (cdv : Value) (A : Around) (outer : List Env) (s : Shared) (H : Hp) (v1 : V) (Q : VK) (E : XK), Room k (A.deeper (envOfC x (defScope st) s.heap.objs.size f cdv)) → p v1 H Q E →
      ∃ t, PSs (cxOf (L2.CX P w) P w K mg base N x (defScope st) f cdv A outer s H E) (defBody st) t ∧ t { nx := fun _ H' => Q .non H', rt := Q } (start N [v1]) H) : Has P w K mg base (L2.CX P w) (k + 1) x [a] (sp1 p) :=
  D.okX S (fun vs H Q E h => by obtain ⟨_, rfl, _⟩ := h; rfl) (fun f cdv A outer s H vs Q E hr h => by obtain ⟨v1, rfl, h⟩ := h; exact hbody f cdv A outer s H v1 Q E hr h)
theorem Top.ok2X {a b : Str} {p : V → V → Hp → VK → XK → Prop} (D : Top K mg x st [a, b]) (S : FnScope N [a, b] (defScope st))
    (hbody : ∀ (f : Addr) (cdv : Value) (A : Around) (outer : List Env) (s : Shared) (H : Hp) (v1 v2 : V) (Q : VK) (E : XK), Room k (A.deeper (envOfC x (defScope st) s.heap.objs.size f cdv)) → p v1 v2 H Q E →
      ∃ t, PSs (cxOf (L2.CX P w) P w K mg base N x (defScope st) f cdv A outer s H E) (defBody st) t ∧ t { nx := fun _ H' => Q .non H', rt := Q } (start N [v1, v2]) H) : Has P w K mg base (L2.CX P w) (k + 1) x [a, b] (sp2 p) :=
  D.okX S (fun vs H Q E h => by obtain ⟨_, _, rfl, _⟩ := h; rfl) (fun f cdv A outer s H vs Q E hr h => by obtain ⟨v1, v2, rfl, h⟩ := h; exact hbody f cdv A outer s H v1 v2 Q E hr h)
theorem Top.ok3X {a b c : Str} {p : V → V → V → Hp → VK → XK → Prop} (D : Top K mg x st [a, b, c]) (S : FnScope N [a, b, c] (defScope st))
    (hbody : ∀ (f : Addr) (cdv : Value) (A : Around) (outer : List Env) (s : Shared) (H : Hp) (v1 v2 v3 : V) (Q : VK) (E : XK), Room k (A.deeper (envOfC x (defScope st) s.heap.objs.size f cdv)) → p v1 v2 v3 H Q E →
      ∃ t, PSs (cxOf (L2.CX P w) P w K mg base N x (defScope st) f cdv A outer s H E) (defBody st) t ∧ t { nx := fun _ H' => Q .non H', rt := Q } (start N [v1, v2, v3]) H) : Has P w K mg base (L2.CX P w) (k + 1) x [a, b, c] (sp3 p) :=
  D.okX S (fun vs H Q E h => by obtain ⟨_, _, _, rfl, _⟩ := h; rfl) (fun f cdv A outer s H vs Q E hr h => by obtain ⟨v1, v2, v3, rfl, h⟩ := h; exact hbody f cdv A outer s H v1 v2 v3 Q E hr h)
end
section
variable {X : Cx} {CX : CXT} {k : Nat} {ps : List Str} {sp : Sp} {E : XK} {x : Str} {p pos : Pos} {e : Expr} {es : List Expr} {t : TA}
/-- f(e, ..): what may be raised is taken by E -/
theorem pe_own (h : Has X.prog X.w X.K X.mg X.base CX k x ps sp) (hr : Room k X.A) (hx : Passes CX X E) (ha : PA X (e :: es) t) (hg : Gl X x := by rfl)
    (hdb : (x == ("__debug__" : Str)) = false := by decide) (he : starEach (e :: es) X.env = (false, eval e X.env) :: starEach es X.env := by rfl) (hpl : (backTo pos (starEach es X.env)).any (·.1) = false := by rfl) :
    PE X (.Call (.Name x p) (e :: es) [] pos) (tCall sp [] E t) := by
  obtain ⟨f, fd, F, g, kp, b, _⟩ := h
  exact pe_call F hr hg g kp b .nil hx ha hdb he hpl
theorem pe_ownS {E : L2.St → XK} (h : Has X.prog X.w X.K X.mg X.base CX k x ps sp) (hr : Room k X.A) (hx : ∀ σ, PassesAt CX X σ (E σ)) (ha : PA X (e :: es) t) (hg : Gl X x := by rfl)
    (hdb : (x == ("__debug__" : Str)) = false := by decide) (he : starEach (e :: es) X.env = (false, eval e X.env) :: starEach es X.env := by rfl) (hpl : (backTo pos (starEach es X.env)).any (·.1) = false := by rfl) :
    PE X (.Call (.Name x p) (e :: es) [] pos) (tCallS sp E t) := by
  obtain ⟨f, fd, F, g, kp, b, _⟩ := h
  exact pe_callS F hr hg g kp b hx ha hdb he hpl
end
/-! ### tests -/
theorem ifD {p A B : Prop} [Decidable p] (h1 : p → A) (h2 : ¬ p → B) : if decide p = true then A else B := by
  by_cases h : p
  · rw [if_pos (decide_eq_true h)]; exact h1 h
  · rw [if_neg (by simp [h])]; exact h2 h
theorem ifN {p A B : Prop} [Decidable p] (h1 : ¬ p → A) (h2 : p → B) : if (!decide p) = true then A else B := by
  by_cases h : p
  · rw [if_neg (by simp [h])]; exact h2 h
  · rw [if_pos (by simp [h])]; exact h1 h
theorem ifI {i j : Int} {A B : Prop} (h1 : i = j → A) (h2 : i ≠ j → B) : if decide (V.int i = V.int j) = true then A else B := ifD (fun e => h1 (V.int.inj e)) (fun e => h2 fun z => e (by rw [z]))
theorem ifNI {i j : Int} {A B : Prop} (h1 : i ≠ j → A) (h2 : i = j → B) : if (!decide (V.int i = V.int j)) = true then A else B := ifN (fun e => h1 fun z => e (by rw [z])) (fun e => h2 (V.int.inj e))
theorem ifB {c : Bool} {A B : Prop} (h1 : c = true → A) (h2 : c = false → B) : if c = true then A else B := by
  cases c with
  | true => exact iteT (h1 rfl)
  | false => exact iteF (h2 rfl)
theorem ifT {c : Bool} {A B : Prop} (e : c = true) (h : A) : if c = true then A else B := by rw [if_pos e]; exact h
theorem ifF {c : Bool} {A B : Prop} (e : c = false) (h : B) : if c = true then A else B := by rw [e]; exact iteF h
/-! ### heaps -/
/-- the list at d begins with the object at c -/
def At (H : Hp) (d c : Addr) : Prop := ∃ r : List V, H d = some (.lst (.ref c :: r))
/-- all but what stands at d is as it was; a list at d keeps its first item -/
structure But (d : Addr) (H H' : Hp) : Prop where
  keep : ∀ b o, b ≠ d → H b = some o → H' b = some o
  hd : ∀ c, At H d c → At H' d c
instance {d : Addr} {H H' : Hp} : CoeFun (But d H H') (fun _ => ∀ b o, b ≠ d → H b = some o → H' b = some o) := ⟨But.keep⟩
theorem But.refl (d : Addr) (H : Hp) : But d H H := ⟨fun _ _ _ h => h, fun _ h => h⟩
theorem But.trans {d : Addr} {H H1 H2 : Hp} (a : But d H H1) (b : But d H1 H2) : But d H H2 := ⟨fun c o n h => b c o n (a c o n h), fun c h => b.hd c (a.hd c h)⟩
theorem _root_.L2.Same.but {d : Addr} {H H1 : Hp} (a : Same H H1) : But d H H1 := ⟨fun c o _ h => a c o h, fun c h => by
  obtain ⟨r, e⟩ := h
  exact ⟨r, a _ _ e⟩⟩
theorem same_new {H : Hp} {p : Addr} {o : HO} (h : H p = none) : Same H (upd H p o) := fun b x e => by
  rw [upd_ne (ne_of_none e h)]
  exact e
theorem same_mut {H H' : Hp} {p : Addr} {o : HO} (e : Same H H') (h : H p = none) : Same H (upd H' p o) := fun a u ha => by
  rw [upd_ne (ne_of_none ha h)]
  exact e a u ha
theorem but_mut {H H' : Hp} {d : Addr} {o : HO} (e : But d H H') (ho : ∀ c, At H' d c → ∃ r : List V, o = .lst (.ref c :: r)) : But d H (upd H' d o) := ⟨fun a u n ha => by
  rw [upd_ne n]
  exact e a u n ha, fun c h => by
  obtain ⟨r, z⟩ := ho c (e.hd c h)
  exact ⟨r, by rw [upd_same, z]⟩⟩
theorem but_mut2 {H H' : Hp} {d p : Addr} {o : HO} (e : But d H H') (h : H p = none) : But d H (upd H' p o) := ⟨fun a u n ha => by
  rw [upd_ne (ne_of_none ha h)]
  exact e a u n ha, fun c k => by
  obtain ⟨r, z⟩ := e.hd c k
  obtain ⟨_, y⟩ := k
  exact ⟨r, by rw [upd_ne (ne_of_none y h)]; exact z⟩⟩
theorem But.free {d : Addr} {H H' : Hp} (e : But d H H') {l : Addr} (n : l ≠ d) (h : H' l = none) : H l = none := by
  cases q : H l with
  | none => rfl
  | some o =>
    rw [e l o n q] at h
    cases h
theorem _root_.L2.Same.tup {K : PySem.W.Frag} {H H' : Hp} {a : Addr} {xs : List V} (e : Same H H') (h : SqT K H a xs) : SqT K H' a xs := by
  rcases h with (h | ⟨o, h⟩) | h
  · exact .inl (.inl (e _ _ h))
  · exact .inl (.inr ⟨o, e _ _ h⟩)
  · exact .inr h
theorem sz {n : Nat} (h : n ≤ 100000) : n ≤ sizeLine := Nat.le_trans h (by decide)
theorem szl {n : Nat} (h : n < 100000) : n < sizeLine := Nat.lt_of_lt_of_le h (by decide)
theorem szM {n : Nat} (h : n ≤ 1000000) : n < sizeLine := Nat.lt_of_le_of_lt h (by decide)
/-! ### arithmetic -/
theorem mul_bd {a b A B : Int} (ha : 0 ≤ a) (ha' : a ≤ A) (hb : 0 ≤ b) (hb' : b ≤ B) : 0 ≤ a * b ∧ a * b ≤ A * B :=
  ⟨Int.mul_nonneg ha hb, Int.mul_le_mul ha' hb' hb (Int.le_trans ha ha')⟩
theorem mod_bd (a : Int) {b : Int} (h : 0 < b) : 0 ≤ a % b ∧ a % b < b := ⟨Int.emod_nonneg a (by omega), Int.emod_lt_of_pos a h⟩
/-! ### xs.count(y), flat items -/
def rCntA (K : PySem.W.Frag) : V → List V → Hp → VK → Prop := fun x xs H Q => ∃ (p : Addr) (ys : List V) (y : V), x = .ref p ∧ xs = [y] ∧ SqL K H p ys ∧ flatV y = true ∧ ys.all flatV = true ∧ Q (.int (ys.countP (fun z => eqV z y) : Nat)) H
theorem countP_eqU {x : V} : ∀ {xs : List V} {us : List Value}, Vals xs us → xs.all flatV = true → us.countP (eqU x) = xs.countP fun y => eqV y x
  | _, _, .nil, _ => rfl
  | y :: xs, u :: us, .cons r t, f => by
    rw [List.all_cons, Bool.and_eq_true] at f
    rw [List.countP_cons, List.countP_cons, eqU_of r f.1, countP_eqU t f.2]
theorem mt_countA {X : Cx} : MtR X "list.count" (rCntA X.K) := by
  intro pins s σ H x xs v us Q I rx rxs h
  obtain ⟨p, ys, y, rfl, rfl, hs, fy, fs, q⟩ := h
  cases rx
  obtain ⟨u, rfl, ru⟩ := rxs.one
  obtain ⟨its, rv, ⟨⟨cls, dd, data, sl⟩, n, ho, hc, hdn, hd⟩, hlen⟩ := I.list hs
  simp only at hc hd
  subst hc hd
  refine call_meets PySem.F.slot_list_count ⟨_, ho, rfl⟩ PySem.F.entry_list_count (PySem.F.args_list_count_2 _ _)
    (SeqAt.list_countAt p its.toArray n dd sl u (eqU y)) ⟨ho, fun z hz => mem_eqAt ru fy rv fs z (by simpa using hz), ?_⟩
  have ec : its.toArray.toList.countP (eqU y) = ys.countP fun z => eqV z y := countP_eqU rv fs
  refine ⟨.int (ys.countP (fun z => eqV z y) : Nat), H, I.tok _, ⟨s.toks, ?_⟩, q⟩
  show Value.int ((its.toArray.toList.countP (eqU y) : Nat) : Int) s.toks = _
  rw [ec]
/-- while True -/
theorem pt_true {X : Cx} {j pos} : PT X (.Constant (.bool true) j pos) (fun _ H Q => Q true H) := by
  have h : PT X (.Constant (.bool true) j pos) (tB (tC (.bl true))) := pt_val pe_bl
  exact ⟨fun pins s σ H Q I q => h.run pins s σ H Q I ⟨true, rfl, q⟩⟩
/-- an item of a list of ints -/
theorem at_ints {ns : List Int} {v : Int} (h0 : 0 ≤ v) (h1 : v < ns.length) : ∃ x, x ∈ ns ∧ atI (ns.map V.int) v = some (.int x) := by
  obtain ⟨j, rfl⟩ := Int.eq_ofNat_of_zero_le h0
  have jl : j < ns.length := by omega
  refine ⟨ns[j], List.getElem_mem jl, atI_nat ?_⟩
  rw [List.getElem?_map, List.getElem?_eq_getElem jl]
  rfl
end Tw

/-! The draws: what each of the common defs promises. -/
namespace Tw
open PySem PySem.Spec PyProof.Rows L2

def pMix : V → V → Hp → VK → XK → Prop := fun a b H Q _ => ∃ c k : Int, a = .int c ∧ b = .int k ∧ 0 ≤ k ∧ k < 1000000000 ∧ ∀ v : Int, 0 ≤ v → Q (.int v) H
/-- a deck: its cells, where it stands, what is left of a great cell, how many were mixed, the sum -/
def Deck (H : Hp) (d : Addr) (n : Nat) : Prop := ∃ (c : Addr) (xs : List Int) (i r k t : Int), H d = some (.lst [.ref c, .int i, .int r, .int k, .int t]) ∧ H c = some (.lst (xs.map V.int)) ∧ c ≠ d ∧ xs.length ≤ 63 ∧ 0 ≤ i ∧ i ≤ (xs.length : Int) ∧ 0 ≤ r ∧ 0 ≤ k ∧ k ≤ (n : Int)
theorem Deck.mono {H : Hp} {d : Addr} {n m : Nat} (h : Deck H d n) (l : n ≤ m) : Deck H d m := by
  obtain ⟨c, xs, i, r, k, t, a1, a2, a3, a4, a5, a6, a7, a8, a9⟩ := h
  exact ⟨c, xs, i, r, k, t, a1, a2, a3, a4, a5, a6, a7, a8, by omega⟩
theorem Deck.same {H H' : Hp} {d : Addr} {n : Nat} (h : Deck H d n) (s : Same H H') : Deck H' d n := by
  obtain ⟨c, xs, i, r, k, t, a1, a2, a3⟩ := h
  exact ⟨c, xs, i, r, k, t, s _ _ a1, s _ _ a2, a3⟩
theorem Deck.ne {H : Hp} {d p : Addr} {n : Nat} (h : Deck H d n) (e : H p = none) : p ≠ d := by
  obtain ⟨c, xs, i, r, k, t, a1, _⟩ := h
  intro z
  rw [z, a1] at e
  cases e
theorem Deck.ne_tup {H : Hp} {d p : Addr} {n : Nat} {xs : List V} (h : Deck H d n) (e : H p = some (.tup xs)) : p ≠ d := by
  obtain ⟨c, xs, i, r, k, t, a1, _⟩ := h
  intro z
  rw [z, a1] at e
  cases e
theorem Deck.fresh {H H' : Hp} {d p : Addr} {n m : Nat} (h : Deck H d n) (h' : Deck H' d m) (b : But d H H') (e : H' p = none) : H p = none := b.free (h'.ne e) e
/-- a list that is none of the deck's -/
def Out (H : Hp) (d L : Addr) : Prop := L ≠ d ∧ ∀ c, At H d c → c ≠ L
theorem Deck.out {H : Hp} {d L : Addr} {n : Nat} {o : HO} (D : Deck H d n) (e : H L = none) : Out (upd H L o) d L := by
  obtain ⟨c, xs, i, r, k, t, a1, a2, a3⟩ := D
  have n1 : L ≠ d := fun z => by rw [z, a1] at e; cases e
  have n2 : c ≠ L := fun z => by rw [← z, a2] at e; cases e
  refine ⟨n1, fun c' h => ?_⟩
  obtain ⟨r', y⟩ := h
  rw [upd_ne (Ne.symm n1), a1] at y
  cases y
  exact n2
theorem Out.but {H H' : Hp} {d L : Addr} {n m : Nat} (h : Out H d L) (D : Deck H d n) (D' : Deck H' d m) (b : But d H H') : Out H' d L := by
  obtain ⟨c, xs, i, r, k, t, a1, a2, a3⟩ := D
  obtain ⟨r1, e1⟩ := b.hd c ⟨_, a1⟩
  refine ⟨h.1, fun c' hc => ?_⟩
  obtain ⟨r2, e2⟩ := hc
  rw [e1] at e2
  cases e2
  exact h.2 _ ⟨_, a1⟩
theorem Out.mut {H : Hp} {d L : Addr} {o : HO} (h : Out H d L) : Out (upd H L o) d L := ⟨h.1, fun c hc => h.2 c (by
  obtain ⟨r, e⟩ := hc
  rw [upd_ne (Ne.symm h.1)] at e
  exact ⟨r, e⟩)⟩
theorem Deck.mut {H : Hp} {d L : Addr} {n : Nat} {o : HO} (D : Deck H d n) (h : Out H d L) : Deck (upd H L o) d n := by
  obtain ⟨c, xs, i, r, k, t, a1, a2, a3⟩ := D
  exact ⟨c, xs, i, r, k, t, by rw [upd_ne (Ne.symm h.1)]; exact a1, by rw [upd_ne (h.2 c ⟨_, a1⟩)]; exact a2, a3⟩
def pDeck (K : PySem.W.Frag) : V → Hp → VK → XK → Prop := fun a H Q _ => ∃ (s : Addr) (xs : List Int), a = .ref s ∧ SqL K H s (xs.map V.int) ∧ ∀ H' d, Same H H' → H d = none → Deck H' d 0 → Q (.ref d) H'
/-- a draw below m -/
def pNext (c : Nat) : V → V → Hp → VK → XK → Prop := fun a b H Q _ => ∃ (d : Addr) (n : Nat) (m : Int), a = .ref d ∧ b = .int m ∧ 0 < m ∧ m < 1000000000000000000000000000000000000000000 ∧ Deck H d n ∧ n + c ≤ 100000000 ∧
  ∀ (H' : Hp) (v : Int), But d H H' → Deck H' d (n + c) → 0 ≤ v → v < m → Q (.int v) H'
/-- a bound -/
def pBound : V → V → Hp → VK → XK → Prop := fun a b H Q _ => ∃ (d : Addr) (n : Nat) (m : Int), a = .ref d ∧ b = .int m ∧ 100 ≤ m ∧ m ≤ 1000000000000 ∧ Deck H d n ∧ n < 90000000 ∧
  ∀ (H' : Hp) (v : Int), But d H H' → Deck H' d (n + 50) → 1 ≤ v → v ≤ m → Q (.int v) H'
/-- a rule (times, plus, bound), read at r -/
structure Rule (t p b : Int) : Prop where
  b1 : 1 ≤ b
  b2 : b ≤ 1000000000000
  t0 : 0 ≤ t
  t1 : t < b
  p0 : 0 ≤ p
  p1 : p < b
def pRule : V → V → Hp → VK → XK → Prop := fun a b H Q _ => ∃ (d : Addr) (n : Nat) (m : Int), a = .ref d ∧ b = .int m ∧ 100 ≤ m ∧ m ≤ 1000000000000 ∧ Deck H d n ∧ n < 80000000 ∧
  ∀ (H' : Hp) (r : Addr) (t p b : Int), But d H H' → Deck H' d (n + 60) → H r = none → H' r = some (.tup [.int t, .int p, .int b]) → Rule t p b → b ≤ m → Q (.ref r) H'
theorem cut_take (xs : List V) (n : Nat) : cutV xs none (some (n : Int)) = xs.take n := by
  unfold cutV
  rw [HT.sIx_none, HT.sIx_nat]
  show List.take (min n xs.length - 0) (List.drop 0 xs) = _
  rw [List.drop_zero, Nat.sub_zero]
  by_cases h : n ≤ xs.length
  · rw [Nat.min_eq_left h]
  · rw [Nat.min_eq_right (by omega), List.take_of_length_le (Nat.le_refl _), List.take_of_length_le (by omega)]
/-- the classes of the refusals as the top has left them -/
structure Err (K : PySem.W.Frag) (mg : Str → Option Value) (CR CA CB CF CN CU : Addr) : Prop where
  gR : mg "RowError" = some (.ref CR)
  gA : mg "NoAsk" = some (.ref CA)
  gB : mg "NoBack" = some (.ref CB)
  gF : mg "NoFit" = some (.ref CF)
  gN : mg "NoNumber" = some (.ref CN)
  gU : mg "NoRule" = some (.ref CU)
/-- an error's class against all: which of the five it is -/
structure Kit (K : PySem.W.Frag) (C CR CA CB CF CN CU : Addr) (a b f n u : Bool) : Prop where
  xc : XcC K C
  r : PySem.W.kitOne K (.ref C) (.ref CR) = some true
  v : PySem.W.kitOne K (.ref C) (.type "ValueError") = some true
  a : PySem.W.kitOne K (.ref C) (.ref CA) = some a
  b : PySem.W.kitOne K (.ref C) (.ref CB) = some b
  f : PySem.W.kitOne K (.ref C) (.ref CF) = some f
  n : PySem.W.kitOne K (.ref C) (.ref CN) = some n
  u : PySem.W.kitOne K (.ref C) (.ref CU) = some u
/-- a number that is none: kept by the error -/
def pKindN (CN : Addr) : V → Hp → VK → XK → Prop := fun a H Q _ => ∃ (e dd : Addr) (v : V), a = .ref e ∧ H e = some (exv e (.ref CN) (some dd)) ∧ H dd = some (.xd [("number", v)]) ∧
  ∀ H' p, Same H H' → H p = none → H' p = some (.tup [.str "number", v]) → Q (.ref p) H'
/-- a number that is none of a bound's -/
def pWrong : V → V → Hp → VK → XK → Prop := fun a b H Q _ => ∃ (d : Addr) (n : Nat) (m : Int), a = .ref d ∧ b = .int m ∧ 0 < m ∧ m ≤ 1000000000000 ∧ Deck H d n ∧ n + 4 ≤ 100000000 ∧
  ∀ (H' : Hp) (v : Int), But d H H' → Deck H' d (n + 4) → (v < 0 ∨ m ≤ v) → Q (.int v) H'
end Tw

/-! The program's steps and rounds: the mathematics of a walk, and the promises. -/
namespace Tw
open PySem PySem.Spec PyProof.Rows L2

/-! ### walks -/
def stp (t p m x : Int) : Int := (t * x + p) % m
theorem stp_rng {t p m : Int} (h : 0 < m) (x : Int) : 0 ≤ stp t p m x ∧ stp t p m x < m := mod_bd _ h
def wk (f : Int → Int) : Nat → List Int → Int → List Int × Int
  | 0, ws, x => (ws, x)
  | k + 1, ws, x => if x ∈ ws then (ws, x) else wk f k (ws ++ [x]) (f x)
theorem wk_in {f : Int → Int} {ws : List Int} {x : Int} (h : x ∈ ws) : ∀ k, wk f k ws x = (ws, x)
  | 0 => rfl
  | k + 1 => by unfold wk; rw [if_pos h]
theorem wk_out {f : Int → Int} {ws : List Int} {x : Int} (h : x ∉ ws) (k : Nat) : wk f (k + 1) ws x = wk f k (ws ++ [x]) (f x) := by
  conv => lhs; unfold wk
  rw [if_neg h]
theorem nat_len : ∀ (n : Nat) (l : List Nat), l.Nodup → (∀ x ∈ l, x < n) → l.length ≤ n
  | 0, l, _, h => by
    cases l with
    | nil => exact Nat.le_refl _
    | cons a r => exact absurd (h a List.mem_cons_self) (Nat.not_lt_zero _)
  | n + 1, l, nd, h => by
    by_cases hn : n ∈ l
    · have ih := nat_len n (l.erase n) (nd.erase n) (fun x hx => by
        obtain ⟨h1, h2⟩ := nd.mem_erase_iff.mp hx
        have := h x h2
        omega)
      rw [List.length_erase_of_mem hn] at ih
      omega
    · have ih := nat_len n l nd (fun x hx => by
        have := h x hx
        have : x ≠ n := fun e => hn (e ▸ hx)
        omega)
      omega
def Rng (m : Int) (ws : List Int) : Prop := ∀ x ∈ ws, 0 ≤ x ∧ x < m
theorem int_len {m : Int} {ws : List Int} (nd : ws.Nodup) (h : Rng m ws) : ws.length ≤ m.toNat := by
  have h1 : (ws.map Int.toNat).Nodup := by
    rw [List.nodup_iff_pairwise_ne] at nd ⊢
    rw [List.pairwise_map]
    refine List.Pairwise.imp_of_mem (fun {a b} ha hb hne => ?_) nd
    have := h a ha
    have := h b hb
    omega
  have := nat_len m.toNat (ws.map Int.toNat) h1 (fun x hx => by
    obtain ⟨y, hy, rfl⟩ := List.mem_map.mp hx
    have := h y hy
    omega)
  rw [List.length_map] at this
  exact this
theorem nodup_snoc {ws : List Int} {x : Int} (nd : ws.Nodup) (h : x ∉ ws) : (ws ++ [x]).Nodup := by
  rw [List.nodup_append]
  refine ⟨nd, by simp, fun a ha b hb => ?_⟩
  rw [List.mem_singleton] at hb
  subst hb
  exact fun e => h (e ▸ ha)
theorem rng_snoc {m : Int} {ws : List Int} {x : Int} (h : Rng m ws) (hx : 0 ≤ x ∧ x < m) : Rng m (ws ++ [x]) := fun y hy => by
  rcases List.mem_append.mp hy with hy | hy
  · exact h y hy
  · rw [List.mem_singleton.mp hy]; exact hx
theorem wk_good {t p m : Int} (m0 : 0 < m) : ∀ (k : Nat) (ws : List Int) (x : Int), ws.Nodup → Rng m ws → 0 ≤ x ∧ x < m → m.toNat + 1 ≤ k + ws.length →
    (wk (stp t p m) k ws x).1.Nodup ∧ Rng m (wk (stp t p m) k ws x).1 ∧ (wk (stp t p m) k ws x).2 ∈ (wk (stp t p m) k ws x).1
  | 0, ws, x, nd, rg, hx, hk => by
    have := int_len nd rg
    omega
  | k + 1, ws, x, nd, rg, hx, hk => by
    by_cases h : x ∈ ws
    · rw [wk_in h]
      exact ⟨nd, rg, h⟩
    · rw [wk_out h]
      exact wk_good m0 k (ws ++ [x]) (stp t p m x) (nodup_snoc nd h) (rng_snoc rg hx) (stp_rng m0 x) (by rw [List.length_append]; show m.toNat + 1 ≤ k + (ws.length + 1); omega)
/-! ### a dict of places -/
def enumD : Nat → List Int → List (Key × V)
  | _, [] => []
  | i, w :: ws => (Sum.inl w, V.int (i : Int)) :: enumD (i + 1) ws
theorem enumD_len : ∀ (i : Nat) (ws : List Int), (enumD i ws).length = ws.length
  | _, [] => rfl
  | i, w :: ws => by show (enumD (i + 1) ws).length + 1 = ws.length + 1; rw [enumD_len]
theorem enumD_snoc : ∀ (i : Nat) (ws : List Int) (x : Int), enumD i (ws ++ [x]) = enumD i ws ++ [(Sum.inl x, V.int ((i + ws.length : Nat) : Int))]
  | i, [], x => rfl
  | i, w :: ws, x => by
    show (Sum.inl w, V.int (i : Int)) :: enumD (i + 1) (ws ++ [x]) = (Sum.inl w, V.int (i : Int)) :: enumD (i + 1) ws ++ [(Sum.inl x, V.int ((i + (ws.length + 1) : Nat) : Int))]
    rw [enumD_snoc, show i + 1 + ws.length = i + (ws.length + 1) by omega]
    rfl
theorem enumD_none : ∀ (i : Nat) {ws : List Int} {x : Int}, x ∉ ws → valV (enumD i ws) (Sum.inl x) = none
  | _, [], _, _ => rfl
  | i, w :: ws, x, h => by
    show valV ((Sum.inl w, V.int (i : Int)) :: enumD (i + 1) ws) (Sum.inl x) = none
    rw [valV_neg (fun e => h (by rw [← Sum.inl.inj e]; exact List.mem_cons_self))]
    exact enumD_none (i + 1) (fun hm => h (List.mem_cons_of_mem _ hm))
theorem enumD_some : ∀ (i : Nat) {ws : List Int} {x : Int}, x ∈ ws → valV (enumD i ws) (Sum.inl x) = some (V.int ((i + ws.idxOf x : Nat) : Int))
  | i, w :: ws, x, h => by
    show valV ((Sum.inl w, V.int (i : Int)) :: enumD (i + 1) ws) (Sum.inl x) = _
    by_cases e : w = x
    · subst e
      rw [valV_pos rfl, List.idxOf_cons_self]
      rfl
    · have e2 : (w :: ws).idxOf x = ws.idxOf x + 1 := by
        rw [List.idxOf_cons]
        simp [beq_eq_false_iff_ne.mpr e]
      rw [valV_neg (fun z => e (Sum.inl.inj z)), e2, enumD_some (i + 1) ((List.mem_cons.mp h).resolve_left (fun z => e z.symm))]
      congr 2
      omega
theorem upd_self {H : Hp} {a : Addr} {o : HO} (h : H a = some o) : upd H a o = H := by
  funext b
  by_cases e : b = a
  · rw [e, upd_same, h]
  · rw [upd_ne e]
theorem sqT_upd {K : PySem.W.Frag} {H : Hp} {r a : Addr} {xs : List V} {o u : HO} (h : SqT K H r xs) (ha : H a = some u) (n1 : ∀ ys, u ≠ .tup ys) (n2 : ∀ ob v, u ≠ .frz ob v) : SqT K (upd H a o) r xs := by
  rcases h with (h | ⟨ob, h⟩) | h
  · refine .inl (.inl ?_)
    rw [upd_ne (fun e => n1 xs (by rw [e, ha] at h; exact Option.some.inj h))]
    exact h
  · refine .inl (.inr ⟨ob, ?_⟩)
    rw [upd_ne (fun e => n2 ob _ (by rw [e, ha] at h; exact Option.some.inj h))]
    exact h
  · exact .inr h
/-! ### refusals -/
/-- the error behind a number that is none: its own dict d, new -/
def Bad (CN : Addr) (n : Int) (H : Hp) (E : XK) : Prop := ∀ d, H d = none → E (.ref CN) (some d) (upd H d (.xd [("number", .int n)]))
theorem made_eq {H : Hp} {a d : Addr} {C : Addr} {fs : List (Str × V)} (na : H a = none) (nd : d ≠ a) :
    upd (L2.del (upd (upd (upd H a (exo a C none)) d (exd d fs)) a (exo a C (some d))) a) d (.xd fs) = upd H d (.xd fs) := by
  funext b
  by_cases hb : b = d
  · rw [hb, upd_same, upd_same]
  · rw [upd_ne hb, upd_ne hb]
    by_cases ha : b = a
    · rw [ha, del_same, na]
    · rw [del_ne ha, upd_ne ha, upd_ne hb, upd_ne ha]
def spInit (K : PySem.W.Frag) : Sp := sp2 fun x v H Q _ => ∃ (a C : Addr), x = .ref a ∧ OexC K C ∧ PySem.W.findIn K (.ref C) "number" = some none ∧ H a = some (exo a C none) ∧ ∀ d, H d = none → d ≠ a → Q .non (upd (upd H d (exd d [("number", v)])) a (exo a C (some d)))
def pWhole : V → Hp → VK → XK → Prop := fun a H Q _ => ∃ n : Int, a = .int n ∧ Q (.bl true) H
def pIsNum : V → V → Hp → VK → XK → Prop := fun a b H Q _ => ∃ n m : Int, a = .int n ∧ b = .int m ∧ Q (.bl (decide (0 ≤ n ∧ n < m))) H
def pCheck (CN : Addr) : V → V → Hp → VK → XK → Prop := fun a b H Q E => ∃ n m : Int, a = .int n ∧ b = .int m ∧ (0 ≤ n → n < m → Q .non H) ∧ (¬ (0 ≤ n ∧ n < m) → Bad CN n H E)
def pNextOf (K : PySem.W.Frag) (CN : Addr) : V → V → Hp → VK → XK → Prop := fun a b H Q E => ∃ (r : Addr) (t p m n : Int), a = .ref r ∧ b = .int n ∧ SqT K H r [.int t, .int p, .int m] ∧ Rule t p m ∧
  (0 ≤ n → n < m → Q (.int (stp t p m n)) H) ∧ (¬ (0 ≤ n ∧ n < m) → Bad CN n H E)
def pWalk (K : PySem.W.Frag) : V → V → V → Hp → VK → XK → Prop := fun a b c H Q _ => ∃ (r : Addr) (t p m s : Int) (l : Addr) (ws : List Int), a = .ref r ∧ b = .int s ∧ c = .ref l ∧ SqT K H r [.int t, .int p, .int m] ∧ Rule t p m ∧ m ≤ 1000000 ∧ 0 ≤ s ∧ s < m ∧
  H l = some (.dK (enumD 0 ws)) ∧ ws.Nodup ∧ Rng m ws ∧ Q (.int (wk (stp t p m) (m.toNat + 1 - ws.length) ws s).2) (upd H l (.dK (enumD 0 (wk (stp t p m) (m.toNat + 1 - ws.length) ws s).1)))
/-- tail and length -/
def rndW (t p m s : Int) : List Int × Int := wk (stp t p m) (m.toNat + 1) [] s
def rndT (t p m s : Int) : Int := (((rndW t p m s).1.idxOf (rndW t p m s).2 : Nat) : Int)
def rndL (t p m s : Int) : Int := ((rndW t p m s).1.length : Int) - rndT t p m s
def pRound (K : PySem.W.Frag) (CN : Addr) : V → V → Hp → VK → XK → Prop := fun a b H Q E => ∃ (r : Addr) (t p m s : Int), a = .ref r ∧ b = .int s ∧ SqT K H r [.int t, .int p, .int m] ∧ Rule t p m ∧ m ≤ 1000000 ∧
  (0 ≤ s → s < m → ∀ H' q, Same H H' → H q = none → H' q = some (.tup [.int (rndT t p m s), .int (rndL t p m s)]) → Q (.ref q) H') ∧ (¬ (0 ≤ s ∧ s < m) → Bad CN s H E)
def pRoundL (K : PySem.W.Frag) : V → V → Hp → VK → XK → Prop := fun a b H Q _ => ∃ (r : Addr) (t p m s : Int), a = .ref r ∧ b = .int s ∧ SqT K H r [.int t, .int p, .int m] ∧ Rule t p m ∧ m ≤ 1000000 ∧ 0 ≤ s ∧ s < m ∧
  ∀ H' q, Same H H' → H q = none → H' q = some (.tup [.int (rndT t p m s), .int (rndL t p m s)]) → Q (.ref q) H'
/-- a refusal that was asked for: True -/
def pRefR (K : PySem.W.Frag) : V → V → Hp → VK → XK → Prop := fun a b H Q _ => ∃ (r : Addr) (t p m n : Int), a = .ref r ∧ b = .int n ∧ SqT K H r [.int t, .int p, .int m] ∧ Rule t p m ∧ m ≤ 1000000 ∧ (n < 0 ∨ m ≤ n) ∧ ∀ H', Same H H' → Q (.bl true) H'
/-- data that are alike -/
theorem eqv_self {d : PyData} (h : SeqAt.shaped d = true) : PyData.eqv d d = true := SeqAt.eqv_refl d (SeqAt.canLay_of_shaped h)
theorem shp_sn (n : Int) : SeqAt.shaped (.tuple [.str "number", .int n]) = true := by
  have h : PyData.canLay0 (.str "number") = true := by decide +kernel
  show (PyData.canLay0 (.tuple [.str "number", .int n]) && decide (PyData.depth (.tuple [.str "number", .int n]) ≤ 64)) = true
  simp [PyData.canLay0, PyData.canLayAll0] at h ⊢
  exact ⟨h, of_decide_eq_true rfl⟩
theorem dp_ints {K : PySem.W.Frag} {H : Hp} : ∀ ns : List Int, DpAll K H (ns.map V.int) (ns.map PyData.int)
  | [] => .nil
  | n :: ns => .cons (.int n) (dp_ints ns)
/-! ### what the top has left -/
theorem top_mk {K : PySem.W.Frag} {h : Heap} {mg : Str → Option Value} {x : Str} {st : Stmt} {ps : List Str} {f : Addr} {oc : Value} {od an : Option Addr} {sl : Array (Option Value)} {kV dc pm cd ct : Value} (X : K.In h) (G : h.Ns mainGlobals mg)
    (a : PySem.W.nsIn K mainGlobals x = some (some (.ref f))) (l : K.lookup f = some ⟨oc, od, .func (PySem.W.fnOf x x (defArgs st) (defBody st) (defScope st) .none kV dc pm an cd ct), sl⟩) (c : PySem.W.codeIn K cd x = true) (k : PySem.W.keepIn K (.ref f) = true)
    (hb : ∀ (kV doc pm : Value) (an : Option Addr) (cdv ct : Value) (us : List Value), us.length = ps.length → bindArgs (PySem.W.fnOf x x (defArgs st) (defBody st) (defScope st) .none kV doc pm an cdv ct) ⟨us, []⟩ = pure (ps.zip us)) : Top K mg x st ps :=
  ⟨f, _, fun_mk l c k, PySem.W.mg_of X G a, (fun_mk l c k).binds hb⟩
end Tw

/-! Rows, and rests by taking away. -/
namespace Tw
open PySem PySem.Spec PyProof.Rows L2
def itr (f : Int → Int) : Nat → Int → Int
  | 0, x => x
  | n + 1, x => f (itr f n x)
def orb (f : Int → Int) (n : Nat) (x : Int) : List Int := (List.range n).map fun i => itr f i x
theorem orb_succ (f : Int → Int) (n : Nat) (x : Int) : orb f (n + 1) x = orb f n x ++ [itr f n x] := by
  unfold orb
  rw [List.range_succ, List.map_append]
  rfl
theorem orb_len (f : Int → Int) (n : Nat) (x : Int) : (orb f n x).length = n := by
  unfold orb
  rw [List.length_map, List.length_range]
theorem itr_rng {t p m s : Int} (m0 : 0 < m) (h : 0 ≤ s ∧ s < m) : ∀ n, 0 ≤ itr (stp t p m) n s ∧ itr (stp t p m) n s < m
  | 0 => h
  | n + 1 => stp_rng m0 _
def pRowFrom (K : PySem.W.Frag) (CN : Addr) : V → V → V → Hp → VK → XK → Prop := fun a b c H Q E => ∃ (r : Addr) (t p m s n : Int), a = .ref r ∧ b = .int s ∧ c = .int n ∧ SqT K H r [.int t, .int p, .int m] ∧ Rule t p m ∧ 0 ≤ n ∧ n ≤ 100000 ∧
  (0 ≤ s → s < m → ∀ H' q, Same H H' → H q = none → H' q = some (.tup ((orb (stp t p m) n.toNat s).map V.int)) → Q (.ref q) H') ∧ (¬ (0 ≤ s ∧ s < m) → Bad CN s H E)
def pRowLaw (K : PySem.W.Frag) : V → V → V → Hp → VK → XK → Prop := fun a b c H Q _ => ∃ (r : Addr) (t p m s n : Int), a = .ref r ∧ b = .int s ∧ c = .int n ∧ SqT K H r [.int t, .int p, .int m] ∧ Rule t p m ∧ 0 ≤ n ∧ n ≤ 100000 ∧ 0 ≤ s ∧ s < m ∧
  ∀ H' q, Same H H' → H q = none → H' q = some (.tup ((orb (stp t p m) n.toNat s).map V.int)) → Q (.ref q) H'
def pRest : V → V → Hp → VK → XK → Prop := fun a b H Q _ => ∃ x m : Int, a = .int x ∧ b = .int m ∧ 0 ≤ x ∧ x < 10000000000000000000000000 ∧ 1 ≤ m ∧ m ≤ 1000000000000 ∧ ∀ H', Same H H' → Q (.int (x % m)) H'
def pWhole2 : V → V → Hp → VK → XK → Prop := fun a b H Q _ => ∃ x : Int, a = .int x ∧ b = .int x ∧ Q (.bl true) H
def pRef2 (K : PySem.W.Frag) : V → V → V → Hp → VK → XK → Prop := fun a b c H Q _ => ∃ (r : Addr) (t p m n k : Int), a = .ref r ∧ b = .int n ∧ c = .int k ∧ SqT K H r [.int t, .int p, .int m] ∧ Rule t p m ∧ 0 ≤ k ∧ k ≤ 100000 ∧ (n < 0 ∨ m ≤ n) ∧ ∀ H', Same H H' → Q (.bl true) H'
theorem lay_ints : ∀ ns : List Int, PyData.canLayAll0 (ns.map PyData.int) = true ∧ PyData.depthAll (ns.map PyData.int) = 0
  | [] => ⟨rfl, rfl⟩
  | n :: ns => by
    obtain ⟨h1, h2⟩ := lay_ints ns
    constructor
    · show (PyData.canLay0 (.int n) && PyData.canLayAll0 (ns.map PyData.int)) = true
      rw [h1]
      rfl
    · show max (PyData.depth (.int n)) (PyData.depthAll (ns.map PyData.int)) = 0
      rw [h2]
      rfl
theorem shp_ints (ns : List Int) : SeqAt.shaped (.tuple (ns.map PyData.int)) = true := by
  obtain ⟨h1, h2⟩ := lay_ints ns
  show (PyData.canLayAll0 (ns.map PyData.int) && decide (PyData.depthAll (ns.map PyData.int) + 1 ≤ 64)) = true
  rw [h1, h2]
  rfl
theorem shp_lints (ns : List Int) : SeqAt.shaped (.list (ns.map PyData.int)) = true := by
  obtain ⟨h1, h2⟩ := lay_ints ns
  show (PyData.canLayAll0 (ns.map PyData.int) && decide (PyData.depthAll (ns.map PyData.int) + 1 ≤ 64)) = true
  rw [h1, h2]
  rfl
theorem two_pos (k : Nat) : (1 : Int) ≤ 2 ^ k := Int.pow_pos (by decide)
theorem two_small {k : Nat} {b x : Int} (hb : 1 ≤ b) (h : 2 ^ k * b ≤ x) (hx : x < 10000000000000000000000000) : k < 84 := by
  refine Nat.lt_of_not_le fun hk => ?_
  obtain ⟨j, rfl⟩ : ∃ j, k = 84 + j := ⟨k - 84, by omega⟩
  have e : (2 : Int) ^ (84 + j) = 2 ^ 84 * 2 ^ j := Int.pow_add ..
  have h1 := two_pos j
  have h2 : (2 : Int) ^ 84 * 1 ≤ 2 ^ 84 * 2 ^ j := Int.mul_le_mul_of_nonneg_left h1 (by decide)
  have h3 : (2 : Int) ^ (84 + j) * 1 ≤ 2 ^ (84 + j) * b := Int.mul_le_mul_of_nonneg_left hb (by have := two_pos (84 + j); omega)
  have h4 : (2 : Int) ^ 84 = 19342813113834066795298816 := by decide
  omega
def dbl (b : Int) (k : Nat) : List Int := (List.range (k + 1)).map fun i => 2 ^ i * b
theorem dbl_succ (b : Int) (k : Nat) : dbl b (k + 1) = dbl b k ++ [2 * (2 ^ k * b)] := by
  unfold dbl
  rw [List.range_succ (n := k + 1), List.map_append]
  show _ ++ [2 ^ (k + 1) * b] = _
  rw [Int.pow_succ, Int.mul_comm (2 ^ k) 2, Int.mul_assoc]
theorem dbl_last (b : Int) : ∀ k, ∃ l, dbl b k = l ++ [2 ^ k * b]
  | 0 => ⟨[], rfl⟩
  | k + 1 => ⟨dbl b k, by rw [dbl_succ, Int.pow_succ, Int.mul_comm (2 ^ k) 2, Int.mul_assoc]⟩
theorem dbl_len (b : Int) (k : Nat) : (dbl b k).length = k + 1 := by
  unfold dbl
  rw [List.length_map, List.length_range]
theorem dbl_rev {b : Int} {k i : Nat} (h : i ≤ k) : (dbl b k).reverse[i]? = some (2 ^ (k - i) * b) := by
  rw [List.getElem?_reverse (by rw [dbl_len]; omega), dbl_len]
  unfold dbl
  rw [List.getElem?_map, List.getElem?_range (by omega)]
  show some (2 ^ (k + 1 - 1 - i) * b) = _
  rw [show k + 1 - 1 - i = k - i by omega]
theorem two_half {b : Int} {k i : Nat} (h : i ≤ k) : (2 : Int) ^ (k + 1 - i) * b = 2 * (2 ^ (k - i) * b) := by
  rw [show k + 1 - i = (k - i) + 1 by omega, Int.pow_succ, Int.mul_comm (2 ^ (k - i)) 2, Int.mul_assoc]
end Tw

/-! zip of two and of three, lists and tuples in any mix. -/
namespace Tw
open PySem PySem.Spec PyProof.Rows L2

/-- at a stands a list, or (true) a tuple -/
def SqX (K : PySem.W.Frag) : Bool → Hp → Addr → List V → Prop
  | true => SqT K
  | false => SqL K
def ItX : Bool → Heap → Addr → Addr → Nat → Prop
  | true, h, it, a, i => h.IsTupleIter it a i
  | false, h, it, a, i => h.IsListIter it a i
def AtX : Bool → Heap → Addr → Array Value → Prop
  | true, h, a, its => h.IsTuple a its
  | false, h, a, its => h.IsList a its
theorem ItX.obj {t : Bool} {h : Heap} {it a : Addr} {i : Nat} (q : ItX t h it a i) : ∃ o, h.get? it = some o ∧ ∀ v, o.data ≠ .cell v := by
  cases t with
  | true =>
    obtain ⟨o1, e1, _, d1⟩ := q
    exact ⟨o1, e1, fun v q => by rw [d1] at q; cases q⟩
  | false =>
    obtain ⟨o1, e1, _, d1⟩ := q
    exact ⟨o1, e1, fun v q => by rw [d1] at q; cases q⟩
theorem ItX.over {t : Bool} {h h' : Heap} {it a : Addr} {i : Nat} (q : ItX t h it a i) (k : ∀ o, h.get? it = some o → h'.get? it = some o) : ItX t h' it a i := by
  cases t with
  | true => exact Heap.IsTupleIter.at q k
  | false => exact Heap.IsListIter.at q k
theorem drawsX {prog : Program} {w : World} {A : Around} (t : Bool) (hh : A.handled = none) (it a : Addr) (ne : a ≠ it) (its : Array Value) : Draws prog w A it [it, a] its.size (fun i v => its[i]? = some v) (fun i h => ItX t h it a i ∧ AtX t h a its) := by
  cases t with
  | true => exact Draws.tuple hh it a ne its
  | false => exact Draws.list hh it a ne its
theorem beginsX (t : Bool) (a : Addr) (its : Array Value) : ∃ o, Begins (.ref a) o (fun h => AtX t h a its) ∧ ∀ (h : Heap) (it : Addr), h.get? it = some o → ItX t h it a 0 := by
  cases t with
  | true => exact ⟨_, begins_tuple a its, fun h it e => ⟨_, e, rfl, rfl⟩⟩
  | false => exact ⟨_, begins_list a its, fun h it e => ⟨_, e, rfl, rfl⟩⟩
theorem valsX2 {x y : V} {us : List Value} (r : Vals [x, y] us) : ∃ u v, us = [u, v] ∧ RelV x u ∧ RelV y v := by
  cases r with
  | cons a r =>
    cases r with
    | cons b r =>
      cases r
      exact ⟨_, _, rfl, a, b⟩
theorem valsX3 {x y z : V} {us : List Value} (r : Vals [x, y, z] us) : ∃ u v w, us = [u, v, w] ∧ RelV x u ∧ RelV y v ∧ RelV z w := by
  cases r with
  | cons a r =>
    obtain ⟨u, v, rfl, b, c⟩ := valsX2 r
    exact ⟨_, _, _, rfl, a, b, c⟩
theorem neN' {a b : Nat} (h : ¬ a = b) : (a : Addr) ≠ b := h
theorem nin2 {a b c : Nat} (h : ¬ a = b) (h' : ¬ a = c) : (a : Addr) ∉ ([b, c] : List Addr) := fun m => by
  rcases List.mem_cons.mp m with e | m
  · exact h e
  · exact h' (List.mem_singleton.mp m)
theorem sepX2 (n a b : Nat) (la : a < n) (lb : b < n) : ZipSep2 (n + 4) (n + 2) (n + 3) n (n + 1) [n, a] [n + 1, b] := by
  constructor <;> first | exact List.mem_cons_self | (refine neN' ?_; omega) | (refine nin2 ?_ ?_ <;> omega)
theorem sepX3 (n a b c : Nat) (la : a < n) (lb : b < n) (lc : c < n) : ZipSep3 (n + 5) (n + 3) (n + 4) n (n + 1) (n + 2) [n, a] [n + 1, b] [n + 2, c] := by
  constructor <;> first | exact List.mem_cons_self | (refine neN' ?_; omega) | (refine nin2 ?_ ?_ <;> omega)
theorem farX (n a k : Nat) (la : a < n) : (a : Addr) ≠ n + k := by
  refine neN' ?_
  omega
theorem lo5 {n c : Nat} (h : (c : Addr) ∈ ([n + 4, n + 2, n + 3, n, n + 1] : List Addr)) : n ≤ c := by
  have h' : c ∈ ([n + 4, n + 2, n + 3, n, n + 1] : List Nat) := h
  simp at h'
  omega
theorem lo6 {n c : Nat} (h : (c : Addr) ∈ ([n + 5, n + 3, n + 4, n, n + 1, n + 2] : List Addr)) : n ≤ c := by
  have h' : c ∈ ([n + 5, n + 3, n + 4, n, n + 1, n + 2] : List Nat) := h
  simp at h'
  omega
section
variable {X : Cx} {pins : List (Addr × Obj)} {σ : L2.St} {H : Hp} {s : Shared} {t : Bool} {a : Addr} {xs ys : List V}
theorem srcX (I : Inv X pins σ H s) (q : SqX X.K t H a xs) : ∃ its : List Value, Vals xs its ∧ AtX t s.heap a its.toArray ∧ a < s.heap.objs.size := by
  cases t with
  | true =>
    obtain ⟨its, rv, p, _⟩ := I.tuple q
    obtain ⟨o1, ho1, _⟩ := id p
    exact ⟨its, rv, p, Heap.lt_size ho1⟩
  | false =>
    obtain ⟨its, rv, p, _⟩ := I.list q
    exact ⟨its, rv, p.isList, p.lt⟩
theorem injX (I : Inv X pins σ H s) (q : SqX X.K t H a xs) (q' : SqX X.K t H a ys) : xs = ys := by
  cases t with
  | true => exact I.tuple_inj q q'
  | false => exact I.list_inj q q'
end

/-! ### 2 -/
def Itx2 (K : PySem.W.Frag) (t1 t2 : Bool) (a1 a2 : Addr) : It :=
  ⟨fun i H => ∃ (l1 l2 : List V) (x1 x2 : V), SqX K t1 H a1 l1 ∧ SqX K t2 H a2 l2 ∧ l1[i]? = some x1 ∧ l2[i]? = some x2,
    fun i H v H' => ∃ T x1 x2, v = .ref T ∧ H T = none ∧ H' = upd H T (.tup [x1, x2]) ∧ (∀ l, SqX K t1 H a1 l → l[i]? = some x1) ∧ (∀ l, SqX K t2 H a2 l → l[i]? = some x2),
    fun i H => ∃ l1 l2 : List V, SqX K t1 H a1 l1 ∧ SqX K t2 H a2 l2 ∧ i ≤ l1.length ∧ i ≤ l2.length ∧ (i = l1.length ∨ i = l2.length)⟩
theorem turn_x2 {P : Program} {w : World} {K : PySem.W.Frag} {elts : List Expr} {kk : Nat} {tpos : Pos} {t1 t2 : Bool} {a1 a2 z TI TO i1 i2 : Addr} (S : ZipSep2 z TI TO i1 i2 [i1, a1] [i2, a2]) (n1 : a1 ≠ i1) (n2 : a2 ≠ i2) :
    Turn P w K (.Tuple elts kk tpos) (Itx2 K t1 t2 a1 a2) [z, TI, TO, i1, i2] z (fun i h => IsZip h z TI TO .none ∧ IsTupOf2 h TI (.ref i1) (.ref i2) ∧ (∃ y1 y2, IsTupOf2 h TO y1 y2) ∧ ItX t1 h i1 a1 i ∧ ItX t2 h i2 a2 i) where
  mem := by simp
  obj := fun i h st c hc => by
    obtain ⟨hz, hTI, ⟨y1, y2, hTO⟩, h1, h2⟩ := st
    have e' : c = z ∨ c = TI ∨ c = TO ∨ c = i1 ∨ c = i2 := by simpa using hc
    rcases e' with q | q | q | q | q
    · rw [q]; exact ⟨_, hz, fun v q => nomatch q⟩
    · rw [q]; exact ⟨_, hTI, fun v q => nomatch q⟩
    · rw [q]; exact ⟨_, hTO, fun v q => nomatch q⟩
    · rw [q]; exact h1.obj
    · rw [q]; exact h2.obj
  keep := fun i h h' st k => by
    obtain ⟨hz, hTI, ⟨y1, y2, hTO⟩, h1, h2⟩ := st
    exact ⟨k z (by simp) _ hz, k TI (by simp) _ hTI, ⟨y1, y2, k TO (by simp) _ hTO⟩, h1.over fun o q => k i1 (by simp) o q, h2.over fun o q => k i2 (by simp) o q⟩
  item := by
    intro X hP hw hK hc i pins s σ H E I hf st hg
    subst hP hw hK
    obtain ⟨hz, hTI, ⟨y1, y2, hTO⟩, h1, h2⟩ := st
    obtain ⟨l1, l2, x1, x2, q1, q2, g1, g2⟩ := hg
    obtain ⟨s1, r1, p1, _⟩ := srcX I q1
    obtain ⟨u1, w1, v1⟩ := r1.get g1
    obtain ⟨s2, r2, p2, _⟩ := srcX I q2
    obtain ⟨u2, w2, v2⟩ := r2.get g2
    have hh : X.A.in1.handled = none := I.ok.hd hc
    have hzl : z < s.heap.objs.size := Heap.lt_size hz
    refine wpAny_pyNext_zipD2_item S (drawsX t1 hh i1 a1 n1 s1.toArray) (drawsX t2 hh i2 a2 n2 s2.toArray) hz hTI hTO ⟨h1, p1⟩ ⟨h2, p2⟩ (by have := (List.getElem?_eq_some_iff.mp w1).1; simpa using this) (by have := (List.getElem?_eq_some_iff.mp w2).1; simpa using this) fun z1 z2 h' tk e1 e2 z' TO' k1 k2 hT hsz hk => ?_
    obtain rfl : z1 = u1 := by
      rw [List.getElem?_toArray] at e1
      exact Option.some.inj (e1.symm.trans w1)
    obtain rfl : z2 = u2 := by
      rw [List.getElem?_toArray] at e2
      exact Option.some.inj (e2.symm.trans w2)
    refine ⟨_, rfl, wpAny_letOwnedTupleGo_zip (s := { s with heap := h', toks := tk }) z' fun h'' z'' sb => ?_⟩
    have hT2 : h''.get? s.heap.objs.size = some { cls := .type "tuple", data := .seq #[z1, z2] } := (sb.2 _ (Nat.ne_of_gt hzl)).trans hT
    have new : ObjOk X.prog X.w (upd H s.heap.objs.size (.tup [x1, x2])) h'' s.heap.objs.size (.tup [x1, x2]) :=
      ⟨by show 2 ≤ sizeLine; decide, [z1, z2], .cons v1 (.cons v2 .nil), ⟨_, hT2, rfl, _, rfl⟩⟩
    have I1 : Inv X pins σ (upd H s.heap.objs.size (.tup [x1, x2])) { s with heap := h'', toks := tk } :=
      I.turnedNew (t' := tk) (ch := [z, TI, TO, i1, i2]) (fun c o hb q => (sb.2 c (fun q' => hb (by simp [q']))).trans (hk c o (fun q' => hb (by simp [q'])) (fun q' => hb (by simp [q'])) (fun q' => hb (by simp [q'])) (fun q' => hb (by simp [q'])) q)) hf (Nat.le_refl _) new
    refine ⟨.ref s.heap.objs.size, _, I1, rfl, ⟨_, x1, x2, rfl, I.hok.fresh (Nat.le_refl _), rfl, fun l hl => by rw [injX I hl q1]; exact g1, fun l hl => by rw [injX I hl q2]; exact g2⟩, ⟨z'', ?_, ⟨z1, z2, ?_⟩, ?_, ?_⟩, fun c hcm => ?_⟩
    · exact (sb.2 _ S.TIz).trans (hk _ _ S.TIz S.TITO S.TIi1 S.TIi2 hTI)
    · exact (sb.2 _ S.TOz).trans TO'
    · exact k1.1.over fun o q => (sb.2 _ (Ne.symm S.zi1)).trans q
    · exact k2.1.over fun o q => (sb.2 _ (Ne.symm S.zi2)).trans q
    · have hlt : c < s.heap.objs.size := by
        have e' : c = z ∨ c = TI ∨ c = TO ∨ c = i1 ∨ c = i2 := by simpa using hcm
        rcases e' with q | q | q | q | q
        · rw [q]; exact hzl
        · rw [q]; exact Heap.lt_size hTI
        · rw [q]; exact Heap.lt_size hTO
        · rw [q]; obtain ⟨_, e1, _⟩ := h1.obj; exact Heap.lt_size e1
        · rw [q]; obtain ⟨_, e1, _⟩ := h2.obj; exact Heap.lt_size e1
      rw [upd_ne (Nat.ne_of_lt hlt)]
      exact (hf c hcm).1
  done := by
    intro X hP hw hK hc i pins s σ H E I hf st hg
    subst hP hw hK
    obtain ⟨hz, hTI, ⟨y1, y2, hTO⟩, h1, h2⟩ := st
    obtain ⟨l1, l2, q1, q2, b1, b2, hend⟩ := hg
    obtain ⟨s1, r1, p1, _⟩ := srcX I q1
    have c1 := r1.length
    obtain ⟨s2, r2, p2, _⟩ := srcX I q2
    have c2 := r2.length
    have hh : X.A.in1.handled = none := I.ok.hd hc
    refine wpAny_pyNext_zipD2_end S (drawsX t1 hh i1 a1 n1 s1.toArray) (drawsX t2 hh i2 a2 n2 s2.toArray) hz hTI hTO ⟨h1, p1⟩ ⟨h2, p2⟩ (by simp only [List.size_toArray]; omega) (by simp only [List.size_toArray]; omega) ?_ fun h' tk hk => ⟨rfl, I.turnedL (t' := tk) (ch := [z, TI, TO, i1, i2]) (fun c o hb q =>
      hk c o (fun q' => hb (by simp [q'])) (fun q' => hb (by simp [q'])) (fun q' => hb (by simp [q'])) (fun q' => hb (by simp [q'])) q) hf⟩
    simp only [List.size_toArray]
    omega
  self := fun A i s Q E st h => wpAny_pyIter_zip st.1 h
def iX2 (K : PySem.W.Frag) (ta : TA) : TI := fun σ H R => ta σ H fun vs H1 => ∃ (t1 t2 : Bool) (a1 a2 : Addr) (l1 l2 : List V), vs = [.ref a1, .ref a2] ∧ SqX K t1 H1 a1 l1 ∧ SqX K t2 H1 a2 l2 ∧ R (Itx2 K t1 t2 a1 a2) H1
theorem pi_x2 {X : Cx} {e1 e2 : Expr} {ta : TA} {p pos tpos : Pos} {elts : List Expr} {kk : Nat} (hg : Gl X "zip") (hm : X.mg "zip" = none) (ha : PA X [e1, e2] ta)
    (hs : starEach [e1, e2] X.env = (false, eval e1 X.env) :: starEach [e2] X.env := by rfl) (hpl : (backTo pos (starEach [e2] X.env)).any (·.1) = false := by rfl) :
    PI X (.Tuple elts kk tpos) (.Call (.Name "zip" p) [e1, e2] [] pos) (iX2 X.K ta) := by
  refine ⟨fun pins s σ H R I h => ?_⟩
  refine Call_ (ld_blt I hg hm PyProof.Rows.boot_zip (PyProof.Rows.callWith_type1 (thn (ha.run pos pins s σ H _ I h) fun us s1 ⟨vs, H1, I1, r1, q1⟩ => ?_) hs hpl))
  obtain ⟨t1, t2, a1, a2, l1, l2, ex, q1, q2, q⟩ := q1
  subst ex
  obtain ⟨u1, u2, rfl, ru1, ru2⟩ := valsX2 r1
  obtain rfl : u1 = Value.ref a1 := ru1
  obtain rfl : u2 = Value.ref a2 := ru2
  obtain ⟨ss1, r1, p1, lt1⟩ := srcX I1 q1
  obtain ⟨o1, B1, b1⟩ := beginsX t1 a1 ss1.toArray
  obtain ⟨ss2, r2, p2, lt2⟩ := srcX I1 q2
  obtain ⟨o2, B2, b2⟩ := beginsX t2 a2 ss2.toArray
  refine zip_begins2 B1 B2 p1 p2 fun h' hz hTI hTO g1 g2 hsz hk => wpAny_pyIter_zip hz ?_
  have I2 : Inv X pins σ H1 { s1 with heap := h' } := I1.kept (t' := s1.toks) hk
  refine ⟨s1.heap.objs.size + 4, [s1.heap.objs.size + 4, s1.heap.objs.size + 2, s1.heap.objs.size + 3, s1.heap.objs.size, s1.heap.objs.size + 1], _, _, H1, rfl, I2, turn_x2 (sepX2 _ _ _ lt1 lt2) (farX _ _ 0 lt1) (farX _ _ 1 lt2), ⟨hz, hTI, ⟨_, _, hTO⟩, b1 _ _ g1, b2 _ _ g2⟩, fun c hcm => ?_, q⟩
  have hle : s1.heap.objs.size ≤ c := lo5 hcm
  exact I1.fpOk hle (I1.hok.fresh hle)
theorem walk_x2 {K : PySem.W.Frag} {t1 t2 : Bool} {a1 a2 : Addr} {l1 l2 : List V} {n : Nat} (hn : n = min l1.length l2.length) : Walk (Itx2 K t1 t2 a1 a2) n (fun H => SqX K t1 H a1 l1 ∧ SqX K t2 H a2 l2) (fun i H v H' => ∃ T x1 x2, v = .ref T ∧ H T = none ∧ H' = upd H T (.tup [x1, x2]) ∧ l1[i]? = some x1 ∧ l2[i]? = some x2) := by
  subst hn
  refine ⟨fun i _ hi q => ?_, fun _ q => ⟨l1, l2, q.1, q.2, ?_⟩, fun i H v H' _ q y => ?_⟩
  · have h1 : i < l1.length := by omega
    have h2 : i < l2.length := by omega
    exact ⟨l1, l2, l1[i], l2[i], q.1, q.2, by simp [h1], by simp [h2]⟩
  · omega
  · obtain ⟨T, x1, x2, e1, e2, e3, f1, f2⟩ := y
    exact ⟨T, x1, x2, e1, e2, e3, f1 _ q.1, f2 _ q.2⟩

/-! ### 3 -/
def Itx3 (K : PySem.W.Frag) (t1 t2 t3 : Bool) (a1 a2 a3 : Addr) : It :=
  ⟨fun i H => ∃ (l1 l2 l3 : List V) (x1 x2 x3 : V), SqX K t1 H a1 l1 ∧ SqX K t2 H a2 l2 ∧ SqX K t3 H a3 l3 ∧ l1[i]? = some x1 ∧ l2[i]? = some x2 ∧ l3[i]? = some x3,
    fun i H v H' => ∃ T x1 x2 x3, v = .ref T ∧ H T = none ∧ H' = upd H T (.tup [x1, x2, x3]) ∧ (∀ l, SqX K t1 H a1 l → l[i]? = some x1) ∧ (∀ l, SqX K t2 H a2 l → l[i]? = some x2) ∧ (∀ l, SqX K t3 H a3 l → l[i]? = some x3),
    fun i H => ∃ l1 l2 l3 : List V, SqX K t1 H a1 l1 ∧ SqX K t2 H a2 l2 ∧ SqX K t3 H a3 l3 ∧ i ≤ l1.length ∧ i ≤ l2.length ∧ i ≤ l3.length ∧ (i = l1.length ∨ i = l2.length ∨ i = l3.length)⟩
theorem turn_x3 {P : Program} {w : World} {K : PySem.W.Frag} {elts : List Expr} {kk : Nat} {tpos : Pos} {t1 t2 t3 : Bool} {a1 a2 a3 z TI TO i1 i2 i3 : Addr} (S : ZipSep3 z TI TO i1 i2 i3 [i1, a1] [i2, a2] [i3, a3]) (n1 : a1 ≠ i1) (n2 : a2 ≠ i2) (n3 : a3 ≠ i3) :
    Turn P w K (.Tuple elts kk tpos) (Itx3 K t1 t2 t3 a1 a2 a3) [z, TI, TO, i1, i2, i3] z (fun i h => IsZip h z TI TO .none ∧ IsTupOf3 h TI (.ref i1) (.ref i2) (.ref i3) ∧ (∃ y1 y2 y3, IsTupOf3 h TO y1 y2 y3) ∧ ItX t1 h i1 a1 i ∧ ItX t2 h i2 a2 i ∧ ItX t3 h i3 a3 i) where
  mem := by simp
  obj := fun i h st c hc => by
    obtain ⟨hz, hTI, ⟨y1, y2, y3, hTO⟩, h1, h2, h3⟩ := st
    have e' : c = z ∨ c = TI ∨ c = TO ∨ c = i1 ∨ c = i2 ∨ c = i3 := by simpa using hc
    rcases e' with q | q | q | q | q | q
    · rw [q]; exact ⟨_, hz, fun v q => nomatch q⟩
    · rw [q]; exact ⟨_, hTI, fun v q => nomatch q⟩
    · rw [q]; exact ⟨_, hTO, fun v q => nomatch q⟩
    · rw [q]; exact h1.obj
    · rw [q]; exact h2.obj
    · rw [q]; exact h3.obj
  keep := fun i h h' st k => by
    obtain ⟨hz, hTI, ⟨y1, y2, y3, hTO⟩, h1, h2, h3⟩ := st
    exact ⟨k z (by simp) _ hz, k TI (by simp) _ hTI, ⟨y1, y2, y3, k TO (by simp) _ hTO⟩, h1.over fun o q => k i1 (by simp) o q, h2.over fun o q => k i2 (by simp) o q, h3.over fun o q => k i3 (by simp) o q⟩
  item := by
    intro X hP hw hK hc i pins s σ H E I hf st hg
    subst hP hw hK
    obtain ⟨hz, hTI, ⟨y1, y2, y3, hTO⟩, h1, h2, h3⟩ := st
    obtain ⟨l1, l2, l3, x1, x2, x3, q1, q2, q3, g1, g2, g3⟩ := hg
    obtain ⟨s1, r1, p1, _⟩ := srcX I q1
    obtain ⟨u1, w1, v1⟩ := r1.get g1
    obtain ⟨s2, r2, p2, _⟩ := srcX I q2
    obtain ⟨u2, w2, v2⟩ := r2.get g2
    obtain ⟨s3, r3, p3, _⟩ := srcX I q3
    obtain ⟨u3, w3, v3⟩ := r3.get g3
    have hh : X.A.in1.handled = none := I.ok.hd hc
    have hzl : z < s.heap.objs.size := Heap.lt_size hz
    refine wpAny_pyNext_zipD3_item S (drawsX t1 hh i1 a1 n1 s1.toArray) (drawsX t2 hh i2 a2 n2 s2.toArray) (drawsX t3 hh i3 a3 n3 s3.toArray) hz hTI hTO ⟨h1, p1⟩ ⟨h2, p2⟩ ⟨h3, p3⟩ (by have := (List.getElem?_eq_some_iff.mp w1).1; simpa using this) (by have := (List.getElem?_eq_some_iff.mp w2).1; simpa using this) (by have := (List.getElem?_eq_some_iff.mp w3).1; simpa using this) fun z1 z2 z3 h' tk e1 e2 e3 z' TO' k1 k2 k3 hT hsz hk => ?_
    obtain rfl : z1 = u1 := by
      rw [List.getElem?_toArray] at e1
      exact Option.some.inj (e1.symm.trans w1)
    obtain rfl : z2 = u2 := by
      rw [List.getElem?_toArray] at e2
      exact Option.some.inj (e2.symm.trans w2)
    obtain rfl : z3 = u3 := by
      rw [List.getElem?_toArray] at e3
      exact Option.some.inj (e3.symm.trans w3)
    refine ⟨_, rfl, wpAny_letOwnedTupleGo_zip (s := { s with heap := h', toks := tk }) z' fun h'' z'' sb => ?_⟩
    have hT2 : h''.get? s.heap.objs.size = some { cls := .type "tuple", data := .seq #[z1, z2, z3] } := (sb.2 _ (Nat.ne_of_gt hzl)).trans hT
    have new : ObjOk X.prog X.w (upd H s.heap.objs.size (.tup [x1, x2, x3])) h'' s.heap.objs.size (.tup [x1, x2, x3]) :=
      ⟨by show 3 ≤ sizeLine; decide, [z1, z2, z3], .cons v1 (.cons v2 (.cons v3 .nil)), ⟨_, hT2, rfl, _, rfl⟩⟩
    have I1 : Inv X pins σ (upd H s.heap.objs.size (.tup [x1, x2, x3])) { s with heap := h'', toks := tk } :=
      I.turnedNew (t' := tk) (ch := [z, TI, TO, i1, i2, i3]) (fun c o hb q => (sb.2 c (fun q' => hb (by simp [q']))).trans (hk c o (fun q' => hb (by simp [q'])) (fun q' => hb (by simp [q'])) (fun q' => hb (by simp [q'])) (fun q' => hb (by simp [q'])) (fun q' => hb (by simp [q'])) q)) hf (Nat.le_refl _) new
    refine ⟨.ref s.heap.objs.size, _, I1, rfl, ⟨_, x1, x2, x3, rfl, I.hok.fresh (Nat.le_refl _), rfl, fun l hl => by rw [injX I hl q1]; exact g1, fun l hl => by rw [injX I hl q2]; exact g2, fun l hl => by rw [injX I hl q3]; exact g3⟩, ⟨z'', ?_, ⟨z1, z2, z3, ?_⟩, ?_, ?_, ?_⟩, fun c hcm => ?_⟩
    · exact (sb.2 _ S.TIz).trans (hk _ _ S.TIz S.TITO S.TIi1 S.TIi2 S.TIi3 hTI)
    · exact (sb.2 _ S.TOz).trans TO'
    · exact k1.1.over fun o q => (sb.2 _ (Ne.symm S.zi1)).trans q
    · exact k2.1.over fun o q => (sb.2 _ (Ne.symm S.zi2)).trans q
    · exact k3.1.over fun o q => (sb.2 _ (Ne.symm S.zi3)).trans q
    · have hlt : c < s.heap.objs.size := by
        have e' : c = z ∨ c = TI ∨ c = TO ∨ c = i1 ∨ c = i2 ∨ c = i3 := by simpa using hcm
        rcases e' with q | q | q | q | q | q
        · rw [q]; exact hzl
        · rw [q]; exact Heap.lt_size hTI
        · rw [q]; exact Heap.lt_size hTO
        · rw [q]; obtain ⟨_, e1, _⟩ := h1.obj; exact Heap.lt_size e1
        · rw [q]; obtain ⟨_, e1, _⟩ := h2.obj; exact Heap.lt_size e1
        · rw [q]; obtain ⟨_, e1, _⟩ := h3.obj; exact Heap.lt_size e1
      rw [upd_ne (Nat.ne_of_lt hlt)]
      exact (hf c hcm).1
  done := by
    intro X hP hw hK hc i pins s σ H E I hf st hg
    subst hP hw hK
    obtain ⟨hz, hTI, ⟨y1, y2, y3, hTO⟩, h1, h2, h3⟩ := st
    obtain ⟨l1, l2, l3, q1, q2, q3, b1, b2, b3, hend⟩ := hg
    obtain ⟨s1, r1, p1, _⟩ := srcX I q1
    have c1 := r1.length
    obtain ⟨s2, r2, p2, _⟩ := srcX I q2
    have c2 := r2.length
    obtain ⟨s3, r3, p3, _⟩ := srcX I q3
    have c3 := r3.length
    have hh : X.A.in1.handled = none := I.ok.hd hc
    refine wpAny_pyNext_zipD3_end S (drawsX t1 hh i1 a1 n1 s1.toArray) (drawsX t2 hh i2 a2 n2 s2.toArray) (drawsX t3 hh i3 a3 n3 s3.toArray) hz hTI hTO ⟨h1, p1⟩ ⟨h2, p2⟩ ⟨h3, p3⟩ (by simp only [List.size_toArray]; omega) (by simp only [List.size_toArray]; omega) (by simp only [List.size_toArray]; omega) ?_ fun h' tk hk => ⟨rfl, I.turnedL (t' := tk) (ch := [z, TI, TO, i1, i2, i3]) (fun c o hb q =>
      hk c o (fun q' => hb (by simp [q'])) (fun q' => hb (by simp [q'])) (fun q' => hb (by simp [q'])) (fun q' => hb (by simp [q'])) (fun q' => hb (by simp [q'])) q) hf⟩
    simp only [List.size_toArray]
    omega
  self := fun A i s Q E st h => wpAny_pyIter_zip st.1 h
def iX3 (K : PySem.W.Frag) (ta : TA) : TI := fun σ H R => ta σ H fun vs H1 => ∃ (t1 t2 t3 : Bool) (a1 a2 a3 : Addr) (l1 l2 l3 : List V), vs = [.ref a1, .ref a2, .ref a3] ∧ SqX K t1 H1 a1 l1 ∧ SqX K t2 H1 a2 l2 ∧ SqX K t3 H1 a3 l3 ∧ R (Itx3 K t1 t2 t3 a1 a2 a3) H1
theorem pi_x3 {X : Cx} {e1 e2 e3 : Expr} {ta : TA} {p pos tpos : Pos} {elts : List Expr} {kk : Nat} (hg : Gl X "zip") (hm : X.mg "zip" = none) (ha : PA X [e1, e2, e3] ta)
    (hs : starEach [e1, e2, e3] X.env = (false, eval e1 X.env) :: starEach [e2, e3] X.env := by rfl) (hpl : (backTo pos (starEach [e2, e3] X.env)).any (·.1) = false := by rfl) :
    PI X (.Tuple elts kk tpos) (.Call (.Name "zip" p) [e1, e2, e3] [] pos) (iX3 X.K ta) := by
  refine ⟨fun pins s σ H R I h => ?_⟩
  refine Call_ (ld_blt I hg hm PyProof.Rows.boot_zip (PyProof.Rows.callWith_type1 (thn (ha.run pos pins s σ H _ I h) fun us s1 ⟨vs, H1, I1, r1, q1⟩ => ?_) hs hpl))
  obtain ⟨t1, t2, t3, a1, a2, a3, l1, l2, l3, ex, q1, q2, q3, q⟩ := q1
  subst ex
  obtain ⟨u1, u2, u3, rfl, ru1, ru2, ru3⟩ := valsX3 r1
  obtain rfl : u1 = Value.ref a1 := ru1
  obtain rfl : u2 = Value.ref a2 := ru2
  obtain rfl : u3 = Value.ref a3 := ru3
  obtain ⟨ss1, r1, p1, lt1⟩ := srcX I1 q1
  obtain ⟨o1, B1, b1⟩ := beginsX t1 a1 ss1.toArray
  obtain ⟨ss2, r2, p2, lt2⟩ := srcX I1 q2
  obtain ⟨o2, B2, b2⟩ := beginsX t2 a2 ss2.toArray
  obtain ⟨ss3, r3, p3, lt3⟩ := srcX I1 q3
  obtain ⟨o3, B3, b3⟩ := beginsX t3 a3 ss3.toArray
  refine zip_begins3 B1 B2 B3 p1 p2 p3 fun h' hz hTI hTO g1 g2 g3 hsz hk => wpAny_pyIter_zip hz ?_
  have I2 : Inv X pins σ H1 { s1 with heap := h' } := I1.kept (t' := s1.toks) hk
  refine ⟨s1.heap.objs.size + 5, [s1.heap.objs.size + 5, s1.heap.objs.size + 3, s1.heap.objs.size + 4, s1.heap.objs.size, s1.heap.objs.size + 1, s1.heap.objs.size + 2], _, _, H1, rfl, I2, turn_x3 (sepX3 _ _ _ _ lt1 lt2 lt3) (farX _ _ 0 lt1) (farX _ _ 1 lt2) (farX _ _ 2 lt3), ⟨hz, hTI, ⟨_, _, _, hTO⟩, b1 _ _ g1, b2 _ _ g2, b3 _ _ g3⟩, fun c hcm => ?_, q⟩
  have hle : s1.heap.objs.size ≤ c := lo6 hcm
  exact I1.fpOk hle (I1.hok.fresh hle)
theorem walk_x3 {K : PySem.W.Frag} {t1 t2 t3 : Bool} {a1 a2 a3 : Addr} {l1 l2 l3 : List V} {n : Nat} (hn : n = min (min l1.length l2.length) l3.length) : Walk (Itx3 K t1 t2 t3 a1 a2 a3) n (fun H => SqX K t1 H a1 l1 ∧ SqX K t2 H a2 l2 ∧ SqX K t3 H a3 l3) (fun i H v H' => ∃ T x1 x2 x3, v = .ref T ∧ H T = none ∧ H' = upd H T (.tup [x1, x2, x3]) ∧ l1[i]? = some x1 ∧ l2[i]? = some x2 ∧ l3[i]? = some x3) := by
  subst hn
  refine ⟨fun i _ hi q => ?_, fun _ q => ⟨l1, l2, l3, q.1, q.2.1, q.2.2, ?_⟩, fun i H v H' _ q y => ?_⟩
  · have h1 : i < l1.length := by omega
    have h2 : i < l2.length := by omega
    have h3 : i < l3.length := by omega
    exact ⟨l1, l2, l3, l1[i], l2[i], l3[i], q.1, q.2.1, q.2.2, by simp [h1], by simp [h2], by simp [h3]⟩
  · omega
  · obtain ⟨T, x1, x2, x3, e1, e2, e3, f1, f2, f3⟩ := y
    exact ⟨T, x1, x2, x3, e1, e2, e3, f1 _ q.1, f2 _ q.2.1, f3 _ q.2.2⟩
theorem tup_in {X : Cx} {K : PySem.W.Frag} {es : List Expr} {k : Nat} {t : TGs} {n : Nat} {pos : Pos} (hK : X.K = K) (hc : X.calm = true) (h : PGs X es t) (k1 : (assignEach es X.env).length = n := by rfl) (k2 : (assignEach es X.env).findIdx? (·.1) = none := by rfl) : PG X (.Tuple es k pos) (gTup K n t) := by
  subst hK
  exact pg_tup hc h k1 k2
end Tw

/-! Powers, sums of powers, common divisors, inverses. -/
namespace Tw
open PySem PySem.Spec PyProof.Rows L2
def geo (t : Int) : Nat → Int
  | 0 => 0
  | n + 1 => geo t n + t ^ n
theorem geo_add (t : Int) (a : Nat) : ∀ b, geo t (a + b) = geo t a + t ^ a * geo t b
  | 0 => by show geo t a = geo t a + t ^ a * 0; grind
  | b + 1 => by
    show geo t (a + b) + t ^ (a + b) = geo t a + t ^ a * (geo t b + t ^ b)
    rw [geo_add t a b, Int.pow_add]
    grind
theorem geo_mul (t : Int) : ∀ n, (t - 1) * geo t n = t ^ n - 1
  | 0 => by rw [Int.pow_zero]; show (t - 1) * 0 = 1 - 1; grind
  | n + 1 => by
    have ih := geo_mul t n
    show (t - 1) * (geo t n + t ^ n) = t ^ (n + 1) - 1
    rw [Int.pow_succ]
    grind
/-- what a rule of n steps is -/
def rsT (t m : Int) (n : Nat) : Int := t ^ n % m
def rsP (t p m : Int) (n : Nat) : Int := p * geo t n % m
theorem rs_T (t m : Int) (a c : Nat) : rsT t m c * rsT t m a % m = rsT t m (a + c) := by
  unfold rsT
  rw [← Int.mul_emod, Int.pow_add, Int.mul_comm]
theorem rs_P (t p m : Int) (a c : Nat) : (rsT t m c * rsP t p m a + rsP t p m c) % m = rsP t p m (a + c) := by
  unfold rsT rsP
  rw [Int.add_emod, Int.emod_emod, ← Int.mul_emod, ← Int.add_emod, Nat.add_comm a c, geo_add]
  congr 1
  grind
theorem rs_rng {t p m : Int} (h : 0 < m) (n : Nat) : (0 ≤ rsT t m n ∧ rsT t m n < m) ∧ 0 ≤ rsP t p m n ∧ rsP t p m n < m := ⟨mod_bd _ h, mod_bd _ h⟩
theorem Rule.rs {t p m : Int} (R : Rule t p m) (n : Nat) : Rule (rsT t m n) (rsP t p m n) m :=
  have h := rs_rng (t := t) (p := p) (show 0 < m by have := R.b1; omega) n
  ⟨R.b1, R.b2, h.1.1, h.1.2, h.2.1, h.2.2⟩
/-- ahead -/
def ahd (t p m : Int) (n : Nat) (x : Int) : Int := (t ^ n * x + p * geo t n) % m
theorem stp_rs (t p m : Int) (n : Nat) (x : Int) : stp (rsT t m n) (rsP t p m n) m x = ahd t p m n x := by
  unfold stp rsT rsP ahd
  rw [Int.add_emod_emod, Int.add_emod, Int.mul_emod, Int.emod_emod, ← Int.mul_emod, ← Int.add_emod]
theorem ahd_rng {t p m : Int} (h : 0 < m) (n : Nat) (x : Int) : 0 ≤ ahd t p m n x ∧ ahd t p m n x < m := mod_bd _ h
/-- the number from which n steps lead to s -/
def Back (t p m : Int) (n : Nat) (s y : Int) : Prop := 0 ≤ y ∧ y < m ∧ ahd t p m n y = s
theorem cop_pow {t m : Int} (h : Int.gcd t m = 1) (n : Nat) : Nat.Coprime m.natAbs (t ^ n).natAbs := by
  rw [Int.natAbs_pow]
  exact (Nat.Coprime.pow_left n (show Nat.Coprime t.natAbs m.natAbs from h)).symm
theorem Back.uniq {t p m : Int} {n : Nat} {s y z : Int} (hc : Int.gcd t m = 1) (h : Back t p m n s y) (k : Back t p m n s z) : y = z := by
  obtain ⟨y0, y1, ye⟩ := h
  obtain ⟨z0, z1, ze⟩ := k
  have e : (t ^ n * y + p * geo t n) % m = (t ^ n * z + p * geo t n) % m := ye.trans ze.symm
  have e2 := Int.emod_eq_emod_iff_emod_sub_eq_zero.mp e
  have e3 : m ∣ t ^ n * (y - z) := by
    have := Int.dvd_of_emod_eq_zero e2
    rw [show t ^ n * (y - z) = t ^ n * y + p * geo t n - (t ^ n * z + p * geo t n) by grind]
    exact this
  have e4 : m.natAbs ∣ (y - z).natAbs := by
    have h1 := Int.natAbs_dvd_natAbs.mpr e3
    rw [Int.natAbs_mul] at h1
    exact Nat.Coprime.dvd_of_dvd_mul_left (cop_pow hc n) h1
  have e5 : (y - z).natAbs = 0 := Nat.eq_zero_of_dvd_of_lt e4 (by omega)
  omega
/-- undone by the inverse -/
theorem back_of {t p m u : Int} (m0 : 0 < m) (hu : t * u % m = 1 % m) (s : Int) (s0 : 0 ≤ s) (s1 : s < m) : ∀ n : Nat, Back t p m n s (ahd u (-u * p % m) m n s) := by
  intro n
  refine ⟨(ahd_rng m0 n s).1, (ahd_rng m0 n s).2, ?_⟩
  obtain ⟨e, he⟩ := Int.dvd_of_emod_eq_zero (Int.emod_eq_emod_iff_emod_sub_eq_zero.mp hu)
  have htu : t * u = m * e + 1 := by omega
  have key : ∀ k : Nat, m ∣ t ^ k * (u ^ k * s + (-u * p) * geo u k) + p * geo t k - s := by
    intro k
    induction k with
    | zero =>
      rw [Int.pow_zero, Int.pow_zero]
      show m ∣ 1 * (1 * s + (-u * p) * 0) + p * 0 - s
      exact ⟨0, by grind⟩
    | succ k ih =>
      obtain ⟨c, hc⟩ := ih
      have g1 : geo u (k + 1) = 1 + u * geo u k := by
        rw [Nat.add_comm, geo_add]
        show 0 + u ^ 0 + u ^ 1 * geo u k = _
        rw [Int.pow_zero, Int.pow_one]
        grind
      have g2 : geo t (k + 1) = geo t k + t ^ k := rfl
      rw [g1, g2, Int.pow_succ, Int.pow_succ]
      generalize u ^ k = U at *
      generalize t ^ k = T at *
      generalize geo u k = G at *
      generalize geo t k = J at *
      refine ⟨c + T * e * (U * s + (-u * p) * G - p), ?_⟩
      have e1 : T * t * (U * u * s + -u * p * (1 + u * G)) + p * (J + T) - s = T * ((t * u) * (U * s + -u * p * G - p) + p) + p * J - s := by grind
      rw [e1, htu]
      have e2 : T * ((m * e + 1) * (U * s + -u * p * G - p) + p) + p * J - s = (T * (U * s + -u * p * G) + p * J - s) + m * (T * e * (U * s + -u * p * G - p)) := by grind
      rw [e2, hc]
      grind
  obtain ⟨c, hc⟩ := key n
  have hy : ∃ b, ahd u (-u * p % m) m n s = (u ^ n * s + (-u * p) * geo u n) + m * b := by
    unfold ahd
    have a1 := Int.mul_ediv_add_emod (u ^ n * s + (-u * p % m) * geo u n) m
    have a2 := Int.mul_ediv_add_emod (-u * p) m
    refine ⟨-((u ^ n * s + (-u * p % m) * geo u n) / m) - (-u * p / m) * geo u n, ?_⟩
    generalize (u ^ n * s + (-u * p % m) * geo u n) / m = d1 at *
    generalize (u ^ n * s + (-u * p % m) * geo u n) % m = d2 at *
    generalize -u * p / m = d3 at *
    generalize -u * p % m = d4 at *
    grind
  obtain ⟨b, hb⟩ := hy
  rw [hb]
  show (t ^ n * (u ^ n * s + -u * p * geo u n + m * b) + p * geo t n) % m = s
  have e3 : t ^ n * (u ^ n * s + -u * p * geo u n + m * b) + p * geo t n = s + m * (c + t ^ n * b) := by grind
  rw [e3, Int.add_mul_emod_self_left]
  exact Int.emod_eq_of_lt s0 s1
/-! ### common divisors -/
theorem gcd_step {x y : Int} (h0 : 0 ≤ x) (h1 : 0 < y) : Int.gcd y (x % y) = Int.gcd x y := by
  obtain ⟨a, rfl⟩ := Int.eq_ofNat_of_zero_le h0
  obtain ⟨b, rfl⟩ := Int.eq_ofNat_of_zero_le (Int.le_of_lt h1)
  show Nat.gcd b ((a : Int) % (b : Int)).natAbs = Nat.gcd a b
  rw [← Int.natCast_emod, Int.natAbs_natCast, Nat.gcd_comm b, ← Nat.gcd_rec, Nat.gcd_comm]
/-! ### powers by squaring -/
theorem sq_pow (t : Int) (n : Nat) : t ^ n = (if n % 2 = 1 then t else 1) * (t * t) ^ (n / 2) := by
  have e : n = 2 * (n / 2) + n % 2 := by omega
  have h2 : (t * t) ^ (n / 2) = t ^ (2 * (n / 2)) := by rw [Int.pow_mul, show t ^ 2 = t * t by rw [Int.pow_succ, Int.pow_one]]
  rw [h2]
  by_cases h : n % 2 = 1
  · rw [if_pos h]
    conv => lhs; rw [e, h, Int.pow_succ]
    exact Int.mul_comm _ _
  · rw [if_neg h, Int.one_mul]
    conv => lhs; rw [e, show n % 2 = 0 by omega, Nat.add_zero]
/-- the law's sum of powers, by a power of the bound times one less -/
theorem shares {t m P : Int} {n : Nat} (m0 : 0 < m) (t2 : 2 ≤ t) (hP : P = t ^ n % (m * (t - 1))) : P % m = t ^ n % m ∧ (P - 1) / (t - 1) % m = geo t n % m := by
  have d1 := Int.mul_ediv_add_emod (t ^ n) (m * (t - 1))
  rw [← hP] at d1
  have g := geo_mul t n
  constructor
  · rw [hP, Int.emod_emod_of_dvd _ ⟨t - 1, rfl⟩]
  · have e : P - 1 = (t - 1) * (geo t n - m * (t ^ n / (m * (t - 1)))) := by
      generalize t ^ n / (m * (t - 1)) = q at *
      grind
    rw [e, Int.mul_ediv_cancel_left _ (by omega)]
    rw [Int.sub_emod, Int.mul_emod_right, Int.sub_zero, Int.emod_emod]
theorem pow_zero_pos {n : Nat} (h : 0 < n) : (0 : Int) ^ n = 0 := by
  obtain ⟨k, rfl⟩ : ∃ k, n = k + 1 := ⟨n - 1, by omega⟩
  rw [Int.pow_succ, Int.mul_zero]
theorem geo_zero : ∀ {n : Nat}, 0 < n → geo 0 n = 1
  | 1, _ => by show (0 : Int) + 0 ^ 0 = 1; rw [Int.pow_zero]; rfl
  | n + 2, _ => by
    show geo 0 (n + 1) + 0 ^ (n + 1) = 1
    rw [geo_zero (Nat.succ_pos n), pow_zero_pos (Nat.succ_pos n)]
    rfl
theorem geo_one : ∀ n : Nat, geo 1 n = n
  | 0 => rfl
  | n + 1 => by
    show geo 1 n + 1 ^ n = ((n + 1 : Nat) : Int)
    rw [geo_one n, Int.one_pow]
    rfl
/-! ### promises -/
def pGcd : V → V → Hp → VK → XK → Prop := fun a b H Q _ => ∃ x y : Int, a = .int x ∧ b = .int y ∧ 0 ≤ x ∧ 0 ≤ y ∧ Q (.int (Int.gcd x y : Nat)) H
def pInv : V → V → Hp → VK → XK → Prop := fun a b H Q _ => ∃ x m : Int, a = .int x ∧ b = .int m ∧ 0 ≤ x ∧ 0 < m ∧ m ≤ 1000000000000 ∧ Int.gcd x m = 1 ∧ ∀ H' v, Same H H' → 0 ≤ v → v < m → x * v % m = 1 % m → Q (.int v) H'
def pChained (K : PySem.W.Frag) : V → V → Hp → VK → XK → Prop := fun a b H Q _ => ∃ (r1 r2 : Addr) (t1 p1 t2 p2 m : Int), a = .ref r1 ∧ b = .ref r2 ∧ SqT K H r1 [.int t1, .int p1, .int m] ∧ SqT K H r2 [.int t2, .int p2, .int m] ∧ Rule t1 p1 m ∧ Rule t2 p2 m ∧
  ∀ H' q, Same H H' → H q = none → H' q = some (.tup [.int (t2 * t1 % m), .int ((t2 * p1 + p2) % m), .int m]) → Q (.ref q) H'
def pRos (K : PySem.W.Frag) : V → V → Hp → VK → XK → Prop := fun a b H Q _ => ∃ (r : Addr) (t p m n : Int), a = .ref r ∧ b = .int n ∧ SqT K H r [.int t, .int p, .int m] ∧ Rule t p m ∧ 0 ≤ n ∧
  ∀ H' q, Same H H' → H' q = some (.tup [.int (rsT t m n.toNat), .int (rsP t p m n.toNat), .int m]) → Q (.ref q) H'
def pRback (K : PySem.W.Frag) (CB : Addr) : V → Hp → VK → XK → Prop := fun a H Q E => ∃ (r : Addr) (t p m : Int), a = .ref r ∧ SqT K H r [.int t, .int p, .int m] ∧ Rule t p m ∧
  (Int.gcd t m = 1 → ∀ H' q u, Same H H' → H q = none → 0 ≤ u → u < m → t * u % m = 1 % m → H' q = some (.tup [.int u, .int (-u * p % m), .int m]) → Q (.ref q) H') ∧ (Int.gcd t m ≠ 1 → E (.ref CB) none H)
def pJump (K : PySem.W.Frag) (CN CB : Addr) : V → V → V → Hp → VK → XK → Prop := fun a b c H Q E => ∃ (r : Addr) (t p m s n : Int), a = .ref r ∧ b = .int s ∧ c = .int n ∧ SqT K H r [.int t, .int p, .int m] ∧ Rule t p m ∧
  (¬ (0 ≤ s ∧ s < m) → Bad CN s H E) ∧ (0 ≤ s ∧ s < m → 0 ≤ n → ∀ H', Same H H' → Q (.int (ahd t p m n.toNat s)) H') ∧
  (0 ≤ s ∧ s < m → n < 0 → Int.gcd t m = 1 → ∀ H' y, Same H H' → Back t p m (-n).toNat s y → Q (.int y) H') ∧ (0 ≤ s ∧ s < m → n < 0 → Int.gcd t m ≠ 1 → E (.ref CB) none H)
end Tw
namespace Tw
open PySem PySem.Spec PyProof.Rows L2
/-- an error without a number: its kind's name alone -/
def pKindO (C : Addr) (nm : Str) : V → Hp → VK → XK → Prop := fun a H Q _ => ∃ e : Addr, a = .ref e ∧ H e = some (exv e (.ref C) none) ∧ ∀ H' p, Same H H' → H p = none → H' p = some (.tup [.str nm]) → Q (.ref p) H'
def pPow : V → V → V → Hp → VK → XK → Prop := fun a b c H Q _ => ∃ x n m : Int, a = .int x ∧ b = .int n ∧ c = .int m ∧ 0 ≤ x ∧ x ≤ 1000000000000 ∧ 0 ≤ n ∧ 0 < m ∧ m ≤ 1000000000000000000000000 ∧ Q (.int (x ^ n.toNat % m)) H
def pShares (K : PySem.W.Frag) : V → V → Hp → VK → XK → Prop := fun a b H Q _ => ∃ (r : Addr) (t p m n : Int), a = .ref r ∧ b = .int n ∧ SqT K H r [.int t, .int p, .int m] ∧ Rule t p m ∧ 0 ≤ n ∧
  ∀ H' q, Same H H' → H q = none → H' q = some (.lst [.int (t ^ n.toNat % m), .int (geo t n.toNat % m)]) → Q (.ref q) H'
def pAhead (K : PySem.W.Frag) : V → V → V → Hp → VK → XK → Prop := fun a b c H Q _ => ∃ (r : Addr) (t p m s n : Int), a = .ref r ∧ b = .int s ∧ c = .int n ∧ SqT K H r [.int t, .int p, .int m] ∧ Rule t p m ∧ 0 ≤ s ∧ s < m ∧ 0 ≤ n ∧ ∀ H', Same H H' → Q (.int (ahd t p m n.toNat s)) H'
theorem ahd_shares (t p m : Int) (n : Nat) (s : Int) : (t ^ n % m * s + geo t n % m * p) % m = ahd t p m n s := by
  unfold ahd
  rw [Int.add_emod, Int.mul_emod, Int.emod_emod, ← Int.mul_emod, Int.mul_emod (geo t n % m), Int.emod_emod, ← Int.mul_emod, ← Int.add_emod, Int.mul_comm (geo t n)]
def pStepsL : V → Hp → VK → XK → Prop := fun a H Q _ => ∃ (d : Addr) (n : Nat), a = .ref d ∧ Deck H d n ∧ n + 5 ≤ 100000000 ∧ ∀ (H' : Hp) (v : Int), But d H H' → Deck H' d (n + 5) → Q (.int v) H'
def pTold3 (K : PySem.W.Frag) : V → V → V → Hp → VK → XK → Prop := fun a b c H Q _ => ∃ (r : Addr) (t p m s n : Int), a = .ref r ∧ b = .int s ∧ c = .int n ∧ SqT K H r [.int t, .int p, .int m] ∧ Rule t p m ∧
  (¬ (0 ≤ s ∧ s < m) → ∀ H' q, Same H H' → H q = none → H' q = some (.tup [.str "number", .int s]) → Q (.ref q) H') ∧
  (0 ≤ s ∧ s < m → 0 ≤ n → ∀ H' q, Same H H' → H q = none → H' q = some (.lst [.int (ahd t p m n.toNat s)]) → Q (.ref q) H') ∧
  (0 ≤ s ∧ s < m → n < 0 → Int.gcd t m = 1 → ∀ H' q y, Same H H' → H q = none → Back t p m (-n).toNat s y → H' q = some (.lst [.int y]) → Q (.ref q) H') ∧
  (0 ≤ s ∧ s < m → n < 0 → Int.gcd t m ≠ 1 → ∀ H' q, Same H H' → H q = none → H' q = some (.tup [.str "back"]) → Q (.ref q) H')
def pRight3 (K : PySem.W.Frag) : V → V → V → Hp → VK → XK → Prop := fun a b c H Q _ => ∃ (r : Addr) (t p m s n : Int), a = .ref r ∧ b = .int s ∧ c = .int n ∧ SqT K H r [.int t, .int p, .int m] ∧ Rule t p m ∧ 0 ≤ s ∧ s < m ∧ ∀ H', Same H H' → Q (.bl true) H'
theorem shp_s {x : Str} (h : PyData.canLay0 (.str x) = true) : SeqAt.shaped (.tuple [.str x]) = true := by
  show (PyData.canLay0 (.tuple [.str x]) && decide (PyData.depth (.tuple [.str x]) ≤ 64)) = true
  simp [PyData.canLay0, PyData.canLayAll0] at h ⊢
  exact ⟨h, of_decide_eq_true rfl⟩
theorem shp_back : SeqAt.shaped (.tuple [.str "back"]) = true := shp_s (by decide +kernel)
end Tw
namespace Tw
theorem pow_em (a m : Int) : ∀ k : Nat, (a % m) ^ k % m = a ^ k % m
  | 0 => by rw [Int.pow_zero, Int.pow_zero]
  | k + 1 => by rw [Int.pow_succ, Int.pow_succ, Int.mul_emod, pow_em a m k, Int.emod_emod, ← Int.mul_emod]
end Tw

/-! What stands before a number. -/
namespace Tw
open PySem PySem.Spec PyProof.Rows L2
/-- the least number whose next one is n -/
def Bef (t p m n x : Int) : Prop := 0 ≤ x ∧ x < m / (Int.gcd t m : Nat) ∧ (t * x + p) % m = n
theorem gcd_pos {t m : Int} (m0 : 0 < m) : 0 < (Int.gcd t m : Int) := by
  have : Int.gcd t m ≠ 0 := fun z => by
    have := (Int.gcd_eq_zero_iff.mp z).2
    omega
  omega
theorem gcd_parts {t m : Int} (m0 : 0 < m) : t = (Int.gcd t m : Nat) * (t / (Int.gcd t m : Nat)) ∧ m = (Int.gcd t m : Nat) * (m / (Int.gcd t m : Nat)) ∧ 0 < m / (Int.gcd t m : Nat) ∧ Int.gcd (t / (Int.gcd t m : Nat)) (m / (Int.gcd t m : Nat)) = 1 := by
  have g0 := gcd_pos (t := t) m0
  have d1 : ((Int.gcd t m : Nat) : Int) ∣ t := Int.gcd_dvd_left ..
  have d2 : ((Int.gcd t m : Nat) : Int) ∣ m := Int.gcd_dvd_right ..
  have e1 := Int.mul_ediv_cancel' d1
  have e2 := Int.mul_ediv_cancel' d2
  refine ⟨e1.symm, e2.symm, Int.ediv_pos_of_pos_of_dvd m0 (by omega) d2, ?_⟩
  have := Int.gcd_ediv_gcd_ediv_gcd (i := t) (j := m) (by omega)
  exact this
theorem bef_uniq {t p m n x y : Int} (m0 : 0 < m) (h : Bef t p m n x) (k : Bef t p m n y) : x = y := by
  obtain ⟨x0, x1, xe⟩ := h
  obtain ⟨y0, y1, ye⟩ := k
  obtain ⟨p1, p2, p3, p4⟩ := gcd_parts (t := t) m0
  have g0 := gcd_pos (t := t) m0
  generalize eg : ((Int.gcd t m : Nat) : Int) = g at *
  generalize et : t / g = t' at *
  generalize em : m / g = m' at *
  have e := Int.dvd_of_emod_eq_zero (Int.emod_eq_emod_iff_emod_sub_eq_zero.mp (xe.trans ye.symm))
  have e2 : g * m' ∣ g * (t' * (x - y)) := by
    rw [← p2, show g * (t' * (x - y)) = t * x + p - (t * y + p) by rw [p1]; grind]
    exact e
  have e3 : m' ∣ t' * (x - y) := Int.dvd_of_mul_dvd_mul_left (by omega) e2
  have e4 : m'.natAbs ∣ (x - y).natAbs := by
    have h1 := Int.natAbs_dvd_natAbs.mpr e3
    rw [Int.natAbs_mul] at h1
    exact Nat.Coprime.dvd_of_dvd_mul_left (show Nat.Coprime m'.natAbs t'.natAbs from Nat.Coprime.symm p4) h1
  have e5 : (x - y).natAbs = 0 := Nat.eq_zero_of_dvd_of_lt e4 (by omega)
  omega
/-- made by the inverse -/
theorem bef_of {t p m n v : Int} (m0 : 0 < m) (n0 : 0 ≤ n) (n1 : n < m) (hd : (n - p) % (Int.gcd t m : Nat) = 0) (hv : (t / (Int.gcd t m : Nat)) * v % (m / (Int.gcd t m : Nat)) = 1 % (m / (Int.gcd t m : Nat))) :
    Bef t p m n ((n - p) / (Int.gcd t m : Nat) * v % (m / (Int.gcd t m : Nat))) := by
  obtain ⟨p1, p2, p3, p4⟩ := gcd_parts (t := t) m0
  have g0 := gcd_pos (t := t) m0
  have c1 := Int.mul_ediv_cancel' (Int.dvd_of_emod_eq_zero hd)
  unfold Bef
  generalize ((Int.gcd t m : Nat) : Int) = g at *
  generalize t / g = t' at *
  generalize m / g = m' at *
  generalize (n - p) / g = c at *
  have xr := mod_bd (c * v) p3
  refine ⟨xr.1, xr.2, ?_⟩
  obtain ⟨e, he⟩ := Int.dvd_of_emod_eq_zero (Int.emod_eq_emod_iff_emod_sub_eq_zero.mp hv)
  have a1 := Int.mul_ediv_add_emod (c * v) m'
  generalize c * v / m' = d1 at *
  generalize c * v % m' = x at *
  have e1 : t * x + p = n + m * (c * e - t' * d1) := by
    have h1 : t' * v = 1 + m' * e := by omega
    have h2 : x = c * v - m' * d1 := by omega
    rw [h2, p1, p2]
    have h3 : g * t' * (c * v - m' * d1) + p = g * c * (t' * v) - g * t' * m' * d1 + p := by grind
    rw [h3, h1]
    have h4 : g * c * (1 + m' * e) - g * t' * m' * d1 + p = g * c + p + g * m' * (c * e - t' * d1) := by grind
    rw [h4, c1]
    omega
  rw [e1, Int.add_mul_emod_self_left]
  exact Int.emod_eq_of_lt n0 n1
theorem no_bef {t p m n x : Int} (m0 : 0 < m) (hd : (n - p) % (Int.gcd t m : Nat) ≠ 0) : (t * x + p - n) % m ≠ 0 := by
  intro h
  apply hd
  obtain ⟨c, hc⟩ := Int.dvd_of_emod_eq_zero h
  obtain ⟨p1, p2, p3, p4⟩ := gcd_parts (t := t) m0
  refine Int.emod_eq_zero_of_dvd ⟨t / (Int.gcd t m : Nat) * x - m / (Int.gcd t m : Nat) * c, ?_⟩
  generalize ((Int.gcd t m : Nat) : Int) = g at *
  generalize t / g = t' at *
  generalize m / g = m' at *
  subst p1
  grind
/-- which numbers lead to n -/
theorem bef_iff {t p m n x y : Int} (m0 : 0 < m) (n0 : 0 ≤ n) (n1 : n < m) (hx : Bef t p m n x) : (t * y + p - n) % m = 0 ↔ y % (m / (Int.gcd t m : Nat)) = x := by
  obtain ⟨x0, x1, xe⟩ := hx
  obtain ⟨p1, p2, p3, p4⟩ := gcd_parts (t := t) m0
  have g0 := gcd_pos (t := t) m0
  generalize eg : ((Int.gcd t m : Nat) : Int) = g at *
  generalize et : t / g = t' at *
  generalize em : m / g = m' at *
  have xe2 : m ∣ t * x + p - n := Int.dvd_of_emod_eq_zero (by
    rw [← Int.emod_eq_emod_iff_emod_sub_eq_zero, xe]
    exact (Int.emod_eq_of_lt n0 n1).symm)
  constructor
  · intro h
    have e := Int.dvd_sub (Int.dvd_of_emod_eq_zero h) xe2
    have e2 : g * m' ∣ g * (t' * (y - x)) := by
      rw [← p2, show g * (t' * (y - x)) = t * y + p - n - (t * x + p - n) by rw [p1]; grind]
      exact e
    have e3 : m' ∣ t' * (y - x) := Int.dvd_of_mul_dvd_mul_left (by omega) e2
    have e4 : m' ∣ y - x := by
      refine Int.natAbs_dvd_natAbs.mp ?_
      have h1 := Int.natAbs_dvd_natAbs.mpr e3
      rw [Int.natAbs_mul] at h1
      exact Nat.Coprime.dvd_of_dvd_mul_left (show Nat.Coprime m'.natAbs t'.natAbs from Nat.Coprime.symm p4) h1
    have e5 : y % m' = x % m' := Int.emod_eq_emod_iff_emod_sub_eq_zero.mpr (Int.emod_eq_zero_of_dvd e4)
    rw [e5]
    exact Int.emod_eq_of_lt x0 x1
  · intro h
    have a1 := Int.mul_ediv_add_emod y m'
    rw [h] at a1
    obtain ⟨c, hc⟩ := xe2
    refine Int.emod_eq_zero_of_dvd ⟨c + t' * (y / m'), ?_⟩
    generalize y / m' = d at *
    subst a1
    have : t * (m' * d + x) + p - n = (t * x + p - n) + t * m' * d := by grind
    rw [this, hc]
    conv => lhs; rhs; rw [p1]
    have h2 : g * t' * m' * d = (g * m') * (t' * d) := by grind
    rw [h2, ← p2]
    grind
/-- the numbers of a range with a given rest -/
theorem filter_eq_range (x : Nat) : ∀ m : Nat, (List.range m).filter (fun i => decide (i = x)) = if x < m then [x] else []
  | 0 => by simp
  | m + 1 => by
    rw [List.range_succ, List.filter_append, filter_eq_range x m]
    by_cases h : x < m
    · rw [if_pos h, if_pos (by omega)]
      simp
      omega
    · rw [if_neg h]
      by_cases h2 : m = x
      · subst h2
        simp
      · rw [if_neg (by omega)]
        simp [h2]
theorem filter_rest {m x : Nat} (hx : x < m) : ∀ g : Nat, (List.range (g * m)).filter (fun i => decide (i % m = x)) = (List.range g).map fun k => k * m + x
  | 0 => by simp
  | g + 1 => by
    rw [Nat.add_mul, Nat.one_mul, List.range_add, List.filter_append, filter_rest hx g, List.range_succ, List.map_append]
    congr 1
    rw [List.filter_map]
    have : ((fun i => decide (i % m = x)) ∘ fun j => g * m + j) = fun j => decide (j % m = x) := by
      funext j
      simp [Nat.mul_add_mod_self_right]
    rw [this]
    have h2 : (List.range m).filter (fun j => decide (j % m = x)) = (List.range m).filter (fun j => decide (j = x)) := by
      apply List.filter_congr
      intro j hj
      rw [Nat.mod_eq_of_lt (List.mem_range.mp hj)]
    rw [h2, filter_eq_range, if_pos hx]
    rfl
def pBefore (K : PySem.W.Frag) (CN : Addr) : V → V → Hp → VK → XK → Prop := fun a b H Q E => ∃ (r : Addr) (t p m n : Int), a = .ref r ∧ b = .int n ∧ SqT K H r [.int t, .int p, .int m] ∧ Rule t p m ∧ (¬ (0 ≤ n ∧ n < m) → Bad CN n H E) ∧
  (0 ≤ n ∧ n < m → (n - p) % (Int.gcd t m : Nat) ≠ 0 → ∀ H' q, Same H H' → H q = none → H' q = some (.tup [.int 0, .non]) → Q (.ref q) H') ∧
  (0 ≤ n ∧ n < m → (n - p) % (Int.gcd t m : Nat) = 0 → ∀ H' q x, Same H H' → H q = none → Bef t p m n x → H' q = some (.tup [.int (Int.gcd t m : Nat), .int x]) → Q (.ref q) H')
end Tw

/-! Seeds: what is drawn of them; a bound, a rule, a row. -/
namespace Tw
open PySem PySem.Spec PyProof.Rows L2

/-- a seed: what is left of a great cell, whether it is one, how many were drawn, the mixed cell -/
def Seed (H : Hp) (d : Addr) (n : Nat) : Prop := ∃ r f k c : Int, H d = some (.lst [.int r, .int f, .int k, .int c]) ∧ 0 ≤ r ∧ 0 ≤ k ∧ k ≤ (n : Int) ∧ 0 ≤ c ∧ c < 2000000000
theorem Seed.mono {H : Hp} {d : Addr} {n m : Nat} (h : Seed H d n) (l : n ≤ m) : Seed H d m := by
  obtain ⟨r, f, k, c, a1, a2, a3, a4, a5⟩ := h
  exact ⟨r, f, k, c, a1, a2, a3, by omega, a5⟩
theorem Seed.same {H H' : Hp} {d : Addr} {n : Nat} (h : Seed H d n) (s : Same H H') : Seed H' d n := by
  obtain ⟨r, f, k, c, a1, a2⟩ := h
  exact ⟨r, f, k, c, s _ _ a1, a2⟩
theorem Seed.ne {H : Hp} {d p : Addr} {n : Nat} (h : Seed H d n) (e : H p = none) : p ≠ d := by
  obtain ⟨r, f, k, c, a1, _⟩ := h
  intro z
  rw [z, a1] at e
  cases e
theorem Seed.ne_tup {H : Hp} {d p : Addr} {n : Nat} {xs : List V} (h : Seed H d n) (e : H p = some (.tup xs)) : p ≠ d := by
  obtain ⟨r, f, k, c, a1, _⟩ := h
  intro z
  rw [z, a1] at e
  cases e
theorem Seed.fresh {H H' : Hp} {d p : Addr} {n m : Nat} (h' : Seed H' d m) (b : But d H H') (e : H' p = none) : H p = none := b.free (h'.ne e) e
theorem Seed.nohd {H : Hp} {d : Addr} {n : Nat} (h : Seed H d n) : ∀ c, ¬ At H d c := fun c hc => by
  obtain ⟨r, f, k, cc, a1, _⟩ := h
  obtain ⟨_, e⟩ := hc
  rw [a1] at e
  cases e
/-- a list of ours beside the seed is changed -/
theorem Seed.mut {H : Hp} {d L : Addr} {n : Nat} {o : HO} (h : Seed H d n) (ne : L ≠ d) : Seed (upd H L o) d n := by
  obtain ⟨r, f, k, c, a1, a2⟩ := h
  exact ⟨r, f, k, c, by rw [upd_ne (Ne.symm ne)]; exact a1, a2⟩
/-- a new list at L, changed: the old heap stands -/
theorem but_new {H H' : Hp} {d L : Addr} {o : HO} (b : But d H H') (e : H L = none) : But d H (upd H' L o) := but_mut2 b e
def pFolded (K : PySem.W.Frag) : V → Hp → VK → XK → Prop := fun a H Q _ => ∃ (s : Addr) (xs : List Int), a = .ref s ∧ SqL K H s (xs.map V.int) ∧ xs.length ≤ 63 ∧ ∀ v : Int, Q (.int v) H
def pSeed : V → Hp → VK → XK → Prop := fun a H Q _ => ∃ c : Int, a = .int c ∧ ∀ H' d, Same H H' → H d = none → Seed H' d 0 → Q (.ref d) H'
/-- a draw below m -/
def pDrw (c : Nat) : V → V → Hp → VK → XK → Prop := fun a b H Q _ => ∃ (d : Addr) (n : Nat) (m : Int), a = .ref d ∧ b = .int m ∧ 0 < m ∧ m < 1000000000000000000000000000000000000000000 ∧ Seed H d n ∧ n + c ≤ 100000000 ∧
  ∀ (H' : Hp) (v : Int), But d H H' → Seed H' d (n + c) → 0 ≤ v → v < m → Q (.int v) H'
def pBnd : V → V → Hp → VK → XK → Prop := fun a b H Q _ => ∃ (d : Addr) (n : Nat) (k : Int), a = .ref d ∧ b = .int k ∧ 0 < k ∧ k ≤ 6 ∧ Seed H d n ∧ n + 3 ≤ 100000000 ∧
  ∀ (H' : Hp) (v : Int), But d H H' → Seed H' d (n + 3) → 1 ≤ v → v ≤ 1000000000000 → (k ≤ 3 → v ≤ 2000) → Q (.int v) H'
def pAnyRule : V → V → Hp → VK → XK → Prop := fun a b H Q _ => ∃ (d : Addr) (n : Nat) (m : Int), a = .ref d ∧ b = .int m ∧ 1 ≤ m ∧ m ≤ 1000000000000 ∧ Seed H d n ∧ n + 7 ≤ 100000000 ∧
  ∀ (H' : Hp) (r : Addr) (t p : Int), But d H H' → Seed H' d (n + 7) → H r = none → H' r = some (.tup [.int t, .int p, .int m]) → Rule t p m → Q (.ref r) H'
def pWalkF (K : PySem.W.Frag) : V → V → V → Hp → VK → XK → Prop := fun a b c H Q _ => ∃ (r : Addr) (t p m s n : Int), a = .ref r ∧ b = .int s ∧ c = .int n ∧ SqT K H r [.int t, .int p, .int m] ∧ Rule t p m ∧ 0 ≤ s ∧ s < m ∧ 1 ≤ n ∧ n ≤ 1000 ∧
  ∀ H' l, Same H H' → H l = none → H' l = some (.lst ((orb (stp t p m) n.toNat s).map V.int)) → Q (.ref l) H'
def pRowS : V → V → V → Hp → VK → XK → Prop := fun a b c H Q _ => ∃ (d : Addr) (n : Nat) (m z : Int), a = .ref d ∧ b = .int m ∧ c = .int z ∧ 1 ≤ m ∧ m ≤ 1000000000000 ∧ 6 ≤ z ∧ z ≤ 60 ∧ Seed H d n ∧ n + 1000 ≤ 100000000 ∧
  ∀ (H' : Hp) (r : Addr) (xs : List Int), But d H H' → Seed H' d (n + 1000) → H r = none → H' r = some (.tup (xs.map V.int)) → 2 ≤ xs.length → (xs.length : Int) ≤ z → Rng m xs → Q (.ref r) H'
/-- found is due, both whole -/
def pIsWh : V → V → Hp → VK → XK → Prop := fun a b H Q _ => ∃ x y : Int, a = .int x ∧ b = .int y ∧ Q (.bl (decide (x = y))) H
theorem orb_rng {t p m s : Int} (m0 : 0 < m) (h0 : 0 ≤ s) (h1 : s < m) (n : Nat) : Rng m (orb (stp t p m) n s) := fun x hx => by
  obtain ⟨i, _, rfl⟩ := List.mem_map.mp hx
  exact itr_rng m0 ⟨h0, h1⟩ i
/-- len in a comprehension -/
def rLenS (K : PySem.W.Frag) : List V → Hp → VK → Prop := fun xs H Q => ∃ (p : Addr) (ys : List V), xs = [V.ref p] ∧ (SqL K H p ys ∨ SqT K H p ys) ∧ Q (V.int ys.length) H
theorem call_lenS {X : Cx} : CallR X (.builtin "len") (rLenS X.K) := call_len_seq
theorem yesX {σ : L2.St} {H : Hp} {A B : Hp → Prop} (h : A H) : tYes σ H fun b H3 => if b = true then A H3 else B H3 := by
  show if true = true then A H else B H
  rw [if_pos rfl]
  exact h
theorem ixN_nat {n j : Nat} (h : j < n) : ixN n (j : Int) = some j := by
  unfold ixN
  rw [if_pos (by omega), if_pos (by omega)]
  simp
end Tw

/-! Slices of tuples; gaps; what divides all. -/
namespace Tw
open PySem PySem.Spec PyProof.Rows L2

theorem upd_swap {H : Hp} {a b : Addr} {o u : HO} (h : a ≠ b) : upd (upd H a o) b u = upd (upd H b u) a o := by
  funext c
  by_cases e1 : c = b
  · rw [e1, upd_same, upd_ne (Ne.symm h), upd_same]
  · by_cases e2 : c = a
    · rw [e2, upd_ne h, upd_same, upd_same]
    · rw [upd_ne e1, upd_ne e2, upd_ne e2, upd_ne e1]
theorem cut_all {xs : List V} {lo hi : Option Int} (h : HT.sIx xs.length 0 lo = 0 ∧ HT.sIx xs.length xs.length hi = xs.length) : cutV xs lo hi = xs := by
  unfold cutV
  rw [h.1, h.2]
  simp
theorem cut_drop (xs : List V) (n : Nat) : cutV xs (some (n : Int)) none = xs.drop n := by
  unfold cutV
  rw [HT.sIx_none, HT.sIx_nat]
  by_cases h : n ≤ xs.length
  · rw [Nat.min_eq_left h, List.take_of_length_le (by rw [List.length_drop]; omega)]
  · rw [Nat.min_eq_right (by omega), List.drop_of_length_le (Nat.le_refl _), List.drop_of_length_le (by omega), List.take_nil]
theorem cut_takeI (xs : List Int) (n : Nat) : cutV (xs.map V.int) none (some (n : Int)) = (xs.take n).map V.int := by
  rw [cut_take, List.map_take]
theorem cut_dropI (xs : List Int) (n : Nat) : cutV (xs.map V.int) (some (n : Int)) none = (xs.drop n).map V.int := by
  rw [cut_drop, List.map_drop]
/-- a slice of a tuple: the tuple itself, or a new one -/
def rSlX (K : PySem.W.Frag) : V → Option Int → Option Int → Hp → VK → Prop := fun x lo hi H Q => ∃ (a : Addr) (xs : List V), x = .ref a ∧ SqT K H a xs ∧ ∀ H' p, Same H H' → SqT K H' p (cutV xs lo hi) → Q (.ref p) H'
theorem sl_tupX {X : Cx} : SlR X (rSlX X.K) := by
  intro pins s σ H x v vl vu lo hi sl Q I rx hsl pl pu h
  obtain ⟨a, xs, rfl, hs, q⟩ := h
  refine sl_tupA pins s σ H _ v vl vu lo hi sl Q I rx hsl pl pu ⟨a, xs, rfl, hs, fun e => ?_, fun e p np => ?_⟩
  · refine q H a (fun _ _ z => z) ?_
    rw [cut_all e]
    exact hs
  · exact q _ p (same_new np) (SqT.of upd_same)
theorem But.tupS {K : PySem.W.Frag} {H H' : Hp} {d r : Addr} {n : Nat} {xs : List V} (b : But d H H') (D : Seed H d n) (h : SqT K H r xs) : SqT K H' r xs := by
  obtain ⟨rr, f, k, c, a1, _⟩ := D
  rcases h with (h | ⟨o, h⟩) | h
  · refine .inl (.inl (b _ _ (fun z => ?_) h))
    rw [z, a1] at h
    cases h
  · refine .inl (.inr ⟨o, b _ _ (fun z => ?_) h⟩)
    rw [z, a1] at h
    cases h
  · exact .inr h
/-! ### gaps -/
def gat (xs : List Int) (i : Nat) : Int := xs.getD (i + 1) 0 - xs.getD i 0
def gp (xs : List Int) : List Int := (List.range (xs.length - 1)).map (gat xs)
theorem gp_len (xs : List Int) : (gp xs).length = xs.length - 1 := by unfold gp; rw [List.length_map, List.length_range]
theorem gp_get {xs : List Int} {i : Nat} (h : i < xs.length - 1) : (gp xs)[i]? = some (gat xs i) := by
  unfold gp
  rw [List.getElem?_map, List.getElem?_range h]
  rfl
theorem get_D {xs : List Int} {i : Nat} {v : Int} (h : xs[i]? = some v) : xs.getD i 0 = v := by
  rw [List.getD_eq_getElem?_getD, h]
  rfl
theorem vget {xs : List Int} {i : Nat} {v : V} (h : (xs.map V.int)[i]? = some v) : v = .int (xs.getD i 0) ∧ i < xs.length := by
  rw [List.getElem?_map] at h
  cases e : xs[i]? with
  | none => rw [e] at h; cases h
  | some x =>
    rw [e] at h
    cases h
    exact ⟨by rw [get_D e], (List.getElem?_eq_some_iff.mp e).1⟩
theorem vgetd {xs : List Int} {i k : Nat} {v : V} (h : ((xs.drop k).map V.int)[i]? = some v) : v = .int (xs.getD (k + i) 0) ∧ k + i < xs.length := by
  rw [List.getElem?_map, List.getElem?_drop] at h
  cases e : xs[k + i]? with
  | none => rw [e] at h; cases h
  | some x =>
    rw [e] at h
    cases h
    exact ⟨by rw [get_D e], (List.getElem?_eq_some_iff.mp e).1⟩
theorem gp_D {xs : List Int} {i : Nat} (h : i < xs.length - 1) : (gp xs).getD i 0 = gat xs i := get_D (gp_get h)
def pGapsOf (K : PySem.W.Frag) : V → Hp → VK → XK → Prop := fun a H Q _ => ∃ (r : Addr) (xs : List Int), a = .ref r ∧ SqT K H r (xs.map V.int) ∧ xs.length ≤ 1000 ∧ ∀ H' l, Same H H' → H l = none → H' l = some (.lst ((gp xs).map V.int)) → Q (.ref l) H'
theorem getD_rng {m : Int} {xs : List Int} (m0 : 0 < m) (h : Rng m xs) (i : Nat) : 0 ≤ xs.getD i 0 ∧ xs.getD i 0 < m := by
  by_cases l : i < xs.length
  · rw [get_D (List.getElem?_eq_getElem l)]
    exact h _ (List.getElem_mem l)
  · rw [List.getD_eq_getElem?_getD, List.getElem?_eq_none (by omega)]
    exact ⟨Int.le_refl _, m0⟩
theorem gat_rng {m : Int} {xs : List Int} (m0 : 0 < m) (h : Rng m xs) (i : Nat) : -m < gat xs i ∧ gat xs i < m := by
  have a := getD_rng m0 h i
  have b := getD_rng m0 h (i + 1)
  unfold gat
  omega
/-! ### what divides all -/
def trm (xs : List Int) (i : Nat) : Int := gat xs i * gat xs (i + 2) - gat xs (i + 1) * gat xs (i + 1)
def dvA (xs : List Int) : Nat → Nat
  | 0 => 0
  | k + 1 => Nat.gcd (dvA xs k) (trm xs k).natAbs
theorem dvA_dvd (xs : List Int) (e : Nat) : ∀ k, e ∣ dvA xs k ↔ ∀ i, i < k → e ∣ (trm xs i).natAbs
  | 0 => ⟨fun _ i hi => absurd hi (Nat.not_lt_zero _), fun _ => Nat.dvd_zero e⟩
  | k + 1 => by
    show e ∣ Nat.gcd (dvA xs k) (trm xs k).natAbs ↔ _
    rw [Nat.dvd_gcd_iff, dvA_dvd xs e k]
    constructor
    · rintro ⟨a, b⟩ i hi
      by_cases e1 : i = k
      · rw [e1]; exact b
      · exact a i (by omega)
    · intro h
      exact ⟨fun i hi => h i (by omega), h k (by omega)⟩
/-- all of a list are divided by just what divides n -/
def Dv (ys : List Int) (n : Nat) : Prop := ∀ e : Nat, (∀ y ∈ ys, e ∣ y.natAbs) ↔ e ∣ n
theorem Dv.nil {n : Nat} (h : Dv [] n) : n = 0 := by
  have := (h 0).mp (fun y hy => by cases hy)
  exact Nat.eq_zero_of_zero_dvd this
theorem Dv.one {y : Int} {n : Nat} (h : Dv [y] n) : y.natAbs = n := by
  refine Nat.dvd_antisymm ?_ ?_
  · exact (h _).mp (fun z hz => by rw [List.mem_singleton.mp hz]; exact Nat.dvd_refl _)
  · exact (h n).mpr (Nat.dvd_refl _) y (List.mem_singleton.mpr rfl)
theorem Dv.pos {ys : List Int} {n : Nat} (h : Dv ys n) : Dv (ys.filter (fun y => decide (y > 0))) n ∨ ∃ y ∈ ys, y < 0 := by
  by_cases hy : ∃ y ∈ ys, y < 0
  · exact .inr hy
  · refine .inl fun e => ?_
    rw [← h e]
    constructor
    · intro q y m
      by_cases l : y > 0
      · exact q y (List.mem_filter.mpr ⟨m, by simp [l]⟩)
      · have : y = 0 := by
          have h1 : ¬ y < 0 := fun z => hy ⟨y, m, z⟩
          omega
        rw [this]
        exact Nat.dvd_zero e
    · intro q y m
      exact q y (List.mem_filter.mp m).1
theorem natAbs_mod_dvd {x l : Int} {e : Nat} (hl : e ∣ l.natAbs) : e ∣ (x % l).natAbs ↔ e ∣ x.natAbs := by
  rw [← Int.ofNat_dvd_left, ← Int.ofNat_dvd_left]
  rw [← Int.ofNat_dvd_left] at hl
  have hd : (e : Int) ∣ l * (x / l) := Int.dvd_trans hl (Int.dvd_mul_right _ _)
  have ex := Int.mul_ediv_add_emod x l
  constructor
  · intro h
    rw [← ex]
    exact Int.dvd_add hd h
  · intro h
    have : x % l = x - l * (x / l) := by omega
    rw [this]
    exact Int.dvd_sub h hd
theorem Dv.step {ys zs : List Int} {l : Int} {n : Nat} (h : Dv ys n) (hl : l ∈ ys) (hz : ∀ z, z ∈ zs ↔ z = l ∨ ∃ y ∈ ys, y % l > 0 ∧ z = y % l) (l0 : 0 < l) : Dv zs n := fun e => by
  rw [← h e]
  constructor
  · intro q y m
    have ql := q l ((hz l).mpr (.inl rfl))
    by_cases p : y % l > 0
    · exact (natAbs_mod_dvd ql).mp (q _ ((hz _).mpr (.inr ⟨y, m, p, rfl⟩)))
    · have z : y % l = 0 := by
        have := Int.emod_nonneg y (show l ≠ 0 by omega)
        omega
      refine (natAbs_mod_dvd ql).mp ?_
      rw [z]
      exact Nat.dvd_zero e
  · intro q z m
    rcases (hz z).mp m with rfl | ⟨y, my, p, rfl⟩
    · exact q _ hl
    · exact (natAbs_mod_dvd (q _ hl)).mpr (q _ my)
def pDivAll (K : PySem.W.Frag) : V → Hp → VK → XK → Prop := fun a H Q _ => ∃ (r : Addr) (xs : List Int), a = .ref r ∧ SqT K H r (xs.map V.int) ∧ xs.length ≤ 1000 ∧ Rng 1000000000000000 xs ∧ ∀ H', Same H H' → Q (.int (dvA xs (xs.length - 3) : Nat)) H'
end Tw
namespace Tw
open PySem PySem.Spec PyProof.Rows L2
theorem atD {xs : List Int} {z : Int} {n : Nat} (e : z = (n : Int)) (h : n < xs.length) : atI (xs.map V.int) z = some (.int (xs.getD n 0)) := by
  subst e
  refine atI_nat ?_
  rw [List.getElem?_map, List.getElem?_eq_getElem h, get_D (List.getElem?_eq_getElem h)]
  rfl
def ab (t : Int) : Int := if t < 0 then -t else t
theorem ab_nat (t : Int) : (ab t).natAbs = t.natAbs := by
  unfold ab
  split
  · rw [Int.natAbs_neg]
  · rfl
theorem ab_nonneg (t : Int) : 0 ≤ ab t := by
  unfold ab
  split <;> omega
theorem dv_all (xs : List Int) (k : Nat) : Dv ((List.range k).map fun i => ab (trm xs i)) (dvA xs k) := fun e => by
  rw [dvA_dvd]
  constructor
  · intro h i hi
    have := h _ (List.mem_map.mpr ⟨i, List.mem_range.mpr hi, rfl⟩)
    rw [ab_nat] at this
    exact this
  · intro h y hy
    obtain ⟨i, hi, rfl⟩ := List.mem_map.mp hy
    rw [ab_nat]
    exact h i (List.mem_range.mp hi)
theorem same_butNew {Hb Ha H' : Hp} {d : Addr} (s : Same Hb Ha) (e : Hb d = none) (b : But d Ha H') : Same Hb H' := fun c o h => b c o (ne_of_none h e) (s c o h)
def pDueA (K : PySem.W.Frag) : V → Hp → VK → XK → Prop := fun a H Q _ => ∃ (r : Addr) (xs : List Int), a = .ref r ∧ SqT K H r (xs.map V.int) ∧ xs.length ≤ 60 ∧ Rng 1000000000000000 xs ∧ ∀ H', Same H H' → Q (.int (dvA xs (xs.length - 3) : Nat)) H'
def pAnyRow (K : PySem.W.Frag) : V → Hp → VK → XK → Prop := fun a H Q _ => ∃ (d : Addr) (n : Nat), a = .ref d ∧ Seed H d n ∧ n + 2000 ≤ 100000000 ∧
  ∀ (H' : Hp) (r : Addr) (xs : List Int), But d H H' → Seed H' d (n + 2000) → SqT K H' r (xs.map V.int) → 2 ≤ xs.length → xs.length ≤ 60 → Rng 1000000000000000 xs → Q (.ref r) H'
theorem Rng.mono {m n : Int} {xs : List Int} (h : Rng m xs) (l : m ≤ n) : Rng n xs := fun x hx => ⟨(h x hx).1, Int.lt_of_lt_of_le (h x hx).2 l⟩
theorem Rng.take {m : Int} {xs : List Int} (h : Rng m xs) (k : Nat) : Rng m (xs.take k) := fun x hx => h x (List.mem_of_mem_take hx)
theorem flat_rep (x : Int) : ∀ k : Nat, (List.replicate k [V.int x]).flatten = (List.replicate k x).map V.int
  | 0 => rfl
  | k + 1 => by
    rw [List.replicate_succ, List.flatten_cons, flat_rep x k, List.replicate_succ, List.map_cons]
    rfl
end Tw
namespace Tw
open PySem PySem.Spec PyProof.Rows L2
theorem flt_in {α : Type} {p : α → Bool} {l : List α} {a : α} (h : p a = true) : (l ++ [a]).filter p = l.filter p ++ [a] := by
  rw [List.filter_append, List.filter_cons_of_pos h]
  rfl
theorem flt_out {α : Type} {p : α → Bool} {l : List α} {a : α} (h : ¬ p a = true) : (l ++ [a]).filter p = l.filter p := by
  rw [List.filter_append, List.filter_cons_of_neg h]
  simp
theorem take_snoc {xs : List Int} {i : Nat} (li : i < xs.length) : xs.take (i + 1) = xs.take i ++ [xs.getD i 0] := by
  rw [List.take_succ, List.getElem?_eq_getElem li, get_D (List.getElem?_eq_getElem li)]
  rfl
end Tw
namespace Tw
open PySem PySem.Spec PyProof.Rows L2
theorem nd_len : ∀ (l m : List Int), l.Nodup → (∀ x ∈ l, x ∈ m) → l.length ≤ m.length
  | [], _, _, _ => Nat.zero_le _
  | a :: r, m, nd, h => by
    rw [List.nodup_cons] at nd
    have ha := h a List.mem_cons_self
    have ih := nd_len r (m.erase a) nd.2 (fun x hx => (List.mem_erase_of_ne (fun (e : x = a) => nd.1 (e ▸ hx))).mpr (h x (List.mem_cons_of_mem _ hx)))
    rw [List.length_erase_of_mem ha] at ih
    have : 0 < m.length := List.length_pos_of_mem ha
    simp only [List.length_cons]
    omega
theorem lt_nodup {l : List Int} (h : l.Pairwise (· < ·)) : l.Nodup := by
  rw [List.nodup_iff_pairwise_ne]
  exact h.imp fun {a b} z => by omega
theorem mods_len {zs : List Int} {l : Int} (h : l ∈ zs) : ((zs.map (· % l)).filter (fun y => decide (y > 0))).length < zs.length := by
  have := (List.length_filter_lt_length_iff_exists (l := zs.map (· % l)) (p := fun y : Int => decide (y > 0))).mpr ⟨l % l, List.mem_map.mpr ⟨l, h, rfl⟩, by rw [Int.emod_self]; simp⟩
  rw [List.length_map] at this
  exact this
end Tw

/-! The times that fit: residue classes, narrowed one condition after the other. -/
namespace Tw
open PySem PySem.Spec PyProof.Rows L2

/-- times t fits the first k conditions of a row -/
def FitU (m : Int) (xs : List Int) (k : Nat) (t : Int) : Prop := ∀ i, i < k → m ∣ t * gat xs i - gat xs (i + 1)
/-- o tells all that fit -/
def FitR (m : Int) (xs : List Int) (k : Nat) : Option (Int × Int) → Prop
  | some (l, s) => 0 < s ∧ s ∣ m ∧ 0 ≤ l ∧ l < s ∧ ∀ t, FitU m xs k t ↔ s ∣ t - l
  | none => ∀ t, ¬ FitU m xs k t
theorem fitU_zero (m : Int) (xs : List Int) (t : Int) : FitU m xs 0 t := fun i hi => absurd hi (Nat.not_lt_zero _)
theorem fitU_succ {m : Int} {xs : List Int} {k : Nat} {t : Int} : FitU m xs (k + 1) t ↔ FitU m xs k t ∧ m ∣ t * gat xs k - gat xs (k + 1) := by
  constructor
  · intro h
    exact ⟨fun i hi => h i (by omega), h k (by omega)⟩
  · rintro ⟨a, b⟩ i hi
    by_cases e : i = k
    · rw [e]; exact b
    · exact a i (by omega)
theorem fitU_mono {m : Int} {xs : List Int} {j k : Nat} {t : Int} (h : FitU m xs k t) (l : j ≤ k) : FitU m xs j t := fun i hi => h i (by omega)
theorem fitR_zero {m : Int} (m0 : 0 < m) (xs : List Int) : FitR m xs 0 (some (0, 1)) := ⟨by decide, Int.one_dvd m, by decide, by decide, fun t => ⟨fun _ => Int.one_dvd _, fun _ => fitU_zero m xs t⟩⟩
theorem FitR.uniq {m : Int} {xs : List Int} {k : Nat} {a b : Option (Int × Int)} (ha : FitR m xs k a) (hb : FitR m xs k b) : a = b := by
  cases a with
  | none =>
    cases b with
    | none => rfl
    | some p =>
      obtain ⟨l, s⟩ := p
      obtain ⟨_, _, _, _, h⟩ := hb
      exact absurd ((h l).mpr (by rw [Int.sub_self]; exact Int.dvd_zero s)) (ha l)
  | some p =>
    obtain ⟨l, s⟩ := p
    obtain ⟨s0, _, l0, l1, h⟩ := ha
    cases b with
    | none => exact absurd ((h l).mpr (by rw [Int.sub_self]; exact Int.dvd_zero s)) (hb l)
    | some q =>
      obtain ⟨l', s'⟩ := q
      obtain ⟨s0', _, l0', l1', h'⟩ := hb
      have e1 : s' ∣ l - l' := (h' l).mp ((h l).mpr (by rw [Int.sub_self]; exact Int.dvd_zero s))
      have e2 : s' ∣ l + s - l' := (h' (l + s)).mp ((h _).mpr (by rw [show l + s - l = s by omega]; exact Int.dvd_refl s))
      have e3 : s ∣ l' - l := (h l').mp ((h' l').mpr (by rw [Int.sub_self]; exact Int.dvd_zero s'))
      have e4 : s ∣ l' + s' - l := (h (l' + s')).mp ((h' _).mpr (by rw [show l' + s' - l' = s' by omega]; exact Int.dvd_refl s'))
      have d1 : s' ∣ s := by
        have := Int.dvd_sub e2 e1
        rw [show l + s - l' - (l - l') = s by omega] at this
        exact this
      have d2 : s ∣ s' := by
        have := Int.dvd_sub e4 e3
        rw [show l' + s' - l - (l' - l) = s' by omega] at this
        exact this
      have es : s = s' := Int.dvd_antisymm (by omega) (by omega) d2 d1
      subst es
      have el : l = l' := by
        have h2 : l % s = l' % s := Int.emod_eq_emod_iff_emod_sub_eq_zero.mpr (Int.emod_eq_zero_of_dvd e1)
        rw [Int.emod_eq_of_lt l0 l1, Int.emod_eq_of_lt l0' l1'] at h2
        exact h2
      rw [el]
/-- conditions by a count: t = l + c * s -/
theorem cond_count {m l s g h c : Int} : m ∣ (l + c * s) * g - h ↔ ((s * g % m) * c + l * g % m - h % m) % m = 0 := by
  have e : (s * g % m) * c + l * g % m - h % m = ((l + c * s) * g - h) - m * ((s * g / m) * c + l * g / m - h / m) := by
    have h1 := Int.mul_ediv_add_emod (s * g) m
    have h2 := Int.mul_ediv_add_emod (l * g) m
    have h3 := Int.mul_ediv_add_emod h m
    have e1 : s * g % m = s * g - m * (s * g / m) := by omega
    have e2 : l * g % m = l * g - m * (l * g / m) := by omega
    have e3 : h % m = h - m * (h / m) := by omega
    rw [e1, e2, e3]
    grind
  rw [e, Int.sub_mul_emod_self_left]
  exact Int.dvd_iff_emod_eq_zero
theorem fit_none {m l s : Int} {xs : List Int} {k : Nat} (m0 : 0 < m) (F : FitR m xs k (some (l, s))) (h : (gat xs (k + 1) % m - l * gat xs k % m) % (Int.gcd (s * gat xs k % m) m : Nat) ≠ 0) : FitR m xs (k + 1) none := by
  obtain ⟨s0, sd, l0, l1, hF⟩ := F
  intro t ht
  obtain ⟨a, b⟩ := fitU_succ.mp ht
  obtain ⟨c, hc⟩ := (hF t).mp a
  have et : t = l + c * s := by rw [Int.mul_comm c s, ← hc]; omega
  rw [et] at b
  exact no_bef (x := c) m0 h (cond_count.mp b)
theorem fit_some {m l s x : Int} {xs : List Int} {k : Nat} (m0 : 0 < m) (F : FitR m xs k (some (l, s))) (B : Bef (s * gat xs k % m) (l * gat xs k % m) m (gat xs (k + 1) % m) x) : FitR m xs (k + 1) (some (l + x * s, m / (Int.gcd (s * gat xs k % m) m : Nat) * s)) := by
  obtain ⟨s0, sd, l0, l1, hF⟩ := F
  have nr := mod_bd (gat xs (k + 1)) m0
  have iff := fun y => bef_iff (y := y) m0 nr.1 nr.2 B
  obtain ⟨e1, e2, e3, e4⟩ := gcd_parts (t := s * gat xs k % m) m0
  obtain ⟨x0, x1, _⟩ := B
  have gd : s ∣ (Int.gcd (s * gat xs k % m) m : Nat) := by
    refine Int.dvd_coe_gcd ?_ sd
    have h1 := Int.mul_ediv_add_emod (s * gat xs k) m
    have e : s * gat xs k % m = s * gat xs k - m * (s * gat xs k / m) := by omega
    rw [e]
    exact Int.dvd_sub (Int.dvd_mul_right _ _) (Int.dvd_trans sd (Int.dvd_mul_right _ _))
  generalize (Int.gcd (s * gat xs k % m) m : Nat) = d at *
  generalize hap : m / (d : Int) = a at *
  refine ⟨Int.mul_pos e3 s0, ?_, ?_, ?_, fun t => ?_⟩
  · obtain ⟨q, hq⟩ := gd
    rw [e2, hq]
    exact ⟨q, by grind⟩
  · have := Int.mul_nonneg x0 (Int.le_of_lt s0)
    omega
  · have h1 : (x + 1) * s ≤ a * s := Int.mul_le_mul_of_nonneg_right (by omega) (by omega)
    have h2 : (x + 1) * s = x * s + s := by grind
    omega
  · rw [fitU_succ, hF t]
    constructor
    · rintro ⟨⟨c, hc⟩, h⟩
      have et : t = l + c * s := by rw [Int.mul_comm c s, ← hc]; omega
      subst et
      have hx := (iff c).mp (cond_count.mp h)
      have hd := Int.mul_ediv_add_emod c a
      rw [hx] at hd
      exact ⟨c / a, by rw [← hd]; grind⟩
    · rintro ⟨q, hq⟩
      have et : t = l + (x + a * q) * s := by grind
      refine ⟨⟨x + a * q, by rw [et]; grind⟩, ?_⟩
      rw [et]
      refine cond_count.mpr ((iff _).mpr ?_)
      rw [Int.add_mul_emod_self_left, Int.emod_eq_of_lt x0 x1]
end Tw

/-! Quotients by any number; the fit by going from remainder to remainder; promises of the fits. -/
namespace Tw
open PySem PySem.Spec PyProof.Rows L2

theorem op_fdivZ {X : Cx} : OpR X (binaryOp .FloorDiv) (rI (fun _ j => j ≠ 0 ∧ Big j) fun i j => .int (i.fdiv j)) := opI fun i j _ _ _ _ _ hc q =>
  floordiv_int hc.1 q (.inl (PyProof.noPylong_of_log2 (Nat.lt_of_lt_of_le (PySem.Flt.log2_lt_of (by decide) hc.2.abs) (by decide))))
theorem fd_bd {n o : Int} (h : o ≠ 0) : (n - n.fdiv o * o).natAbs < o.natAbs := by
  by_cases p : 0 < o
  · rw [Int.fdiv_eq_ediv_of_nonneg n (by omega)]
    have h1 := Int.mul_ediv_add_emod n o
    have h2 := mod_bd n p
    have e : n - n / o * o = n % o := by rw [Int.mul_comm]; omega
    rw [e]
    omega
  · rw [← Int.neg_fdiv_neg, Int.fdiv_eq_ediv_of_nonneg (-n) (by omega)]
    have h1 := Int.mul_ediv_add_emod (-n) (-o)
    have h2 := mod_bd (-n) (show 0 < -o by omega)
    have e : n - -n / -o * o = -(-n % -o) := by
      have : -o * (-n / -o) = -(-n / -o * o) := by grind
      omega
    rw [e]
    omega
theorem fd_abs {n o : Int} (h : o ≠ 0) : (n.fdiv o).natAbs ≤ n.natAbs + o.natAbs := by
  have b := fd_bd (n := n) h
  have h1 : (n.fdiv o * o).natAbs ≤ n.natAbs + o.natAbs := by omega
  rw [Int.natAbs_mul] at h1
  have h2 : (n.fdiv o).natAbs * 1 ≤ (n.fdiv o).natAbs * o.natAbs := Nat.mul_le_mul_left _ (by omega)
  omega
theorem gcd_ext {a b a' b' : Int} (h : ∀ d : Int, (d ∣ a ∧ d ∣ b) ↔ (d ∣ a' ∧ d ∣ b')) : Int.gcd a b = Int.gcd a' b' := by
  refine Nat.dvd_antisymm ?_ ?_
  · have := (h (Int.gcd a b : Nat)).mp ⟨Int.gcd_dvd_left .., Int.gcd_dvd_right ..⟩
    exact Int.ofNat_dvd.mp (Int.dvd_coe_gcd this.1 this.2)
  · have := (h (Int.gcd a' b' : Nat)).mpr ⟨Int.gcd_dvd_left .., Int.gcd_dvd_right ..⟩
    exact Int.ofNat_dvd.mp (Int.dvd_coe_gcd this.1 this.2)
theorem gcd_euc (n o q : Int) : Int.gcd o (n - q * o) = Int.gcd n o := gcd_ext fun d => by
  constructor
  · rintro ⟨a, b⟩
    have := Int.dvd_add b (Int.dvd_trans a (Int.dvd_mul_left q o))
    rw [show n - q * o + q * o = n by omega] at this
    exact ⟨this, a⟩
  · rintro ⟨a, b⟩
    exact ⟨b, Int.dvd_sub a (Int.dvd_trans b (Int.dvd_mul_left q o))⟩
theorem euc_sol {m t n o d e q : Int} : (m ∣ t * n - d ∧ m ∣ t * o - e) ↔ (m ∣ t * o - e ∧ m ∣ t * (n - q * o) - (d - q * e) % m) := by
  have h1 := Int.mul_ediv_add_emod (d - q * e) m
  have e1 : t * (n - q * o) - (d - q * e) % m = (t * n - d) - q * (t * o - e) + m * ((d - q * e) / m) := by grind
  have hm : m ∣ m * ((d - q * e) / m) := Int.dvd_mul_right _ _
  constructor
  · rintro ⟨a, b⟩
    refine ⟨b, ?_⟩
    rw [e1]
    exact Int.dvd_add (Int.dvd_sub a (Int.dvd_trans b (Int.dvd_mul_left _ _))) hm
  · rintro ⟨b, a⟩
    refine ⟨?_, b⟩
    rw [e1] at a
    have h2 := Int.dvd_add (Int.dvd_sub a hm) (Int.dvd_trans b (Int.dvd_mul_left q (t * o - e)))
    rw [show t * n - d - q * (t * o - e) + m * ((d - q * e) / m) - m * ((d - q * e) / m) + q * (t * o - e) = t * n - d by omega] at h2
    exact h2
/-- one condition for all -/
structure OneC (m : Int) (xs : List Int) (k : Nat) (n d : Int) : Prop where
  nz : n ≠ 0
  dv : n ∣ m
  sol : ∀ t, FitU m xs k t ↔ m ∣ t * n - d
theorem oneC_zero {m : Int} (m0 : 0 < m) (xs : List Int) : OneC m xs 0 m 0 := ⟨by omega, Int.dvd_refl m, fun t => ⟨fun _ => by rw [Int.sub_zero]; exact Int.dvd_mul_left t m, fun _ => fitU_zero m xs t⟩⟩
theorem OneC.none {m n d : Int} {xs : List Int} {k K : Nat} (h : OneC m xs k n d) (hk : k ≤ K) (nd : d % n ≠ 0) : FitR m xs K Option.none := fun t ht => by
  have h1 := (h.sol t).mp (fitU_mono ht hk)
  have h2 := Int.dvd_trans h.dv h1
  refine nd (Int.emod_eq_zero_of_dvd ?_)
  have h3 := Int.dvd_sub (Int.dvd_mul_left t n) h2
  rw [show t * n - (t * n - d) = d by omega] at h3
  exact h3
theorem OneC.some {m n d : Int} {xs : List Int} {k : Nat} (m0 : 0 < m) (n0 : 0 < n) (h : OneC m xs k n d) (hd : d % n = 0) : FitR m xs k (Option.some (d / n % (m / n), m / n)) := by
  obtain ⟨s, hs⟩ := h.dv
  have es : m / n = s := by rw [hs]; exact Int.mul_ediv_cancel_left _ (by omega)
  have s0 : 0 < s := by
    by_cases z : 0 < s
    · exact z
    · have := Int.mul_nonneg (show 0 ≤ n by omega) (show 0 ≤ -s by omega)
      have e : n * -s = -(n * s) := by grind
      omega
  have ed : d = n * (d / n) := by have := Int.mul_ediv_add_emod d n; omega
  rw [es]
  have bs := mod_bd (d / n) s0
  refine ⟨s0, ⟨n, by rw [hs, Int.mul_comm]⟩, bs.1, bs.2, fun t => ?_⟩
  rw [h.sol t]
  have e1 : t * n - d = n * (t - d / n) := by
    have : n * (t - d / n) = t * n - n * (d / n) := by grind
    omega
  rw [e1, hs, Int.mul_dvd_mul_iff_left (by omega)]
  have h1 := Int.mul_ediv_add_emod (d / n) s
  have e2 : t - d / n % s = (t - d / n) + s * (d / n / s) := by omega
  rw [e2]
  constructor
  · intro h
    exact Int.dvd_add h (Int.dvd_mul_right _ _)
  · intro h
    have := Int.dvd_sub h (Int.dvd_mul_right s (d / n / s))
    rw [show t - d / n + s * (d / n / s) - s * (d / n / s) = t - d / n by omega] at this
    exact this
theorem OneC.neg {m n d : Int} {xs : List Int} {k : Nat} (h : OneC m xs k n d) : OneC m xs k (0 - n) (0 - d) := by
  refine ⟨by have := h.nz; omega, ?_, fun t => ?_⟩
  · rw [Int.zero_sub]
    exact Int.neg_dvd.mpr h.dv
  · rw [h.sol t, show t * (0 - n) - (0 - d) = -(t * n - d) by grind]
    exact Int.dvd_neg.symm
/-- what a fit is told by -/
def FitV (m : Int) (xs : List Int) (j : Nat) (H : Hp) (v : V) : Prop := (v = .non ∧ FitR m xs j none) ∨ ∃ (q : Addr) (l s : Int), v = .ref q ∧ H q = some (.tup [.int l, .int s]) ∧ FitR m xs j (some (l, s))
theorem FitV.same {m : Int} {xs : List Int} {j : Nat} {H H' : Hp} {v : V} (h : FitV m xs j H v) (s : Same H H') : FitV m xs j H' v := by
  rcases h with h | ⟨q, l, st, e, hq, r⟩
  · exact .inl h
  · exact .inr ⟨q, l, st, e, s _ _ hq, r⟩
theorem fitR_none_mono {m : Int} {xs : List Int} {j k : Nat} (h : FitR m xs j none) (l : j ≤ k) : FitR m xs k none := fun t ht => h t (fitU_mono ht l)
def pFitL (K : PySem.W.Frag) : V → V → Hp → VK → XK → Prop := fun a b H Q _ => ∃ (r : Addr) (xs : List Int) (m : Int), a = .ref r ∧ b = .int m ∧ SqT K H r (xs.map V.int) ∧ 1 ≤ m ∧ m ≤ 1000000000000 ∧ Rng m xs ∧ xs.length ≤ 1000 ∧
  ∀ H' v, Same H H' → FitV m xs (xs.length - 2) H' v → (∀ q, v = .ref q → H q = none) → Q v H'
def pNarrow : V → V → V → V → Hp → VK → XK → Prop := fun a b c e H Q _ => ∃ (v : V) (xs : List Int) (k : Nat) (m : Int), a = v ∧ b = .int (gat xs k) ∧ c = .int (gat xs (k + 1)) ∧ e = .int m ∧ FitV m xs k H v ∧ 1 ≤ m ∧ m ≤ 1000000000000 ∧ Rng m xs ∧
  ∀ H' v', Same H H' → FitV m xs (k + 1) H' v' → (∀ q, v' = .ref q → H q = none) → Q v' H'
/-- the first number that is none of the bound's -/
def FirstBad (m : Int) (xs : List Int) (i : Nat) : Prop := i < xs.length ∧ ¬ (0 ≤ xs.getD i 0 ∧ xs.getD i 0 < m) ∧ ∀ j, j < i → 0 ≤ xs.getD j 0 ∧ xs.getD j 0 < m
theorem rng_or_bad (m : Int) (xs : List Int) : Rng m xs ∨ ∃ i, FirstBad m xs i := by
  have : ∀ k, k ≤ xs.length → (∀ j, j < k → 0 ≤ xs.getD j 0 ∧ xs.getD j 0 < m) ∨ ∃ i, FirstBad m xs i := by
    intro k
    induction k with
    | zero => exact fun _ => .inl fun j hj => absurd hj (Nat.not_lt_zero _)
    | succ k ih =>
      intro hk
      rcases ih (by omega) with h | h
      · by_cases b : 0 ≤ xs.getD k 0 ∧ xs.getD k 0 < m
        · refine .inl fun j hj => ?_
          by_cases e : j = k
          · rw [e]; exact b
          · exact h j (by omega)
        · exact .inr ⟨k, by omega, b, h⟩
      · exact .inr h
  rcases this xs.length (Nat.le_refl _) with h | h
  · refine .inl fun x hx => ?_
    obtain ⟨i, hi, e⟩ := List.getElem_of_mem hx
    have := h i hi
    rw [get_D (List.getElem?_eq_getElem hi), e] at this
    exact this
  · exact .inr h
def pTimes (K : PySem.W.Frag) (CN : Addr) : V → V → Hp → VK → XK → Prop := fun a b H Q E => ∃ (r : Addr) (xs : List Int) (m : Int), a = .ref r ∧ b = .int m ∧ SqT K H r (xs.map V.int) ∧ 1 ≤ m ∧ m ≤ 1000000000000 ∧ xs.length ≤ 1000 ∧
  (Rng m xs → ∀ H' v, Same H H' → FitV m xs (xs.length - 2) H' v → (∀ q, v = .ref q → H q = none) → Q v H') ∧ (∀ i, FirstBad m xs i → Bad CN (xs.getD i 0) H E)
/-- all fits on the way -/
def FitsV (m : Int) (xs : List Int) (H : Hp) (vs : List V) : Prop := ∀ j v, vs[j]? = some v → FitV m xs j H v
def pFits (K : PySem.W.Frag) (CN : Addr) : V → V → Hp → VK → XK → Prop := fun a b H Q E => ∃ (r : Addr) (xs : List Int) (m : Int), a = .ref r ∧ b = .int m ∧ SqT K H r (xs.map V.int) ∧ 1 ≤ m ∧ m ≤ 1000000000000 ∧ xs.length ≤ 1000 ∧
  (Rng m xs → ∀ H' l vs, Same H H' → H l = none → H' l = some (.lst vs) → vs.length = xs.length - 2 + 1 → FitsV m xs H' vs → (∀ q, .ref q ∈ vs → H q = none) → Q (.ref l) H') ∧ (∀ i, FirstBad m xs i → Bad CN (xs.getD i 0) H E)
section
variable {P : Program} {w : World} {K : PySem.W.Frag} {mg : Str → Option Value} {base : Heap} {x : Str} {st : Stmt} {N : List Str} {k : Nat}
theorem Top.ok4q {a b c d : Str} {p : V → V → V → V → Hp → VK → XK → Prop} (D : Top K mg x st [a, b, c, d]) (S : FnScope N [a, b, c, d] (defScope st))
    (hbody : ∀ (f : Addr) (cdv : Value) (A : Around) (outer : List Env) (s : Shared) (H : Hp) (v1 v2 v3 v4 : V) (Q : VK) (E : XK), Room k (A.deeper (envOfC x (defScope st) s.heap.objs.size f cdv)) → p v1 v2 v3 v4 H Q E →
      ∃ t, PSs (cxOf CX0 P w K mg base N x (defScope st) f cdv A outer s H E).nox (defBody st) t ∧ t { nx := fun _ H' => Q .non H', rt := Q } (start N [v1, v2, v3, v4]) H) : Has P w K mg base CX0 (k + 1) x [a, b, c, d] (sp4 p) :=
  D.ok S (fun vs H Q E h => by obtain ⟨_, _, _, _, rfl, _⟩ := h; rfl) (fun f cdv A outer s H vs Q E hr h => by obtain ⟨v1, v2, v3, v4, rfl, h⟩ := h; exact hbody f cdv A outer s H v1 v2 v3 v4 Q E hr h)
end
end Tw

/-! Fits by going through all times; data compared. -/
namespace Tw
open PySem PySem.Spec PyProof.Rows L2

theorem eqvAll_ints : ∀ as bs : List Int, PyData.eqvAll (as.map PyData.int) (bs.map PyData.int) = decide (as = bs)
  | [], [] => by simp [PyData.eqvAll]
  | [], b :: bs => by simp [PyData.eqvAll]
  | a :: as, [] => by simp [PyData.eqvAll]
  | a :: as, b :: bs => by
    rw [List.map_cons, List.map_cons, PyData.eqvAll, eqvAll_ints as bs]
    by_cases h : a = b
    · subst h
      by_cases h2 : as = bs <;> simp [PyData.eqv, h2]
    · simp [PyData.eqv, h]
theorem eqv_lints (as bs : List Int) : PyData.eqv (.list (as.map PyData.int)) (.list (bs.map PyData.int)) = decide (as = bs) := by
  rw [PyData.eqv, eqvAll_ints]
theorem eqv_tints (as bs : List Int) : PyData.eqv (.tuple (as.map PyData.int)) (.tuple (bs.map PyData.int)) = decide (as = bs) := by
  rw [PyData.eqv, eqvAll_ints]
theorem FirstBad.no {m : Int} {xs : List Int} {i : Nat} (h : FirstBad m xs i) (rg : Rng m xs) : False := by
  have l := h.1
  have := h.2.1
  rw [get_D (List.getElem?_eq_getElem l)] at this
  exact this (rg _ (List.getElem_mem l))
/-- the plus of times t -/
def plusOf (m : Int) (xs : List Int) (t : Int) : Int := (xs.getD 1 0 - t * xs.getD 0 0) % m
theorem mod_eq_of_dvd {m a b : Int} (m0 : 0 < m) (b0 : 0 ≤ b) (b1 : b < m) (h : m ∣ a - b) : a % m = b := by
  have h2 : a % m = b % m := Int.emod_eq_emod_iff_emod_sub_eq_zero.mpr (Int.emod_eq_zero_of_dvd h)
  rw [h2, Int.emod_eq_of_lt b0 b1]
theorem dvd_of_mod_eq {m a b : Int} (h : a % m = b) : m ∣ a - b := by
  have h1 := Int.mul_ediv_add_emod a m
  exact ⟨a / m, by omega⟩
theorem step_iff {m : Int} {xs : List Int} (m0 : 0 < m) (rg : Rng m xs) (t : Int) : ∀ k, (∀ i, i < k + 1 → (t * xs.getD i 0 + plusOf m xs t) % m = xs.getD (i + 1) 0) ↔ FitU m xs k t
  | 0 => by
    refine ⟨fun _ => fitU_zero m xs t, fun _ i hi => ?_⟩
    have e : i = 0 := by omega
    subst e
    have g := getD_rng m0 rg 1
    refine mod_eq_of_dvd m0 g.1 g.2 ?_
    have h1 := Int.mul_ediv_add_emod (xs.getD 1 0 - t * xs.getD 0 0) m
    unfold plusOf
    exact ⟨-((xs.getD 1 0 - t * xs.getD 0 0) / m), by grind⟩
  | k + 1 => by
    rw [fitU_succ, ← step_iff m0 rg t k]
    constructor
    · intro h
      refine ⟨fun i hi => h i (by omega), ?_⟩
      have h1 := dvd_of_mod_eq (h k (by omega))
      have h2 := dvd_of_mod_eq (h (k + 1) (by omega))
      have h3 := Int.dvd_sub h2 h1
      unfold gat
      rw [show t * (xs.getD (k + 1) 0 - xs.getD k 0) - (xs.getD (k + 1 + 1) 0 - xs.getD (k + 1) 0) = t * xs.getD (k + 1) 0 + plusOf m xs t - xs.getD (k + 1 + 1) 0 - (t * xs.getD k 0 + plusOf m xs t - xs.getD (k + 1) 0) by grind]
      exact h3
    · rintro ⟨h, h3⟩ i hi
      by_cases e : i = k + 1
      · subst e
        have g := getD_rng m0 rg (k + 1 + 1)
        refine mod_eq_of_dvd m0 g.1 g.2 ?_
        have h1 := dvd_of_mod_eq (h k (by omega))
        have h4 := Int.dvd_add h1 h3
        unfold gat at h4
        rw [show t * xs.getD (k + 1) 0 + plusOf m xs t - xs.getD (k + 1 + 1) 0 = t * xs.getD k 0 + plusOf m xs t - xs.getD (k + 1) 0 + (t * (xs.getD (k + 1) 0 - xs.getD k 0) - (xs.getD (k + 1 + 1) 0 - xs.getD (k + 1) 0)) by grind]
        exact h4
      · exact h i (by omega)
/-- sorted, all of a class below m -/
theorem class_head {m l s : Int} {ks : List Int} (m0 : 0 < m) (s0 : 0 < s) (sd : s ∣ m) (l0 : 0 ≤ l) (l1 : l < s) (up : ks.Pairwise (· < ·)) (mem : ∀ t, t ∈ ks ↔ 0 ≤ t ∧ t < m ∧ s ∣ t - l) :
    ∃ rest, ks = l :: rest ∧ (rest ++ [l + m]).head? = some (l + s) := by
  have sm : s ≤ m := Int.le_of_dvd m0 sd
  have hl : l ∈ ks := (mem l).mpr ⟨l0, by omega, by rw [Int.sub_self]; exact Int.dvd_zero s⟩
  have low : ∀ t ∈ ks, t = l ∨ l + s ≤ t := fun t ht => by
    obtain ⟨t0, _, c, hc⟩ := (mem t).mp ht
    by_cases c0 : c ≤ -1
    · have := Int.mul_le_mul_of_nonneg_left c0 (show 0 ≤ s by omega)
      have e : s * -1 = -s := by grind
      omega
    · by_cases cz : c = 0
      · subst cz
        rw [Int.mul_zero] at hc
        exact .inl (by omega)
      · have := Int.mul_le_mul_of_nonneg_left (show 1 ≤ c by omega) (show 0 ≤ s by omega)
        rw [Int.mul_one] at this
        exact .inr (by omega)
  cases ks with
  | nil => cases hl
  | cons a rest =>
    obtain ⟨ua, ur⟩ := List.pairwise_cons.mp up
    have ea : a = l := by
      rcases List.mem_cons.mp hl with e | h
      · exact e.symm
      · have h1 := ua l h
        rcases low a List.mem_cons_self with e | e <;> omega
    subst ea
    refine ⟨rest, rfl, ?_⟩
    by_cases hs : s = m
    · subst hs
      have er : rest = [] := by
        cases rest with
        | nil => rfl
        | cons b r =>
          have h1 := ua b List.mem_cons_self
          have hb : b ∈ a :: b :: r := by simp
          have h2 := (mem b).mp hb
          rcases low b hb with e | e <;> omega
      rw [er]
      rfl
    · have hls : a + s ∈ a :: rest := by
        refine (mem _).mpr ⟨by omega, ?_, by rw [show a + s - a = s by omega]; exact Int.dvd_refl s⟩
        obtain ⟨c, hc⟩ := sd
        have c2 : 2 ≤ c := by
          by_cases z : 2 ≤ c
          · exact z
          · have : c ≤ 1 := by omega
            have := Int.mul_le_mul_of_nonneg_left this (show 0 ≤ s by omega)
            rw [Int.mul_one] at this
            omega
        have := Int.mul_le_mul_of_nonneg_left c2 (show 0 ≤ s by omega)
        omega
      cases rest with
      | nil =>
        rw [List.mem_singleton] at hls
        omega
      | cons b r =>
        have h1 := ua b List.mem_cons_self
        have hb : b ∈ a :: b :: r := by simp
        have h2 : a + s ≤ b := by rcases low b hb with e | e <;> omega
        rcases List.mem_cons.mp hls with e | hls
        · omega
        · rcases List.mem_cons.mp hls with e | h3
          · rw [e]
            rfl
          · have := (List.pairwise_cons.mp ur).1 _ h3
            omega
theorem fitU_mod {m : Int} {xs : List Int} {k : Nat} {t : Int} : FitU m xs k (t % m) ↔ FitU m xs k t := by
  have h1 := Int.mul_ediv_add_emod t m
  have e : ∀ g h : Int, t * g - h = t % m * g - h + m * (t / m * g) := fun g h => by grind
  constructor
  · intro h i hi
    rw [e]
    exact Int.dvd_add (h i hi) (Int.dvd_mul_right _ _)
  · intro h i hi
    have := Int.dvd_sub (h i hi) (Int.dvd_mul_right m (t / m * gat xs i))
    rw [e, show t % m * gat xs i - gat xs (i + 1) + m * (t / m * gat xs i) - m * (t / m * gat xs i) = t % m * gat xs i - gat xs (i + 1) by omega] at this
    exact this
def pTrial (K : PySem.W.Frag) : V → V → Hp → VK → XK → Prop := fun a b H Q _ => ∃ (r : Addr) (xs : List Int) (m : Int) (o : Option (Int × Int)), a = .ref r ∧ b = .int m ∧ SqT K H r (xs.map V.int) ∧ 1 ≤ m ∧ m ≤ 200 ∧ Rng m xs ∧ 2 ≤ xs.length ∧ xs.length ≤ 1000 ∧ FitR m xs (xs.length - 2) o ∧
  ∀ H' v, Same H H' → FitV m xs (xs.length - 2) H' v → Q v H'
def pRight11 (K : PySem.W.Frag) : V → V → Hp → VK → XK → Prop := fun a b H Q _ => ∃ (r : Addr) (xs : List Int) (m : Int), a = .ref r ∧ b = .int m ∧ SqT K H r (xs.map V.int) ∧ 1 ≤ m ∧ m ≤ 1000000000000 ∧ Rng m xs ∧ 2 ≤ xs.length ∧ xs.length ≤ 1000 ∧ ∀ H', Same H H' → Q (.bl true) H'
/-- two told fits are alike: both None, or the same pair -/
theorem FitV.two {m : Int} {xs : List Int} {j : Nat} {H : Hp} {v u : V} (a : FitV m xs j H v) (b : FitV m xs j H u) : (v = .non ∧ u = .non) ∨ ∃ (q p : Addr) (l s : Int), v = .ref q ∧ u = .ref p ∧ H q = some (.tup [.int l, .int s]) ∧ H p = some (.tup [.int l, .int s]) ∧ FitR m xs j (some (l, s)) := by
  rcases a with ⟨rfl, fa⟩ | ⟨q, l, s, rfl, hq, fa⟩
  · rcases b with ⟨rfl, fb⟩ | ⟨p, l', s', rfl, hp, fb⟩
    · exact .inl ⟨rfl, rfl⟩
    · cases fa.uniq fb
  · rcases b with ⟨rfl, fb⟩ | ⟨p, l', s', rfl, hp, fb⟩
    · cases fa.uniq fb
    · have e := fa.uniq fb
      cases e
      exact .inr ⟨q, p, l, s, rfl, rfl, hq, hp, fa⟩
theorem FitV.ex {m : Int} {xs : List Int} {j : Nat} {H : Hp} {v : V} (a : FitV m xs j H v) : ∃ o, FitR m xs j o := by
  rcases a with ⟨_, fa⟩ | ⟨_, l, s, _, _, fa⟩
  · exact ⟨none, fa⟩
  · exact ⟨some (l, s), fa⟩
end Tw

/-! Ranges by great steps; lists of tuples of numbers; the rules that fit. -/
namespace Tw
open PySem PySem.Spec PyProof.Rows L2

/-- how many there are from i below j by steps of c -/
def rgN (i j c : Int) : Nat := if i < j then ((j - i - 1) / c + 1).toNat else 0
def RgS (i j c : Int) : Prop := 0 < c ∧ c ≤ 10000000000000 ∧ -10000000000000 ≤ i ∧ i ≤ 10000000000000 ∧ -10000000000000 ≤ j ∧ j ≤ 10000000000000
theorem rgN_size {i j c : Int} (h : RgS i j c) : Builtin.Range.rangeSize i j c = (rgN i j c : Int) ∧ (rgN i j c : Int) ≤ 20000000000000 := by
  obtain ⟨c0, c1, i0, i1, j0, j1⟩ := h
  unfold Builtin.Range.rangeSize rgN
  rw [if_pos c0]
  by_cases e : i < j
  · rw [if_pos e, if_pos e]
    have h1 : 0 ≤ (j - i - 1) / c := Int.ediv_nonneg (by omega) (by omega)
    have h2 : (j - i - 1) / c ≤ j - i - 1 := Int.ediv_le_self _ (by omega)
    omega
  · rw [if_neg e, if_neg e]
    omega
theorem rgS_small {i j c : Int} (h : RgS i j c) : Builtin.Range.small i j c = true := by
  obtain ⟨e, b⟩ := rgN_size h
  obtain ⟨c0, c1, i0, i1, j0, j1⟩ := h
  unfold Builtin.Range.small
  rw [e]
  simp only [Builtin.Range.rangeFitsLong, Bool.and_eq_true, Bool.or_eq_true, decide_eq_true_eq, beq_iff_eq, if_pos c0]
  omega
def iRngS (ta : TA) : TI := fun σ H R => ta σ H fun vs H1 => ∃ (i j c : Int), vs = [.int i, .int j, .int c] ∧ RgS i j c ∧ R (Itc i c (rgN i j c)) H1
theorem pi_rangeS {X : Cx} {tg a b c : Expr} {ta : TA} {p pos : Pos} (hg : Gl X "range") (hm : X.mg "range" = none) (ha : PA X [a, b, c] ta)
    (hs : starEach [a, b, c] X.env = (false, eval a X.env) :: starEach [b, c] X.env := by rfl) (hpl : (backTo pos (starEach [b, c] X.env)).any (·.1) = false := by rfl) :
    PI X tg (.Call (.Name "range" p) [a, b, c] [] pos) (iRngS ta) := by
  refine ⟨fun pins s σ H R I h => ?_⟩
  refine Call_ (ld_blt I hg hm boot_range (PyProof.Rows.callWith_type1 (thn (ha.run pos pins s σ H _ I h) fun us s1 ⟨vs, H1, I1, r1, q1⟩ => ?_) hs hpl))
  obtain ⟨i, j, k, e, hr, q⟩ := q1
  subst e
  obtain ⟨u1, u2, u3, rfl, ⟨t, rfl⟩, ⟨t', rfl⟩, ⟨t'', rfl⟩⟩ := valsX3 r1
  have hb : Big k := by
    have := hr.1
    have := hr.2.1
    unfold Big
    omega
  refine call_range_3 (by have := hr.1; omega) ?_ (.inl (PyProof.noPylong_of_log2 (Nat.lt_of_lt_of_le (PySem.Flt.log2_lt_of (by decide) hb.abs) (by decide))))
  refine wpAny_pyIter_range (IsRange.new ..) (rgS_small hr) ?_
  have I2 : Inv X pins σ H1 { s1 with heap := s1.heap.push { cls := .type "range", data := .fields #[.int i t, .int j t', .int k t''] } } := I1.kept (t' := s1.toks) fun b o e => Heap.get?_push_of_some _ e
  refine pi_one (tk := s1.toks) I2 _ (turn_rangeC _ i k (rgN i j k)) ?_ q
  have e1 : i + ((0 : Nat) : Int) * k = i := by simp
  have e2 : ((rgN i j k : Nat) : Int) - ((0 : Nat) : Int) = Builtin.Range.rangeSize i j k := by rw [(rgN_size hr).1]; simp
  show IsRangeIter _ _ (i + ((0 : Nat) : Int) * k) (((rgN i j k : Nat) : Int) - ((0 : Nat) : Int)) k
  rw [e1, e2]
  exact Heap.get?_push_size _ rfl
/-! ### lists of tuples of numbers -/
def TRows (H : Hp) (ps : List Addr) (rs : List (List Int)) : Prop := ps.length = rs.length ∧ ∀ (i : Nat) (p : Addr) (r : List Int), ps[i]? = some p → rs[i]? = some r → H p = some (.tup (r.map V.int))
theorem TRows.nil (H : Hp) : TRows H [] [] := ⟨rfl, fun _ _ _ h => by cases h⟩
theorem TRows.same {H H' : Hp} {ps : List Addr} {rs : List (List Int)} (h : TRows H ps rs) (s : Same H H') : TRows H' ps rs := ⟨h.1, fun i p r a b => s _ _ (h.2 i p r a b)⟩
theorem TRows.mut {H : Hp} {ps : List Addr} {rs : List (List Int)} {L : Addr} {xs : List V} {o : HO} (h : TRows H ps rs) (hL : H L = some (.lst xs)) : TRows (upd H L o) ps rs := ⟨h.1, fun i p r a b => by
  have e := h.2 i p r a b
  rw [upd_ne (fun z => by rw [z, hL] at e; cases e)]
  exact e⟩
theorem TRows.snoc {H : Hp} {ps : List Addr} {rs : List (List Int)} {p : Addr} {r : List Int} (h : TRows H ps rs) (hp : H p = some (.tup (r.map V.int))) : TRows H (ps ++ [p]) (rs ++ [r]) := by
  refine ⟨by rw [List.length_append, List.length_append, h.1]; rfl, fun i p' r' a b => ?_⟩
  by_cases e : i < ps.length
  · rw [List.getElem?_append_left e] at a
    rw [List.getElem?_append_left (by rw [← h.1]; exact e)] at b
    exact h.2 i p' r' a b
  · have l1 := (List.getElem?_eq_some_iff.mp a).1
    rw [List.length_append] at l1
    have e' : i = ps.length := by simp at l1; omega
    subst e'
    rw [List.getElem?_append_right (Nat.le_refl _), Nat.sub_self] at a
    rw [h.1, List.getElem?_append_right (Nat.le_refl _), Nat.sub_self] at b
    cases a
    cases b
    exact hp
def dRows (rs : List (List Int)) : PyData := .list (rs.map fun r => .tuple (r.map PyData.int))
theorem lay_rows : ∀ rs : List (List Int), PyData.canLayAll0 (rs.map fun r => .tuple (r.map PyData.int)) = true ∧ PyData.depthAll (rs.map fun r => .tuple (r.map PyData.int)) ≤ 1
  | [] => ⟨rfl, by decide⟩
  | r :: rs => by
    obtain ⟨h1, h2⟩ := lay_rows rs
    obtain ⟨g1, g2⟩ := lay_ints r
    constructor
    · show (PyData.canLayAll0 (r.map PyData.int) && PyData.canLayAll0 (rs.map fun r => .tuple (r.map PyData.int))) = true
      rw [h1, g1]
      rfl
    · show max (PyData.depthAll (r.map PyData.int) + 1) (PyData.depthAll (rs.map fun r => .tuple (r.map PyData.int))) ≤ 1
      rw [g2]
      omega
theorem shp_rows (rs : List (List Int)) : SeqAt.shaped (dRows rs) = true := by
  obtain ⟨h1, h2⟩ := lay_rows rs
  show (PyData.canLayAll0 (rs.map fun r => .tuple (r.map PyData.int)) && decide (PyData.depthAll (rs.map fun r => .tuple (r.map PyData.int)) + 1 ≤ 64)) = true
  rw [h1, decide_eq_true (by omega)]
  rfl
theorem dp_rows {K : PySem.W.Frag} {H : Hp} : ∀ (ps : List Addr) (rs : List (List Int)), TRows H ps rs → DpAll K H (ps.map V.ref) (rs.map fun r => PyData.tuple (r.map PyData.int))
  | [], [], _ => .nil
  | [], _ :: _, h => absurd h.1 (by simp)
  | _ :: _, [], h => absurd h.1 (by simp)
  | p :: ps, r :: rs, h => .cons (.tup (SqT.of (h.2 0 p r rfl rfl)) (dp_ints r)) (dp_rows ps rs ⟨by have := h.1; simp at this; exact this, fun i p' r' a b => h.2 (i + 1) p' r' (by rw [List.getElem?_cons_succ]; exact a) (by rw [List.getElem?_cons_succ]; exact b)⟩)
theorem TRows.dp {K : PySem.W.Frag} {H : Hp} {l : Addr} {ps : List Addr} {rs : List (List Int)} (hl : H l = some (.lst (ps.map V.ref))) (h : TRows H ps rs) : Dp K H (.ref l) (dRows rs) := .lst (SqL.of hl) (dp_rows ps rs h)
/-! ### the first rules that fit -/
def ruleOf (m : Int) (xs : List Int) (t : Int) : List Int := [t, plusOf m xs t, m]
def rulesN (m : Int) (xs : List Int) (l s : Int) (n : Nat) : List (List Int) := (List.range n).map fun (i : Nat) => ruleOf m xs (l + (i : Int) * s)
def howMany (m : Int) (n : Int) : Option (Int × Int) → Nat
  | some (_, s) => (min n (m / s)).toNat
  | none => 0
def rulesR (m : Int) (xs : List Int) (n : Int) (o : Option (Int × Int)) : List (List Int) := match o with
  | some (l, s) => rulesN m xs l s (howMany m n (some (l, s)))
  | none => []
theorem rulesN_succ (m : Int) (xs : List Int) (l s : Int) (n : Nat) : rulesN m xs l s (n + 1) = rulesN m xs l s n ++ [ruleOf m xs (l + (n : Int) * s)] := by
  unfold rulesN
  rw [List.range_succ, List.map_append]
  rfl
theorem rulesN_len (m : Int) (xs : List Int) (l s : Int) (n : Nat) : (rulesN m xs l s n).length = n := by
  unfold rulesN
  rw [List.length_map, List.length_range]
/-- how many the range tells -/
theorem rg_count {m l s n : Int} (m0 : 0 < m) (s0 : 0 < s) (sd : s ∣ m) (l0 : 0 ≤ l) (l1 : l < s) (n0 : 0 ≤ n) : rgN l (if l + s * n < m then l + s * n else m) s = (min n (m / s)).toNat := by
  obtain ⟨c, rfl⟩ := sd
  have c0 : 0 < c := by
    by_cases z : 0 < c
    · exact z
    · have := Int.mul_nonneg (show 0 ≤ s by omega) (show 0 ≤ -c by omega)
      have e : s * -c = -(s * c) := by grind
      omega
  rw [Int.mul_ediv_cancel_left _ (show s ≠ 0 by omega)]
  unfold rgN
  by_cases h : l + s * n < s * c
  · rw [if_pos h]
    have nc : n < c := by
      by_cases z : n < c
      · exact z
      · have := Int.mul_le_mul_of_nonneg_left (show c ≤ n by omega) (show 0 ≤ s by omega)
        omega
    by_cases hn : n = 0
    · subst hn
      rw [Int.mul_zero, if_neg (by omega)]
      omega
    · have h1 := Int.mul_le_mul_of_nonneg_left (show 1 ≤ n by omega) (show 0 ≤ s by omega)
      rw [Int.mul_one] at h1
      rw [if_pos (by omega)]
      have e : (l + s * n - l - 1) / s = n - 1 := by
        rw [show l + s * n - l - 1 = (s - 1) + s * (n - 1) by grind, Int.add_mul_ediv_left _ _ (show s ≠ 0 by omega), Int.ediv_eq_zero_of_lt (by omega) (by omega)]
        omega
      rw [e]
      omega
  · rw [if_neg h]
    have cn : c ≤ n := by
      by_cases z : c ≤ n
      · exact z
      · have := Int.mul_le_mul_of_nonneg_left (show n + 1 ≤ c by omega) (show 0 ≤ s by omega)
        have e : s * (n + 1) = s * n + s := by grind
        omega
    have h1 := Int.mul_le_mul_of_nonneg_left (show 1 ≤ c by omega) (show 0 ≤ s by omega)
    rw [Int.mul_one] at h1
    rw [if_pos (by omega)]
    have e : (s * c - l - 1) / s = c - 1 := by
      rw [show s * c - l - 1 = (s - 1 - l) + s * (c - 1) by grind, Int.add_mul_ediv_left _ _ (show s ≠ 0 by omega), Int.ediv_eq_zero_of_lt (by omega) (by omega)]
      omega
    rw [e]
    omega
def pRules (K : PySem.W.Frag) (CN : Addr) : V → V → V → Hp → VK → XK → Prop := fun a b c H Q E => ∃ (r : Addr) (xs : List Int) (m n : Int), a = .ref r ∧ b = .int m ∧ c = .int n ∧ SqT K H r (xs.map V.int) ∧ 1 ≤ m ∧ m ≤ 1000000000000 ∧ 0 ≤ n ∧ n ≤ 3000 ∧ 2 ≤ xs.length ∧ xs.length ≤ 1000 ∧
  (Rng m xs → ∀ H' l ps o, Same H H' → H l = none → H' l = some (.lst (ps.map V.ref)) → TRows H' ps (rulesR m xs n o) → FitR m xs (xs.length - 2) o → Q (.ref l) H') ∧ (∀ i, FirstBad m xs i → Bad CN (xs.getD i 0) H E)
end Tw
namespace Tw
open PySem PySem.Spec PyProof.Rows L2
def pDueR (K : PySem.W.Frag) : V → V → V → Hp → VK → XK → Prop := fun a b c H Q _ => ∃ (r : Addr) (xs : List Int) (m n : Int), a = .ref r ∧ b = .int m ∧ c = .int n ∧ SqT K H r (xs.map V.int) ∧ 1 ≤ m ∧ m ≤ 1000000000000 ∧ 0 ≤ n ∧ n ≤ 3000 ∧ 2 ≤ xs.length ∧ xs.length ≤ 1000 ∧ Rng m xs ∧
  ∀ H' l ps o, Same H H' → H l = none → H' l = some (.lst (ps.map V.ref)) → TRows H' ps (rulesR m xs n o) → FitR m xs (xs.length - 2) o → Q (.ref l) H'
def pAreR : V → V → Hp → VK → XK → Prop := fun a b H Q _ => ∃ (l1 l2 : Addr) (ps1 ps2 : List Addr) (rs : List (List Int)), a = .ref l1 ∧ b = .ref l2 ∧ H l1 = some (.lst (ps1.map V.ref)) ∧ H l2 = some (.lst (ps2.map V.ref)) ∧ TRows H ps1 rs ∧ TRows H ps2 rs ∧ ∀ H', Same H H' → Q (.bl true) H'
def pRight12 (K : PySem.W.Frag) : V → V → V → Hp → VK → XK → Prop := fun a b c H Q _ => ∃ (r : Addr) (xs : List Int) (m n : Int), a = .ref r ∧ b = .int m ∧ c = .int n ∧ SqT K H r (xs.map V.int) ∧ 1 ≤ m ∧ m ≤ 1000000000000 ∧ 0 ≤ n ∧ n ≤ 3000 ∧ 2 ≤ xs.length ∧ xs.length ≤ 1000 ∧ Rng m xs ∧ ∀ H', Same H H' → Q (.bl true) H'
theorem rulesR_len {m n : Int} {xs : List Int} {o : Option (Int × Int)} (n0 : 0 ≤ n) (n1 : n ≤ 3000) : (rulesR m xs n o).length ≤ 3000 := by
  cases o with
  | none => exact Nat.zero_le _
  | some p =>
    obtain ⟨l, s⟩ := p
    show (rulesN m xs l s (min n (m / s)).toNat).length ≤ 3000
    rw [rulesN_len]
    omega
theorem TRows.get {H : Hp} {ps : List Addr} {rs : List (List Int)} (h : TRows H ps rs) {i : Nat} {v : V} (hv : (ps.map V.ref)[i]? = some v) : ∃ p r, v = .ref p ∧ rs[i]? = some r ∧ H p = some (.tup (r.map V.int)) := by
  rw [List.getElem?_map] at hv
  cases e : ps[i]? with
  | none => rw [e] at hv; cases hv
  | some p =>
    rw [e] at hv
    cases hv
    have li := (List.getElem?_eq_some_iff.mp e).1
    have lr : i < rs.length := by rw [← h.1]; exact li
    exact ⟨p, rs[i], rfl, List.getElem?_eq_getElem lr, h.2 i p _ e (List.getElem?_eq_getElem lr)⟩
end Tw

/-! What settles a row; the number behind; a held refusal against several classes at once. -/
namespace Tw
open PySem PySem.Spec PyProof.Rows L2

/-- isinstance(e, (C1, C2, ..)), e a held exception of the class at D -/
def rIsXT (K : PySem.W.Frag) : List V → Hp → VK → Prop := fun xs H Q => ∃ (a D : Addr) (d : Option Addr) (tp : Addr) (cs : List V) (us : List Value) (b : Bool), xs = [.ref a, .ref tp] ∧ H tp = some (.tup cs) ∧ Paired ClsV cs us ∧ H a = some (exv a (.ref D) d) ∧ HasD H d ∧ XcC K D ∧ PySem.W.kitAny K (.ref D) us = some b ∧ Q (.bl b) H
theorem call_isXT {X : Cx} : CallR X (.builtin "isinstance") (rIsXT X.K) := by
  intro pins s σ H xs us Q I r h
  obtain ⟨a, D, d, tp, cs, ws, b, rfl, hT, k, ea, hd, T, e, q⟩ := h
  obtain ⟨u1, u2, rfl, r1, r2⟩ := vals2 r
  cases (show u1 = Value.ref a from r1)
  cases (show u2 = Value.ref tp from r2)
  obtain ⟨_, its, rv, o, h1, h2, n, h3⟩ := (show ObjOk X.prog X.w H s.heap tp (.tup cs) from I.hok tp _ hT)
  have e3 := ClsV.all k rv
  subst e3
  obtain ⟨oc, od', dt, sl⟩ := o
  simp only at h2 h3
  subst h2 h3
  obtain ⟨oe, od, J⟩ := inst_of I ea hd
  exact PySem.W.kia_tup (PySem.W.kitx_exc T.hc T.hg T.hk T.hs T.ha T.hn T.ht T.hm) I.kIn J h1 e (fun z => nomatch z) fun tk => ⟨.bl b, H, I.tok tk, rfl, q⟩
theorem kitAny4 {K : PySem.W.Frag} {t a b c d : Value} (ha : PySem.W.kitOne K t a = some false) (hb : PySem.W.kitOne K t b = some false) (hc : PySem.W.kitOne K t c = some false) (hd : PySem.W.kitOne K t d = some false) : PySem.W.kitAny K t [a, b, c, d] = some false := by
  unfold PySem.W.kitAny
  rw [ha]
  simp only
  unfold PySem.W.kitAny
  rw [hb]
  simp only
  unfold PySem.W.kitAny
  rw [hc]
  simp only
  unfold PySem.W.kitAny
  rw [hd]
  rfl
theorem flatI (ns : List Int) : (ns.map V.int).all flatV = true := by
  rw [List.all_map, List.all_eq_true]
  exact fun x _ => rfl
theorem eqVI (a b : Int) : eqV (.int a) (.int b) = decide (a = b) := by
  by_cases h : a = b
  · rw [h]; simp [eqV]
  · simp [eqV, h]
theorem inVI (m : Int) (ns : List Int) : inV (.int m) (ns.map V.int) = decide (m ∈ ns) := by
  unfold inV
  rw [List.any_map]
  by_cases h : m ∈ ns
  · rw [decide_eq_true h, List.any_eq_true]
    exact ⟨m, h, by show eqV (.int m) (.int m) = true; rw [eqVI]; simp⟩
  · rw [decide_eq_false h, List.any_eq_false]
    intro x hx
    show ¬ eqV (.int x) (.int m) = true
    rw [eqVI]
    simp
    exact fun e => h (e ▸ hx)
/-! ### beginnings -/
theorem gat_take {xs : List Int} {k i : Nat} (h : i + 1 < k) : gat (xs.take k) i = gat xs i := by
  unfold gat
  rw [List.getD_eq_getElem?_getD, List.getD_eq_getElem?_getD, List.getD_eq_getElem?_getD, List.getD_eq_getElem?_getD, List.getElem?_take_of_lt h, List.getElem?_take_of_lt (by omega)]
theorem fitU_take {m : Int} {xs : List Int} {k j : Nat} {t : Int} (h : j + 2 ≤ k) : FitU m (xs.take k) j t ↔ FitU m xs j t := by
  constructor
  · intro q i hi
    have := q i hi
    rw [gat_take (by omega), gat_take (by omega)] at this
    exact this
  · intro q i hi
    rw [gat_take (by omega), gat_take (by omega)]
    exact q i hi
theorem fitR_take {m : Int} {xs : List Int} {k j : Nat} {o : Option (Int × Int)} (h : j + 2 ≤ k) : FitR m (xs.take k) j o ↔ FitR m xs j o := by
  cases o with
  | none => exact ⟨fun q t ht => q t ((fitU_take h).mpr ht), fun q t ht => q t ((fitU_take h).mp ht)⟩
  | some p =>
    obtain ⟨l, s⟩ := p
    constructor
    · rintro ⟨a, b, c, d, e⟩
      exact ⟨a, b, c, d, fun t => (fitU_take h).symm.trans (e t)⟩
    · rintro ⟨a, b, c, d, e⟩
      exact ⟨a, b, c, d, fun t => (fitU_take h).trans (e t)⟩
theorem fitV_take {m : Int} {xs : List Int} {k j : Nat} {H : Hp} {v : V} (h : j + 2 ≤ k) : FitV m (xs.take k) j H v ↔ FitV m xs j H v := by
  unfold FitV
  simp only [fitR_take h]
/-- one rule alone fits the first j conditions -/
def One (m : Int) (xs : List Int) (j : Nat) : Prop := ∃ l, FitR m xs j (some (l, m))
/-- by what the row is settled -/
def Sett (m : Int) (xs : List Int) (v : V) : Prop := (v = .non ∧ (FitR m xs (xs.length - 2) none ∨ ∀ j, j ≤ xs.length - 2 → ¬ One m xs j)) ∨ ∃ j : Nat, v = .int ((j : Int) + 2) ∧ j ≤ xs.length - 2 ∧ One m xs j ∧ (∀ i, i < j → ¬ One m xs i) ∧ ¬ FitR m xs (xs.length - 2) none
theorem Sett.uniq {m : Int} {xs : List Int} {v u : V} (a : Sett m xs v) (b : Sett m xs u) : v = u := by
  rcases a with ⟨rfl, a⟩ | ⟨j, rfl, jl, o, lo, nn⟩
  · rcases b with ⟨rfl, _⟩ | ⟨j, rfl, jl, o, lo, nn⟩
    · rfl
    · rcases a with a | a
      · exact absurd a nn
      · exact absurd o (a j jl)
  · rcases b with ⟨rfl, b⟩ | ⟨j', rfl, jl', o', lo', nn'⟩
    · rcases b with b | b
      · exact absurd b nn
      · exact absurd o (b j jl)
    · have e : j = j' := by
        by_cases h : j < j'
        · exact absurd o (lo' j h)
        · by_cases h' : j' < j
          · exact absurd o' (lo j' h')
          · omega
      rw [e]
def pSettled (K : PySem.W.Frag) (CN : Addr) : V → V → Hp → VK → XK → Prop := fun a b H Q E => ∃ (r : Addr) (xs : List Int) (m : Int), a = .ref r ∧ b = .int m ∧ SqT K H r (xs.map V.int) ∧ 1 ≤ m ∧ m ≤ 1000000000000 ∧ 2 ≤ xs.length ∧ xs.length ≤ 1000 ∧
  (Rng m xs → ∀ H' v, Same H H' → Sett m xs v → Q v H') ∧ (∀ i, FirstBad m xs i → Bad CN (xs.getD i 0) H E)
/-- the number behind by times t -/
def nxB (m : Int) (xs : List Int) (t : Int) : Int := (t * xs.getD (xs.length - 1) 0 + plusOf m xs t) % m
def behV (m : Int) (xs : List Int) (l s : Int) : V := if nxB m xs l = nxB m xs (l + s) then .int (nxB m xs l) else .non
theorem nxB_eq (m : Int) (xs : List Int) (t : Int) : nxB m xs t = (t * xs.getD (xs.length - 1) 0 + xs.getD 1 0 - t * xs.getD 0 0) % m := by
  unfold nxB plusOf
  rw [Int.add_emod, Int.emod_emod, ← Int.add_emod]
  congr 1
  omega
theorem nxB_m (m : Int) (xs : List Int) (l : Int) : nxB m xs (l + m) = nxB m xs l := by
  rw [nxB_eq, nxB_eq, show (l + m) * xs.getD (xs.length - 1) 0 + xs.getD 1 0 - (l + m) * xs.getD 0 0 = l * xs.getD (xs.length - 1) 0 + xs.getD 1 0 - l * xs.getD 0 0 + m * (xs.getD (xs.length - 1) 0 - xs.getD 0 0) by grind, Int.add_mul_emod_self_left]
def pBehind (K : PySem.W.Frag) (CN CF : Addr) : V → V → Hp → VK → XK → Prop := fun a b H Q E => ∃ (r : Addr) (xs : List Int) (m : Int), a = .ref r ∧ b = .int m ∧ SqT K H r (xs.map V.int) ∧ 1 ≤ m ∧ m ≤ 1000000000000 ∧ 2 ≤ xs.length ∧ xs.length ≤ 1000 ∧
  (Rng m xs → ∀ H' l s, Same H H' → FitR m xs (xs.length - 2) (some (l, s)) → Q (behV m xs l s) H') ∧ (Rng m xs → ∀ H', Same H H' → FitR m xs (xs.length - 2) none → E (.ref CF) none H') ∧ (∀ i, FirstBad m xs i → Bad CN (xs.getD i 0) H E)
end Tw
namespace Tw
theorem idx_le : ∀ {ss : List Int} {k : Nat} {m : Int}, ss[k]? = some m → ss.idxOf m ≤ k
  | [], _, _, h => by cases h
  | a :: ss, 0, m, h => by
    cases h
    rw [List.idxOf_cons_self]
    exact Nat.le_refl _
  | a :: ss, k + 1, m, h => by
    rw [List.getElem?_cons_succ] at h
    have := idx_le h
    rw [List.idxOf_cons]
    cases (a == m)
    · show List.idxOf m ss + 1 ≤ k + 1
      omega
    · exact Nat.zero_le _
end Tw
namespace Tw
open PySem PySem.Spec PyProof.Rows L2
def pLSett (K : PySem.W.Frag) : V → V → Hp → VK → XK → Prop := fun a b H Q _ => ∃ (r : Addr) (xs : List Int) (m : Int), a = .ref r ∧ b = .int m ∧ SqT K H r (xs.map V.int) ∧ 1 ≤ m ∧ m ≤ 1000000000000 ∧ Rng m xs ∧ 2 ≤ xs.length ∧ xs.length ≤ 1000 ∧ ∀ H' v, Same H H' → Sett m xs v → Q v H'
def pLNext (K : PySem.W.Frag) : V → V → V → Hp → VK → XK → Prop := fun a b c H Q _ => ∃ (r : Addr) (xs : List Int) (m t : Int), a = .ref r ∧ b = .int m ∧ c = .int t ∧ SqT K H r (xs.map V.int) ∧ 1 ≤ m ∧ m ≤ 1000000000000 ∧ Rng m xs ∧ 2 ≤ xs.length ∧ 0 ≤ t ∧ t ≤ 2000000000000 ∧ Q (.int (nxB m xs t)) H
def pNoFit (K : PySem.W.Frag) : V → V → Hp → VK → XK → Prop := fun a b H Q _ => ∃ (r : Addr) (xs : List Int) (m : Int), a = .ref r ∧ b = .int m ∧ SqT K H r (xs.map V.int) ∧ 1 ≤ m ∧ m ≤ 1000000000000 ∧ Rng m xs ∧ 2 ≤ xs.length ∧ xs.length ≤ 1000 ∧ FitR m xs (xs.length - 2) none ∧ ∀ H', Same H H' → Q (.bl true) H'
theorem at_last {xs : List Int} (h : 1 ≤ xs.length) : atI (xs.map V.int) (-1) = some (.int (xs.getD (xs.length - 1) 0)) := by
  have ne : xs ≠ [] := fun z => by rw [z] at h; exact absurd h (by simp)
  have e1 : xs.getD (xs.length - 1) 0 = xs.getLast ne := by
    rw [get_D (List.getElem?_eq_getElem (show xs.length - 1 < xs.length by omega)), List.getLast_eq_getElem]
  rw [e1]
  conv => lhs; rw [← List.dropLast_concat_getLast ne]
  rw [List.map_append]
  exact atI_last _ _
end Tw

/-! One more number behind a row; rules told against the row. -/
namespace Tw
open PySem PySem.Spec PyProof.Rows L2

theorem getD_snoc_l {xs : List Int} {y : Int} {i : Nat} (h : i < xs.length) : (xs ++ [y]).getD i 0 = xs.getD i 0 := by
  rw [List.getD_eq_getElem?_getD, List.getD_eq_getElem?_getD, List.getElem?_append_left h]
theorem getD_snoc_r {xs : List Int} {y : Int} : (xs ++ [y]).getD xs.length 0 = y := by
  rw [List.getD_eq_getElem?_getD, List.getElem?_append_right (Nat.le_refl _), Nat.sub_self]
  rfl
theorem plus_snoc {m : Int} {xs : List Int} {y t : Int} (h : 2 ≤ xs.length) : plusOf m (xs ++ [y]) t = plusOf m xs t := by
  unfold plusOf
  rw [getD_snoc_l (by omega), getD_snoc_l (by omega)]
/-- one more number: the times that fit and lead on to it -/
theorem fit_snoc {m : Int} {xs : List Int} {y t : Int} (m0 : 0 < m) (rg : Rng m xs) (y0 : 0 ≤ y) (y1 : y < m) (h : 2 ≤ xs.length) : FitU m (xs ++ [y]) (xs.length - 1) t ↔ FitU m xs (xs.length - 2) t ∧ nxB m xs t = y := by
  have rg' : Rng m (xs ++ [y]) := rng_snoc rg ⟨y0, y1⟩
  rw [← step_iff m0 rg' t, ← step_iff m0 rg t]
  constructor
  · intro q
    constructor
    · intro i hi
      have := q i (by omega)
      rw [plus_snoc h, getD_snoc_l (by omega), getD_snoc_l (by omega)] at this
      exact this
    · have := q (xs.length - 1) (by omega)
      rw [plus_snoc h, getD_snoc_l (by omega), show xs.length - 1 + 1 = xs.length by omega, getD_snoc_r] at this
      exact this
  · rintro ⟨q, e⟩ i hi
    rw [plus_snoc h]
    by_cases ei : i = xs.length - 1
    · subst ei
      rw [getD_snoc_l (by omega), show xs.length - 1 + 1 = xs.length by omega, getD_snoc_r]
      exact e
    · rw [getD_snoc_l (by omega), getD_snoc_l (by omega)]
      exact q i (by omega)
theorem nxB_rng {m : Int} (m0 : 0 < m) (xs : List Int) (t : Int) : 0 ≤ nxB m xs t ∧ nxB m xs t < m := mod_bd _ m0
/-- steps that lead to the same number do so always -/
theorem nxB_all {m : Int} {xs : List Int} {l s : Int} (e : nxB m xs l = nxB m xs (l + s)) (c : Int) : nxB m xs (l + c * s) = nxB m xs l := by
  rw [nxB_eq, nxB_eq] at e ⊢
  have h := Int.emod_eq_emod_iff_emod_sub_eq_zero.mp e
  have hd := Int.dvd_of_emod_eq_zero h
  refine Int.emod_eq_emod_iff_emod_sub_eq_zero.mpr (Int.emod_eq_zero_of_dvd ?_)
  have := Int.dvd_trans hd (Int.dvd_mul_left (-c) _)
  rw [show -c * (l * xs.getD (xs.length - 1) 0 + xs.getD 1 0 - l * xs.getD 0 0 - ((l + s) * xs.getD (xs.length - 1) 0 + xs.getD 1 0 - (l + s) * xs.getD 0 0)) = (l + c * s) * xs.getD (xs.length - 1) 0 + xs.getD 1 0 - (l + c * s) * xs.getD 0 0 - (l * xs.getD (xs.length - 1) 0 + xs.getD 1 0 - l * xs.getD 0 0) by grind] at this
  exact this
theorem fitR_in {m : Int} {xs : List Int} {k : Nat} {l s : Int} (F : FitR m xs k (some (l, s))) (c : Int) : FitU m xs k (l + c * s) := (F.2.2.2.2 _).mpr ⟨c, by grind⟩
theorem fitR_l {m : Int} {xs : List Int} {k : Nat} {l s : Int} (F : FitR m xs k (some (l, s))) : FitU m xs k l := (F.2.2.2.2 _).mpr (by rw [Int.sub_self]; exact Int.dvd_zero s)
/-- what fits more conditions is a part of what fits fewer -/
theorem fit_sub {m : Int} {xs ys : List Int} {j k : Nat} {l s l' s' : Int} (F : FitR m xs k (some (l, s))) (F' : FitR m ys j (some (l', s'))) (h : ∀ t, FitU m xs k t → FitU m ys j t) : s' ∣ s ∧ s' ∣ l - l' := by
  have e1 := (F'.2.2.2.2 l).mp (h _ (fitR_l F))
  have e2 := (F'.2.2.2.2 (l + 1 * s)).mp (h _ (fitR_in F 1))
  refine ⟨?_, e1⟩
  have := Int.dvd_sub e2 e1
  rw [show l + 1 * s - l' - (l - l') = s by omega] at this
  exact this
/-- behind: the same number by all -/
theorem fit_behind {m : Int} {xs : List Int} {l s : Int} (m0 : 0 < m) (rg : Rng m xs) (h : 2 ≤ xs.length) (F : FitR m xs (xs.length - 2) (some (l, s))) (e : nxB m xs l = nxB m xs (l + s)) : FitR m (xs ++ [nxB m xs l]) (xs.length - 1) (some (l, s)) := by
  have nr := nxB_rng m0 xs l
  refine ⟨F.1, F.2.1, F.2.2.1, F.2.2.2.1, fun t => ?_⟩
  rw [fit_snoc m0 rg nr.1 nr.2 h, F.2.2.2.2 t]
  constructor
  · exact fun q => q.1
  · intro q
    refine ⟨q, ?_⟩
    obtain ⟨c, hc⟩ := q
    rw [show t = l + c * s by grind]
    exact nxB_all e c
theorem fit_other {m : Int} {xs : List Int} {l s y : Int} (m0 : 0 < m) (rg : Rng m xs) (h : 2 ≤ xs.length) (F : FitR m xs (xs.length - 2) (some (l, s))) (e : nxB m xs l = nxB m xs (l + s)) (y0 : 0 ≤ y) (y1 : y < m) (ny : y ≠ nxB m xs l) : FitR m (xs ++ [y]) (xs.length - 1) none := fun t ht => by
  obtain ⟨a, b⟩ := (fit_snoc m0 rg y0 y1 h).mp ht
  obtain ⟨c, hc⟩ := (F.2.2.2.2 t).mp a
  rw [show t = l + c * s by grind, nxB_all e c] at b
  exact ny b.symm
theorem fit_fewer {m : Int} {xs : List Int} {l s l' s' : Int} (m0 : 0 < m) (rg : Rng m xs) (h : 2 ≤ xs.length) (F : FitR m xs (xs.length - 2) (some (l, s))) (e : nxB m xs l ≠ nxB m xs (l + s)) (F' : FitR m (xs ++ [nxB m xs l]) (xs.length - 1) (some (l', s'))) : s < s' ∧ s' % s = 0 := by
  have nr := nxB_rng m0 xs l
  obtain ⟨d, _⟩ := fit_sub F' F (fun t ht => ((fit_snoc m0 rg nr.1 nr.2 h).mp ht).1)
  have le : s ≤ s' := Int.le_of_dvd F'.1 d
  refine ⟨?_, Int.emod_eq_zero_of_dvd d⟩
  by_cases z : s < s'
  · exact z
  · have es : s' = s := by omega
    subst es
    have hl : FitU m (xs ++ [nxB m xs l]) (xs.length - 1) l := (fit_snoc m0 rg nr.1 nr.2 h).mpr ⟨fitR_l F, rfl⟩
    have h1 := (F'.2.2.2.2 l).mp hl
    have h2 : FitU m (xs ++ [nxB m xs l]) (xs.length - 1) (l + s') := (F'.2.2.2.2 _).mpr (by
      rw [show l + s' - l' = l - l' + s' by omega]
      exact Int.dvd_add h1 (Int.dvd_refl s'))
    exact absurd ((fit_snoc m0 rg nr.1 nr.2 h).mp h2).2.symm e
/-- the row by a rule that fits -/
theorem row_of_fit {m : Int} {xs : List Int} {t : Int} (m0 : 0 < m) (rg : Rng m xs) (h : 2 ≤ xs.length) (F : FitU m xs (xs.length - 2) t) : orb (stp t (plusOf m xs t) m) xs.length (xs.getD 0 0) = xs := by
  have st := (step_iff m0 rg t (xs.length - 2)).mpr F
  have it : ∀ i, i < xs.length → itr (stp t (plusOf m xs t) m) i (xs.getD 0 0) = xs.getD i 0 := by
    intro i
    induction i with
    | zero => exact fun _ => rfl
    | succ i ih =>
      intro hi
      show stp t (plusOf m xs t) m (itr (stp t (plusOf m xs t) m) i (xs.getD 0 0)) = _
      rw [ih (by omega)]
      exact st i (by omega)
  refine List.ext_getElem? fun i => ?_
  by_cases hi : i < xs.length
  · unfold orb
    rw [List.getElem?_map, List.getElem?_range hi]
    show some (itr (stp t (plusOf m xs t) m) i (xs.getD 0 0)) = _
    rw [it i hi, List.getElem?_eq_getElem hi, get_D (List.getElem?_eq_getElem hi)]
  · rw [List.getElem?_eq_none (by rw [orb_len]; omega), List.getElem?_eq_none (by omega)]
theorem one_mono {m : Int} {xs : List Int} {j k : Nat} {l s : Int} (m0 : 0 < m) (hj : j ≤ k) (O : One m xs j) (F : FitR m xs k (some (l, s))) : s = m := by
  obtain ⟨l', F'⟩ := O
  obtain ⟨d, _⟩ := fit_sub F F' (fun t ht => fitU_mono ht hj)
  exact Int.dvd_antisymm (by have := F.1; omega) (by omega) F.2.1 d
def pRulesR (K : PySem.W.Frag) : V → V → V → Hp → VK → XK → Prop := fun a b c H Q _ => ∃ (r f : Addr) (xs : List Int) (m l s : Int), a = .ref r ∧ b = .int m ∧ c = .ref f ∧ H r = some (.tup (xs.map V.int)) ∧ H f = some (.tup [.int l, .int s]) ∧ 1 ≤ m ∧ m ≤ 1000000000000 ∧ Rng m xs ∧ 2 ≤ xs.length ∧ xs.length ≤ 1000 ∧ FitR m xs (xs.length - 2) (some (l, s)) ∧ ∀ H', Same H H' → Q (.bl true) H'
def pBehR (K : PySem.W.Frag) : V → V → V → V → Hp → VK → XK → Prop := fun e a b c H Q _ => ∃ (d r f : Addr) (n : Nat) (xs : List Int) (m l s : Int), e = .ref d ∧ a = .ref r ∧ b = .int m ∧ c = .ref f ∧ Seed H d n ∧ n + 10 ≤ 100000000 ∧ H r = some (.tup (xs.map V.int)) ∧ H f = some (.tup [.int l, .int s]) ∧ 1 ≤ m ∧ m ≤ 1000000000000 ∧ Rng m xs ∧ 2 ≤ xs.length ∧ xs.length ≤ 900 ∧ FitR m xs (xs.length - 2) (some (l, s)) ∧ ∀ H', But d H H' → Q (.bl true) H'
end Tw

/-! Calls by keywords alone; refusals made by hand: held with their text, or with their number. -/
namespace Tw
open PySem PySem.Spec PyProof.Rows L2
/-! ### f(k = v, ..) -/
/-- how a def of plain parameters binds keywords alone -/
def KwOf (K : PySem.W.Frag) (mg : Str → Option Value) (x : Str) (ps ks : List Str) (g : List Value → List Value → List Value) (gV : List V → List V → List V) : Prop := ∃ (f : Addr) (fd : FuncData), mg x = some (.ref f) ∧ Lk K f fd ∧ KBinds K fd ps ks g gV
theorem Top.kw {K : PySem.W.Frag} {mg : Str → Option Value} {x : Str} {st : Stmt} {ps ks : List Str} {g : List Value → List Value → List Value} {gV : List V → List V → List V} (D : Top K mg x st ps)
    (hb : ∀ (kV doc pm : Value) (an : Option Addr) (cdv ct : Value) (us ws : List Value), (g us ws).length = ps.length → bindArgs (PySem.W.fnOf x x (defArgs st) (defBody st) (defScope st) .none kV doc pm an cdv ct) ⟨us, ks.zip ws⟩ = pure (ps.zip (g us ws)))
    (rel : ∀ {vs : List V} {us : List Value} {zs : List V} {ws : List Value}, Vals vs us → Vals zs ws → Vals (gV vs zs) (g us ws)) : KwOf K mg x ps ks g gV := by
  obtain ⟨f, fd, F, m, _⟩ := D
  have lk := lk_of F
  obtain ⟨oc, od, kV, doc, pm, an, cdv, ct, osl, rfl, _, _⟩ := F.ex
  exact ⟨f, _, m, lk, ⟨fun s us ws _ hl => .of_eq (hb kV doc pm an cdv ct us ws hl), rel⟩⟩
/-! the keywords' order turned -/
def g1 {α : Type} : List α → List α → List α
  | [], [a] => [a]
  | _, _ => []
def g2 {α : Type} : List α → List α → List α
  | [], [a, b] => [b, a]
  | _, _ => []
def g3 {α : Type} : List α → List α → List α
  | [], [a, b, c] => [c, b, a]
  | _, _ => []
theorem g1_inv {α : Type} {us ws : List α} (h : (g1 us ws).length = 1) : ∃ a, us = [] ∧ ws = [a] := by
  unfold g1 at h
  split at h
  · exact ⟨_, rfl, rfl⟩
  · cases h
theorem g2_inv {α : Type} {us ws : List α} (h : (g2 us ws).length = 2) : ∃ a b, us = [] ∧ ws = [a, b] := by
  unfold g2 at h
  split at h
  · exact ⟨_, _, rfl, rfl⟩
  · cases h
theorem g3_inv {α : Type} {us ws : List α} (h : (g3 us ws).length = 3) : ∃ a b c, us = [] ∧ ws = [a, b, c] := by
  unfold g3 at h
  split at h
  · exact ⟨_, _, _, rfl, rfl⟩
  · cases h
theorem g1_rel {vs : List V} {us : List Value} {zs : List V} {ws : List Value} (a : Vals vs us) (b : Vals zs ws) : Vals (g1 vs zs) (g1 us ws) := by
  cases a with
  | nil =>
    cases b with
    | nil => exact .nil
    | cons r1 t1 =>
      cases t1 with
      | nil => exact .cons r1 .nil
      | cons r2 t2 => exact .nil
  | cons r t => exact .nil
theorem g2_rel {vs : List V} {us : List Value} {zs : List V} {ws : List Value} (a : Vals vs us) (b : Vals zs ws) : Vals (g2 vs zs) (g2 us ws) := by
  cases a with
  | nil =>
    cases b with
    | nil => exact .nil
    | cons r1 t1 =>
      cases t1 with
      | nil => exact .nil
      | cons r2 t2 =>
        cases t2 with
        | nil => exact .cons r2 (.cons r1 .nil)
        | cons r3 t3 => exact .nil
  | cons r t => exact .nil
theorem g3_rel {vs : List V} {us : List Value} {zs : List V} {ws : List Value} (a : Vals vs us) (b : Vals zs ws) : Vals (g3 vs zs) (g3 us ws) := by
  cases a with
  | nil =>
    cases b with
    | nil => exact .nil
    | cons r1 t1 =>
      cases t1 with
      | nil => exact .nil
      | cons r2 t2 =>
        cases t2 with
        | nil => exact .nil
        | cons r3 t3 =>
          cases t3 with
          | nil => exact .cons r3 (.cons r2 (.cons r1 .nil))
          | cons r4 t4 => exact .nil
  | cons r t => exact .nil
/-! ### text * n -/
def rMulS : R2 := fun x y H Q => ∃ (a : Str) (i : Int), x = .str a ∧ y = .int i ∧ MulOk a i ∧ Q (.str (Txt.mul a i)) H
theorem op_mulS {X : Cx} : OpR X (binaryOp .Mult) rMulS := by
  intro pins s σ H x y u v Q I r1 r2 h
  obtain ⟨a, i, rfl, rfl, ok, q⟩ := h
  obtain ⟨t1, rfl⟩ := r1
  obtain ⟨t2, rfl⟩ := r2
  exact PySem.SB.mul ok fun t' k => ⟨.str (Txt.mul a i), H, I.tok _, ⟨t', rfl⟩, q⟩
section
variable {X : Cx} {CX : CXT} {k : Nat} {ps ks : List Str} {sp : Sp} {E : XK} {x : Str} {p pos : Pos} {kws : List Keyword} {tk : TA} {g : List Value → List Value → List Value} {gV : List V → List V → List V}
theorem pe_kw (h : Has X.prog X.w X.K X.mg X.base CX k x ps sp) (b : KwOf X.K X.mg x ps ks g gV) (hr : Room k X.A) (hx : Passes CX X E) (hkw : PK X kws tk) (hg : Gl X x := by rfl) (hall : (backToKw pos (keywordEach kws X.env)).all (·.1.isSome) = true := by rfl)
    (hks : (backToKw pos (keywordEach kws X.env)).filterMap (·.1) = ks := by rfl) (hdb : (x == ("__debug__" : Str)) = false := by decide)
    (hpl : ((backTo pos (starEach [] X.env)).any (·.1) || (backToKw pos (keywordEach kws X.env)).any (·.1.isNone)) = false := by rfl) :
    PE X (.Call (.Name x p) [] kws pos) (tCallK sp gV E tNil tk) := by
  obtain ⟨f, fd, F, m, kp, _, lk⟩ := h
  obtain ⟨f', fd', m', lk', kb⟩ := b
  obtain rfl : f = f' := by
    have z := m.symm.trans m'
    cases z
    rfl
  obtain rfl := lk.eq lk'
  refine ⟨fun pins s σ H Q I q => wpAny_Call_Name_kw (ld_glob I hg m ?_ hdb)⟩
  refine PySem.W.callWith_KW0 (h₀ := X.base) I.ok.mod.kin kp hall (thn (hkw.run pos pins s σ H _ I q) fun ws s2 y => ?_) hpl
  obtain ⟨zs, H2, I2, rz, q2⟩ := y
  refine ⟨I2.kIn, ?_⟩
  rw [hks]
  exact run_fnk F hr kb hx I2 .nil rz q2
end
/-! ### X(text), held with its text -/
def exm (a C t : Addr) : HO := .ext fun h => ∃ (oe : Obj) (vs : Array Value), h.get? a = some oe ∧ (oe.cls = .ref C ∧ oe.dict = none) ∧ oe.data = .fields vs ∧ vs[0]? = some (.ref t)
theorem exm_ok {P : Program} {w : World} {H : Hp} {h : Heap} {a C t : Addr} {oe : Obj} {vs : Array Value} (e : h.get? a = some oe) (c : oe.cls = .ref C ∧ oe.dict = none) (d : oe.data = .fields vs) (z : vs[0]? = some (.ref t)) : ObjOk P w H h a (exm a C t) :=
  ⟨⟨oe, vs, e, c, d, z⟩, ⟨oe, e⟩, fun _ _ y k => by
    obtain ⟨o, v, q, r⟩ := y
    exact ⟨o, v, k o q, r⟩⟩
theorem exm_at {P : Program} {w : World} {H : Hp} {h : Heap} {a C t : Addr} (hok : HOk P w H h) (e : H a = some (exm a C t)) : ∃ (oe : Obj) (vs : Array Value), h.get? a = some oe ∧ (oe.cls = .ref C ∧ oe.dict = none) ∧ oe.data = .fields vs ∧ vs[0]? = some (.ref t) := by
  have x : ObjOk P w H h a (.ext fun h => ∃ (oe : Obj) (vs : Array Value), h.get? a = some oe ∧ (oe.cls = .ref C ∧ oe.dict = none) ∧ oe.data = .fields vs ∧ vs[0]? = some (.ref t)) := hok a _ e
  exact x.1
theorem pe_exm {X : Cx} {C : Addr} {bmB : List Value} {B newId initId : String} {x : Str} {e : Expr} {ta : TE} {p pos : Pos} (F : ExcBaseFacts B newId initId bmB) (q : PySem.W.excIn X.K C bmB newId = true) (gC : X.mg x = some (.ref C)) (kC : PySem.W.keepIn X.K (.ref C) = true)
    (he : PE X e ta) (hg : Gl X x := by rfl) (hs : starEach [e] X.env = (false, eval e X.env) :: starEach [] X.env := by rfl) (hdb : (x == ("__debug__" : Str)) = false := by decide) :
    PE X (.Call (.Name x p) [e] [] pos) (fun σ H Q => ta σ H fun v H1 => ∀ a t, H1 a = none → H1 t = none → a ≠ t → Q (.ref a) (upd (upd H1 t (.tup [v])) a (exm a C t))) := by
  refine ⟨fun pins s σ H Q I y => wpAny_Call_Name_kw (ld_glob I hg gC ?_ hdb)⟩
  refine PySem.W.callWith_K (h₀ := X.base) I.ok.mod.kin kC ?_ hs (by rfl)
  rw [hs]
  show wpAny _ _ (spliced ((false, eval e X.env) :: backTo pos (starEach [] X.env))) _ _ s
  refine Calls.spliced_cons (thn (he.run pins s σ H _ I y) fun u s1 z => ?_)
  obtain ⟨v, H1, I1, r1, q1⟩ := z
  refine Calls.spliced_nil ⟨I1.kIn, ?_⟩
  show wpAny _ _ (call (.ref C) [u]) _ _ _
  obtain ⟨bm, N, nm, qn, bs, hdct, sn, sub, ab, col, dd, k0, k1, k2, k3, k5, mN, hC, hN, hni, T⟩ := exc_obj I1.kIn q
  refine wpAny_call_exc_subT F T hC hN hni (fun h' a hm => ?_) (by show 1 ≤ sizeLine; decide)
  obtain ⟨t, ht, tn, tt⟩ := hm.there
  have at_ : a ≠ t := fun z => by
    rw [z, tt] at ht
    cases ht
  have na : H1 a = none := I1.hok.gone hm.new
  have nt : H1 t = none := I1.hok.gone tn
  obtain ⟨G, g1, g2⟩ := restrict h' fun b => decide (b ≠ a)
  have gk : ∀ b o, b ≠ a → h'.get? b = some o → G.get? b = some o := fun b o hb e => (g1 b (decide_eq_true hb)).trans e
  have ga : G.get? a = none := g2 a (decide_eq_false fun z => z rfl)
  have I2 : Inv X pins σ (upd H1 t (.tup [v])) { s1 with heap := G, toks := s1.toks } := I1.laidN (fun b o e => gk b o (fun z => by rw [z, hm.new] at e; cases e) (hm.keeps b o e)) tn nt ⟨by show 1 ≤ sizeLine; decide, [u], .cons r1 .nil, ⟨_, gk _ _ (Ne.symm at_) tt, rfl, _, rfl⟩⟩
  have na2 : (upd H1 t (.tup [v])) a = none := by rw [upd_ne at_]; exact na
  have I3 : Inv X pins σ (upd (upd H1 t (.tup [v])) a (exm a C t)) { s1 with heap := h', toks := s1.toks } := I2.laidN (h' := h') (t' := s1.toks) (fun b o e => by
    by_cases z : b = a
    · rw [z] at e
      rw [show G.get? a = none from ga] at e
      cases e
    · exact (g1 b (decide_eq_true z)).symm.trans e) ga na2 (exm_ok ht ⟨rfl, rfl⟩ rfl rfl)
  exact ⟨.ref a, _, I3, rfl, q1 a t na nt at_⟩
/-! ### str(e) -/
def rStrX (K : PySem.W.Frag) : List V → Hp → VK → Prop := fun xs H Q => ∃ (a C t : Addr) (m : Str), xs = [.ref a] ∧ H a = some (exm a C t) ∧ H t = some (.tup [.str m]) ∧ PySem.W.findIn K (.ref C) "__str__" = some (some (.builtin "BaseException.__str__")) ∧ PySem.W.subIn K (.ref C) (.type "BaseException") = some true ∧ Q (.str m) H
theorem call_strX {X : Cx} {k : Nat} (hr : Room k X.A) : CallR X (.type "str") (rStrX X.K) := by
  intro pins s σ H xs us Q I r h
  obtain ⟨a, C, t, m, rfl, ea, et, hs, hB, q⟩ := h
  obtain ⟨u, rfl, ru⟩ := r.one
  cases (show u = Value.ref a from ru)
  obtain ⟨oe, vs, ho, hc, hd, h0⟩ := exm_at I.hok ea
  obtain ⟨_, its, rv, tp⟩ := (show ObjOk X.prog X.w H s.heap t (.tup [.str m]) from I.hok t _ et)
  obtain ⟨w, rfl, rw'⟩ := rv.one
  obtain ⟨tk, rfl⟩ := rw'
  have tup : s.heap.TupAt t [.str m tk] := by
    obtain ⟨o, e1, e2, n, e3⟩ := tp
    exact ⟨o, n, e1, e2, e3⟩
  exact PySem.P.str_of_C_one (by have := hr.units; omega) ⟨I.kIn, oe, vs, ho, hc.1, hd, h0⟩ tup hs hB ⟨.str m, H, I.tok _, ⟨tk, rfl⟩, q⟩
/-! ### X(number) by its own initialiser, held -/
def tMkV (C : Addr) (sp : Sp) (ta : TA) : TE := fun σ H Q => ta σ H fun vs H1 => vs.length ≤ 1000 ∧ ∀ a, H1 a = none → sp (.ref a :: vs) (upd H1 a (exo a C none)) (fun v H2 => v = .non ∧ Q (.ref a) H2) (fun _ _ _ => False)
theorem pe_oexV {X : Cx} {CX : CXT} {x : Str} {C fI : Addr} {k : Nat} {fd : FuncData} {ps : List Str} {sp : Sp} {e : Expr} {es : List Expr} {ta : TA} {p pos : Pos} (T : OexC X.K C) (iC : PySem.W.findIn X.K (.ref C) "__init__" = some (some (.ref fI))) (tI : PySem.W.typeIn X.K (.ref fI) = some (.type "function"))
    (F1 : FnOk X.prog X.w X.K X.mg X.base CX k fI fd ps sp) (hr : Room (k + 1) X.A) (hb : Binds X.K fd ps []) (hx : Passes CX X (fun _ _ _ => False)) (hm : X.mg x = some (.ref C)) (ha : PA X (e :: es) ta) (hg : Gl X x := by rfl)
    (hdb : (x == ("__debug__" : Str)) = false := by decide) (he : starEach (e :: es) X.env = (false, eval e X.env) :: starEach es X.env := by rfl) (hpl : (backTo pos (starEach es X.env)).any (·.1) = false := by rfl) :
    PE X (.Call (.Name x p) (e :: es) [] pos) (tMkV C sp ta) := by
  refine ⟨fun pins s σ H Q I h => wpAny_Call_Name_kw (ld_glob I hg hm ?_ hdb)⟩
  obtain ⟨nm, q, N, bs, bm, sn, sub, ab, col, dd, k0, k1, k2, k3, k5, hC, hbm⟩ := T.cls
  refine PySem.W.callWith_K (h₀ := X.base) I.ok.mod.kin T.kC (thn (ha.run pos pins s σ H _ I h) fun us s1 y => ?_) he hpl
  obtain ⟨vs, H1, I1, r1, hz, q1⟩ := y
  refine ⟨I1.kIn, ?_⟩
  show wpAny _ _ (call (.ref C) us) _ _ _
  obtain ⟨hp, gs, dr, tk, os⟩ := s1
  have le1 : hp.objs.size ≤ hp.objs.size + 1 := Nat.le_succ _
  have hn : H1 (hp.objs.size + 1) = none := I1.hok.fresh le1
  have hq := q1 (hp.objs.size + 1) hn
  have hget : ((hp.push (PySem.W.kdv_tup us)).push (PySem.HandSPX.excO C hp.objs.size)).get? (hp.objs.size + 1) = some (PySem.HandSPX.excO C hp.objs.size) := by heap_get
  have I2 := I1.laid (t' := tk) (a := hp.objs.size + 1) (o := exo (hp.objs.size + 1) C none) (h' := (hp.push (PySem.W.kdv_tup us)).push (PySem.HandSPX.excO C hp.objs.size)) (fun b o e => Heap.get?_push_of_some _ (Heap.get?_push_of_some _ e)) le1 (exo_ok hget)
  have r2 : Vals (V.ref (hp.objs.size + 1) :: vs) (Value.ref (hp.objs.size + 1) :: us) := .cons rfl r1
  have hl : (Value.ref (hp.objs.size + 1) :: us ++ []).length = ps.length := by
    have z := r2.length
    rw [F1.len _ _ _ _ hq] at z
    rw [List.append_nil]
    exact z.symm
  have b2 := hb ⟨(hp.push (PySem.W.kdv_tup us)).push (PySem.HandSPX.excO C hp.objs.size), gs, dr, tk, os⟩ (Value.ref (hp.objs.size + 1) :: us) I2.kIn hl
  rw [List.append_nil] at b2
  have hus : us.length ≤ sizeLine := by
    rw [← Paired.length r1]
    exact sz (by omega)
  refine wpAny_call (PySem.HandSPX.call_own F.excBase_ValueError (fun Y => PySem.HandSPX.refsVE_contains Y bm hbm) (I1.kIn _ _ hC) (PySem.W.looks_findIn I1.kIn iC) (fun self => PySem.W.bind_fn I1.kIn self tI) hus
    (codeAny_mono (F1.run _ X.stack _ _ ⟨Value.ref (hp.objs.size + 1) :: us, []⟩ _ _ _ (fun _ _ _ => False) (hr.make C us []) (I2.env0.make C us []) b2 r2 hq) fun r s' y => ?_))
  cases r with
  | error er => exact hx pins σ _ _ er s' I2 y
  | ok fl =>
    cases fl with
    | ret u =>
      obtain ⟨v, H', I3, rv, ev, q3⟩ := I2.after y
      subst ev
      exact ⟨rv, .ref (hp.objs.size + 1), H', I3, rfl, q3⟩
    | next => exact y.elim
    | brk => exact y.elim
    | cont => exact y.elim
/-! ### a held refusal: its class asked, its field read -/
def Held (H : Hp) (a D : Addr) : Prop := (∃ t, H a = some (exm a D t)) ∨ ∃ (d : Addr) (fs : List (Str × V)), H a = some (exo a D (some d)) ∧ H d = some (exd d fs)
theorem held_inst {X : Cx} {pins : List (Addr × Obj)} {σ : L2.St} {H : Hp} {s : Shared} {a D : Addr} (I : Inv X pins σ H s) (h : Held H a D) : ∃ oe od, PySem.W.InstAt s.heap a oe D od := by
  rcases h with ⟨t, e⟩ | ⟨d, fs, e, ed⟩
  · obtain ⟨oe, vs, ho, hc, hd, _⟩ := exm_at I.hok e
    exact ⟨oe, none, ho, hc.1, by unfold PySem.W.notCls; rw [hd] <;> rfl, by rw [hc.2]; trivial⟩
  · obtain ⟨t1, ho⟩ := exo_at I.hok e
    obtain ⟨mA, hns, _⟩ := exd_at I.hok ed
    obtain ⟨od, hd, _⟩ := lookIn_ns hns
    exact ⟨_, some od, ho, rfl, rfl, hd⟩
def rIsH (K : PySem.W.Frag) : List V → Hp → VK → Prop := fun xs H Q => ∃ (a D : Addr) (c : V) (u : Value) (b : Bool), xs = [.ref a, c] ∧ ClsV c u ∧ Held H a D ∧ XcC K D ∧ PySem.W.kitOne K (.ref D) u = some b ∧ Q (.bl b) H
theorem call_isH {X : Cx} : CallR X (.builtin "isinstance") (rIsH X.K) := by
  intro pins s σ H xs us Q I r h
  obtain ⟨a, D, c, u, b, rfl, k, hh, T, e, q⟩ := h
  obtain ⟨u1, u2, rfl, r1, r2⟩ := vals2 r
  cases (show u1 = Value.ref a from r1)
  have e2 := k.eq r2
  subst e2
  obtain ⟨oe, od, J⟩ := held_inst I hh
  exact PySem.W.kia_one (PySem.W.kitx_exc T.hc T.hg T.hk T.hs T.ha T.hn T.ht T.hm) I.kIn J e (fun z => nomatch z) fun tk => ⟨.bl b, H, I.tok tk, rfl, q⟩
def tHv (K : PySem.W.Frag) (f : Str) (te : TE) : TE := fun σ H Q => te σ H fun x H1 => ∃ (a C dd : Addr) (fs : List (Str × V)) (v : V), x = .ref a ∧ H1 a = some (exo a C (some dd)) ∧ XcC K C ∧ PySem.W.findIn K (.ref C) f = some none ∧ H1 dd = some (exd dd fs) ∧ fs.lookup f = some v ∧ Q v H1
theorem pe_hv {X : Cx} {e : Expr} {te : TE} {pos : Pos} {n : Str} (he : PE X e te) (hb : attributeBase e n X.env (eval e X.env) = eval e X.env := by rfl) : PE X (.Attribute e n pos) (tHv X.K n te) := by
  refine ⟨fun pins s σ H Q I h => attr_of hb (thn (he.run pins s σ H _ I h) fun u s1 hh => ?_)⟩
  obtain ⟨x, H1, I1, rx, a, C, dd, fs, v, ex, ea, T, hno, ed, l, q⟩ := hh
  subst ex
  obtain rfl : u = Value.ref a := rx
  obtain ⟨t1, ha⟩ := exo_at I1.hok ea
  obtain ⟨mA, hns, hr⟩ := exd_at I1.hok ed
  obtain ⟨od, ho, hl⟩ := lookIn_ns hns
  obtain ⟨u, hu, ru⟩ := RelO.some_of (v := v) (o := mA n) (by rw [← l]; exact hr n)
  have J : PySem.W.InstAt s1.heap a _ C (some od) := ⟨ha, rfl, rfl, ho⟩
  exact HandSPX.exc_get I1.kIn J T.hg T.hk T.hs (PySem.W.findObj_own T.hd hno rfl (by rw [hl, hu])) (handed_of ru) ⟨v, H1, I1.tok _, ru, q⟩
end Tw

/-! Refusals, caught or made by hand, asked alike; a def of no arguments. -/
namespace Tw
open PySem PySem.Spec PyProof.Rows L2

/-- an exception of the class at D: held by hand or caught -/
def ExcAt (H : Hp) (a D : Addr) : Prop := Held H a D ∨ ∃ d, H a = some (exv a (.ref D) d) ∧ HasD H d
theorem ExcAt.same {H H' : Hp} {a D : Addr} (h : ExcAt H a D) (s : Same H H') : ExcAt H' a D := by
  rcases h with (⟨t, e⟩ | ⟨d, fs, e, ed⟩) | ⟨d, e, hd⟩
  · exact .inl (.inl ⟨t, s _ _ e⟩)
  · exact .inl (.inr ⟨d, fs, s _ _ e, s _ _ ed⟩)
  · refine .inr ⟨d, s _ _ e, fun dx z => ?_⟩
    obtain ⟨fs, q⟩ := hd dx z
    exact ⟨fs, s _ _ q⟩
def rIsE (K : PySem.W.Frag) : List V → Hp → VK → Prop := fun xs H Q => ∃ (a D : Addr) (c : V) (u : Value) (b : Bool), xs = [.ref a, c] ∧ ClsV c u ∧ ExcAt H a D ∧ XcC K D ∧ PySem.W.kitOne K (.ref D) u = some b ∧ Q (.bl b) H
theorem call_isE {X : Cx} : CallR X (.builtin "isinstance") (rIsE X.K) := by
  intro pins s σ H xs us Q I r h
  obtain ⟨a, D, c, u, b, e, k, hh, T, kb, q⟩ := h
  rcases hh with hh | ⟨d, ea, hd⟩
  · exact call_isH pins s σ H xs us Q I r ⟨a, D, c, u, b, e, k, hh, T, kb, q⟩
  · exact call_isX pins s σ H xs us Q I r ⟨a, D, d, c, u, b, e, k, ea, hd, T, kb, q⟩
def sp0 (p : Hp → VK → XK → Prop) : Sp := fun vs H Q E => vs = [] ∧ p H Q E
section
variable {P : Program} {w : World} {K : PySem.W.Frag} {mg : Str → Option Value} {base : Heap} {x : Str} {st : Stmt} {N : List Str} {k : Nat}
theorem Top.ok0 {p : Hp → VK → XK → Prop} (D : Top K mg x st []) (S : FnScope N [] (defScope st))
    (hbody : ∀ (f : Addr) (cdv : Value) (A : Around) (outer : List Env) (s : Shared) (H : Hp) (Q : VK) (E : XK), Room k (A.deeper (envOfC x (defScope st) s.heap.objs.size f cdv)) → p H Q E →
      ∃ t, PSs (cxOf CX0 P w K mg base N x (defScope st) f cdv A outer s H E).nox (defBody st) t ∧ t { nx := fun _ H' => Q .non H', rt := Q } (start N []) H) : Has P w K mg base CX0 (k + 1) x [] (sp0 p) :=
  D.ok S (fun vs H Q E h => by obtain ⟨rfl, _⟩ := h; rfl) (fun f cdv A outer s H vs Q E hr h => by obtain ⟨rfl, h⟩ := h; exact hbody f cdv A outer s H Q E hr h)
end
theorem pe_own0 {X : Cx} {CX : CXT} {k : Nat} {sp : Sp} {E : XK} {x : Str} {p pos : Pos} (h : Has X.prog X.w X.K X.mg X.base CX k x [] sp) (hr : Room k X.A) (hx : Passes CX X E) (hg : Gl X x := by rfl) (hdb : (x == ("__debug__" : Str)) = false := by decide) : PE X (.Call (.Name x p) [] [] pos) (tCall sp [] E tNil) := by
  obtain ⟨f, fd, F, g, kp, b, _⟩ := h
  exact pe_call0 F hr hg g kp b .nil hx hdb
theorem same_xm {H : Hp} {a t C : Addr} {v : V} (na : H a = none) (nt : H t = none) : Same H (upd (upd H t (.tup [v])) a (exm a C t)) := fun b o h => by
  rw [upd_ne (ne_of_none h na), upd_ne (ne_of_none h nt)]
  exact h
def kindNames : List Str := ["number", "fit", "rule", "back", "ask"]
/-- asked of a refusal: is it of this kind alone -/
def pIsK (K : PySem.W.Frag) (CR CA CB CF CN CU : Addr) : V → V → Hp → VK → XK → Prop := fun x y H Q _ => ∃ (a D : Addr) (z : Str) (fa fb ff fn fu : Bool), x = .ref a ∧ y = .str z ∧ ExcAt H a D ∧ Kit K D CR CA CB CF CN CU fa fb ff fn fu ∧ [fn, ff, fu, fb, fa] = kindNames.map (fun q => decide (V.str q = V.str z)) ∧ ∀ H', Same H H' → Q (.bl true) H'
def pCaught14 (K : PySem.W.Frag) (CN : Addr) : V → V → V → Hp → VK → XK → Prop := fun x y c H Q _ => ∃ (r : Addr) (xs : List Int) (m wy : Int) (i : Nat), x = .int wy ∧ y = .ref r ∧ c = .int m ∧ SqT K H r (xs.map V.int) ∧ 0 ≤ wy ∧ wy ≤ 4 ∧ 1 ≤ m ∧ m ≤ 1000000000000 ∧ 2 ≤ xs.length ∧ xs.length ≤ 1000 ∧ FirstBad m xs i ∧
  ∀ H' a dd, Same H H' → H' a = some (exv a (.ref CN) (some dd)) → H' dd = some (.xd [("number", .int (xs.getD i 0))]) → Q (.ref a) H'
def pSpoil14 (K : PySem.W.Frag) : V → V → V → Hp → VK → XK → Prop := fun x y c H Q _ => ∃ (d r : Addr) (n : Nat) (m : Int) (xs : List Int), x = .ref d ∧ y = .ref r ∧ c = .int m ∧ Seed H d n ∧ n + 20 ≤ 100000000 ∧ H r = some (.tup (xs.map V.int)) ∧ 1 ≤ m ∧ m ≤ 1000000000000 ∧ Rng m xs ∧ 2 ≤ xs.length ∧ xs.length ≤ 60 ∧
  ∀ (H' : Hp) (q : Addr) (zs : List Int), But d H H' → Seed H' d (n + 20) → H q = none → H' q = some (.tup (zs.map V.int)) → zs.length = xs.length → (∃ j, j < zs.length ∧ ¬ (0 ≤ zs.getD j 0 ∧ zs.getD j 0 < m)) → Q (.ref q) H'
theorem first_bad {m : Int} {zs : List Int} (h : ∃ j, j < zs.length ∧ ¬ (0 ≤ zs.getD j 0 ∧ zs.getD j 0 < m)) : ∃ i, FirstBad m zs i := by
  obtain ⟨j, hj, nb⟩ := h
  rcases rng_or_bad m zs with rg | h
  · exfalso
    apply nb
    rw [get_D (List.getElem?_eq_getElem hj)]
    exact rg _ (List.getElem_mem hj)
  · exact h
theorem flt_first {p : Int → Bool} : ∀ {zs : List Int} {i : Nat}, i < zs.length → p (zs.getD i 0) = true → (∀ j, j < i → p (zs.getD j 0) = false) → ∃ t, zs.filter p = zs.getD i 0 :: t
  | [], i, h, _, _ => absurd h (Nat.not_lt_zero _)
  | a :: zs, 0, _, hp, _ => ⟨zs.filter p, by
      have : p a = true := hp
      rw [List.filter_cons_of_pos this]
      rfl⟩
  | a :: zs, i + 1, h, hp, hn => by
    have h0 : p a = false := hn 0 (by omega)
    obtain ⟨t, e⟩ := flt_first (zs := zs) (i := i) (by simpa using h) (by simpa using hp) (fun j hj => by simpa using hn (j + 1) (by omega))
    refine ⟨t, ?_⟩
    rw [List.filter_cons_of_neg (by rw [h0]; simp), e]
    rfl
end Tw
namespace Tw
open PySem PySem.Spec PyProof.Rows L2
theorem op_inK {X : Cx} {K : PySem.W.Frag} (h : X.K = K) : OpR X (compareOp .In) (rIn K false) := by
  subst h
  exact op_in_seq
end Tw
namespace Tw
open PySem PySem.Spec PyProof.Rows L2
theorem same_xo {H : Hp} {a d C : Addr} {fs : List (Str × V)} (na : H a = none) (nd : (upd H a (exo a C none)) d = none) (ne : d ≠ a) : Same H (upd (upd (upd H a (exo a C none)) d (exd d fs)) a (exo a C (some d))) := fun b o h => by
  have n1 : b ≠ a := ne_of_none h na
  rw [upd_ne ne] at nd
  rw [upd_ne n1, upd_ne (ne_of_none h nd), upd_ne n1]
  exact h
def pMade : Hp → VK → XK → Prop := fun H Q _ => ∀ H', Same H H' → Q (.bl true) H'
end Tw

/-! all(test for x in ..): the test is read in the generator's own frame, by the rules of the layer. -/
namespace Tw
open PySem PySem.Spec PyProof.Rows L2 GenW
/-- the generator's frame as a context -/
abbrev gxX (X : Cx) (s : Shared) (H : Hp) (cenv : Env) (fp : List Addr) (A : Around) : Cx :=
  { X with A := A, s_0 := s, H_0 := H, env := cenv, outer := X.stack, stack := cenv :: X.stack, ex := fp, fn := fun _ => false, pn := [], xe := fun _ _ => False }
def noneS (N : List Str) : L2.St := List.replicate N.length none
/-- the generator sleeps: only the table of generators changes -/
structure Sl (s s' : Shared) : Prop where
  hp : s'.heap = s.heap
  os : s'.os = s.os
  bare : AllBare s'.gens
  sz : s.gens.size ≤ s'.gens.size
theorem bare_set {s : Shared} {g : Nat} {x : GenState} (h : AllBare s.gens) (hx : x.bare = true) : AllBare (s.setGen g x).gens := by
  intro y hy
  have e : (s.setGen g x).gens = s.gens.setIfInBounds g x := rfl
  rw [e] at hy
  obtain ⟨i, hi, rfl⟩ := Array.mem_iff_getElem.mp hy
  rw [Array.getElem_setIfInBounds]
  · split
    · exact hx
    · exact h _ (Array.getElem_mem _)
  · simpa using hi
theorem set_get {s : Shared} {g : Nat} {x : GenState} (h : g < s.gens.size) : (s.setGen g x).gens[g]? = some x := setGen_self (Array.getElem?_eq_getElem h)
theorem _root_.L2.Inv.slept {X : Cx} {pins : List (Addr × Obj)} {σ : L2.St} {H : Hp} {s s' : Shared} (I : L2.Inv X pins σ H s) (z : Sl s s') : L2.Inv X pins σ H s' :=
  I.call' (ch := []) z.os (by rw [z.hp]; exact Un.kept fun _ _ e => e) (by rw [z.hp]; exact I.hok) z.bare fun _ hb => by cases hb
section
variable {G : Cx} {cenv : Env} {fp : List Addr} {A1 : Around} {it ga : Addr} {gi : Nat} {go : Obj} {tn : Nat → Heap → Prop} {J : It} {elt iter : Expr} {x : Str} {px gpos : Pos} {scope : Scope} {ix : Nat} {te : TE} {W : Nat → Hp → Prop} {Qt Qf : Hp → Prop} {N : Nat}
abbrev geE (elt iter : Expr) (x : Str) (px : Pos) (scope : Scope) (gpos : Pos) : Expr := .GeneratorExp elt [⟨.Name x px, iter, [], 0⟩] scope gpos
/-- the loop's code -/
abbrev geC (elt iter : Expr) (x : Str) (px : Pos) (scope : Scope) (gpos : Pos) (it : Addr) (cenv : Env) : Code := .compLoop (geE elt iter x px scope gpos) 0 (.ref it) .none cenv
abbrev geS (elt iter : Expr) (x : Str) (px : Pos) (scope : Scope) (gpos : Pos) (it : Addr) (cenv : Env) : Code := .compStart (geE elt iter x px scope gpos) 0 (.ref it) .none cenv
def gY (G : Cx) (gi : Nat) (pl : List (Addr × Obj)) (Qf : Hp → Prop) : Protocol := fun _ _ v s kap =>
  gi < s.gens.size ∧ ∃ (b : Bool) (σ : L2.St) (H : Hp), v = .bool b ∧ L2.Inv G pl σ H s ∧ (b = false → Qf H) ∧ (b = true → ∀ s', Sl s s' → kap (.send .none) s')
def gR (G : Cx) (pl : List (Addr × Obj)) (Qt : Hp → Prop) : GenEnd := fun _ _ r s => r = .ok .next ∧ ∃ (σ : L2.St) (H : Hp), L2.Inv G pl σ H s ∧ Qt H
/-- what G is -/
structure GeX (G : Cx) (fp : List Addr) (A1 : Around) (cenv : Env) (c : Code) : Prop where
  calm : G.calm = true
  A : G.A = A1.over c []
  env : G.env = cenv
  xe : G.xe = fun _ _ => False
  pn : G.pn = []
  ex : G.ex = fp
theorem none_set {N : List Str} {σ : L2.St} (hl : σ.length = N.length) (i : Nat) (u : V) (h : (noneS N)[i]? = some (some u)) : σ[i]? = some (some u) := by
  unfold noneS at h
  rw [List.getElem?_replicate] at h
  split at h <;> cases h
theorem seg_ge (gx : GeX G fp A1 cenv (geC elt iter x px scope gpos it cenv)) (hN : G.N.Nodup) (hi : G.N[ix]? = some x) (hx : scope.names.lookup x = some .local) (hsc : cenv.scope = scope) (hco : scope.isCoroutine = false)
    (T : Turn G.prog G.w G.K (.Name x px) J fp it tn) (hga : ga ∉ fp) (pe : PE G elt te)
    (hstop : ∀ H, W N H → J.stop N H ∧ Qt H)
    (hgo : ∀ i H, i < N → W i H → J.go i H ∧ ∀ v H', J.yld i H v H' → te ((noneS G.N).set ix (some v)) H' fun y H2 => ∃ b, y = .bl b ∧ (b = true → W (i + 1) H2) ∧ (b = false → Qf H2)) :
    ∀ (n i : Nat) (s₀ s : Shared) (H : Hp), i + n = N → L2.Inv G [(ga, go)] (noneS G.N) H s → tn i s.heap → (∀ b ∈ fp, H b = none) → W i H → gi < s.gens.size →
      Seg (model G.prog G.w) A1 (gR G [(ga, go)] Qt) (gY G gi [(ga, go)] Qf) n s₀ (geC elt iter x px scope gpos it cenv) ((model G.prog G.w).den (geC elt iter x px scope gpos it cenv)) [] s := by
  obtain ⟨calm, gA, gE, gxe, gpn, gex⟩ := gx
  have stat : ∀ {σ' : L2.St} {H' : Hp} {s' : Shared}, L2.Inv G [(ga, go)] σ' H' s' → (∀ b ∈ fp, H' b = none) → ∀ b ∈ fp, FpOk G [(ga, go)] H' b := fun {σ' H' s'} I' hn b hb => by
    have hb' : b ∈ G.ex := by rw [gex]; exact hb
    refine ⟨hn b hb, (I'.ok.exf b hb').1, I'.ok.exfs b hb', .inl hb', fun x c e => (I'.ok.exf b hb').2 x c e, fun p hp z => ?_⟩
    rw [gpn] at hp
    have e : p = (ga, go) := by simpa using hp
    have e2 : p.1 = ga := congrArg Prod.fst e
    exact hga (by rw [← e2, z]; exact hb)
  have pg : PG G (.Name x px) (gName ix) := pg_name hN hi (by rw [gE, hsc]; exact .inl hx) (.inr (by rw [gE, hsc]; exact hx))
  intro n
  induction n with
  | zero =>
    intro i s₀ s H hn I st nf w hgs
    obtain rfl : i = N := by omega
    show Seg _ A1 _ _ _ s₀ _ ((compTurn (geE elt iter x px scope gpos) 0 (.ref it) .none cenv).onRaise (leaving cenv)) [] s
    rw [compTurn_gen, Sem.onRaise_eq_wrap]
    refine seg_bind_wrap (wpAny_standAt ?_)
    obtain ⟨stop, qt⟩ := hstop H w
    have td := T.done G rfl rfl rfl calm i [(ga, go)] s _ H (fun _ _ => False) I (stat I nf) st stop
    rw [gA] at td
    refine seg_bind_wrap (thnF td fun r s1 ⟨hr, I1⟩ => ?_)
    subst hr
    exact seg_end (.ok .next) ⟨rfl, _, H, I1, qt⟩
  | succ n ih =>
    intro i s₀ s H hn I st nf w hgs
    show Seg _ A1 _ _ _ s₀ _ ((compTurn (geE elt iter x px scope gpos) 0 (.ref it) .none cenv).onRaise (leaving cenv)) [] s
    rw [compTurn_gen, Sem.onRaise_eq_wrap]
    refine seg_bind_wrap (wpAny_standAt ?_)
    obtain ⟨goes, step⟩ := hgo i H (by omega) w
    have ti := T.item G rfl rfl rfl calm i [(ga, go)] s _ H (fun _ _ => False) I (stat I nf) st goes
    rw [gA] at ti
    refine seg_bind_wrap (wpAny_gsz hgs (thnF ti fun r s1 ⟨u, hr, h1⟩ z1 => ?_))
    subst hr
    refine seg_bind_wrap (wpAny_gsz z1 (thnF h1 fun _ s2 ⟨v, H2, I2, r2, y2, st2, n2⟩ z2 => ?_))
    have I2' := I2.pinned (stat I2 n2) (T.obj _ _ st2)
    have pr := pg.run _ s2 _ H2 v u (fun σ' H' => σ' = (noneS G.N).set ix (some v) ∧ H' = H2) I2' r2 ⟨rfl, rfl⟩
    rw [gA, gE, gxe] at pr
    refine seg_bind_wrap (wpAny_gsz z2 (thnF pr fun _ s3 ⟨σ3, H3, I3, e3, e4⟩ z3 => ?_))
    subst e3 e4
    simp only [List.forIn_nil]
    refine seg_bind_wrap (wpAny_pure ?_)
    simp only [if_true]
    have hy : ∀ v, yieldOut cenv v = yieldValue v := fun v => by simp only [yieldOut, hsc, hco, Bool.false_eq_true, if_false]
    simp only [hy]
    rw [Sem.bind_eq_wrap', Sem.bind_eq_wrap', Sem.wrap_wrap, Sem.wrap_wrap]
    have er := pe.run _ s3 _ H3 _ I3 (step v H3 y2)
    rw [gA, gE, gxe] at er
    refine seg_wrap (wpAny_gsz z3 (thnF er fun y s5 ⟨yv, H5, I5, r5, b, eb, wt, wf⟩ z5 => ?_))
    subst eb
    obtain rfl : y = .bool b := r5
    have I6 : L2.Inv G [(ga, go)] (noneS G.N) H5 s5 := (I5.unpinned (pins := [(ga, go)])).weak (by unfold noneS; rw [List.length_replicate]; exact I5.len.symm) (fun j u e => none_set I5.len j u e)
    have pin' : ∀ b ∈ fp, ∀ o, s2.heap.get? b = some o → s5.heap.get? b = some o ∧ H5 b = none := fun b hb o e =>
      let z := I5.pin (b, o) (List.mem_append_right _ (List.mem_append_right _ (mem_pinsAt hb e)))
      ⟨z.1, z.2.1⟩
    have st5 : tn (i + 1) s5.heap := T.keep _ _ _ st2 fun b hb o e => (pin' b hb o e).1
    have n5 : ∀ b ∈ fp, H5 b = none := fun b hb => by
      obtain ⟨o, e, _⟩ := T.obj _ _ st2 b hb
      exact (pin' b hb o e).2
    refine seg_at (seg_yield rfl rfl rfl ⟨z5, b, _, H5, rfl, I6, wf, fun hb s' sl => ?_⟩)
    exact seg_again rfl (ih (i + 1) s' s' H5 (by omega) (I6.slept sl) (by rw [sl.hp]; exact st5) n5 (wt hb) (Nat.lt_of_lt_of_le z5 sl.sz))
/-- the generator lies asleep, n turns at the most are left -/
structure Slp (G : Cx) (A1 : Around) (ga : Addr) (gi : Nat) (go : Obj) (Qt Qf : Hp → Prop) (n : Nat) (s : Shared) : Prop where
  gen : s.heap.IsGen ga gi
  lim : s.heap.NoLimit
  bare : AllBare s.gens
  goes : ∃ gs, s.gens[gi]? = some gs ∧ ∀ s', Sl s s' → gs.Goes (model G.prog G.w) A1 (gR G [(ga, go)] Qt) (gY G gi [(ga, go)] Qf) n (.send .none) s'
theorem sl_set {s : Shared} {g : Nat} {x : GenState} (h : AllBare s.gens) (hx : x.bare = true) : Sl s (s.setGen g x) := ⟨rfl, rfl, bare_set h hx, by rw [setGen_size]; exact Nat.le_refl _⟩
theorem loop_all {A : Around} {R : Result → Shared → Prop} (hh : A.handled = none) (hroom : A.depth < recursionLimit) (hgo : ∀ h : Heap, h.get? ga = some go → h.IsGen ga gi)
    (ht : ∀ σ H s, L2.Inv G [(ga, go)] σ H s → Qt H → R (.ok (.ret (.bool true))) s) (hf : ∀ σ H s, L2.Inv G [(ga, go)] σ H s → Qf H → R (.ok (.ret (.bool false))) s) :
    ∀ (n : Nat) (s : Shared), Slp G A.in1.in1 ga gi go Qt Qf n s → codeAny (model G.prog G.w) A (.builtin "all.loop" ⟨[.ref ga], []⟩) R s := by
  intro n
  induction n with
  | zero =>
    intro s S
    refine codeAny_builtin F.entry_all_loop ?_
    rw [Around.under_plainId F.plain_all_loop _]
    show wpAny _ A.in1 (pyNext (.ref ga) >>= _) _ _ s
    obtain ⟨gs, hgs, goes⟩ := S.goes
    refine wpAny_bind (wpAny_pyNext_genexpQ (P := fun _ _ s => ∃ (σ : L2.St) (H : Hp), L2.Inv G [(ga, go)] σ H s ∧ Qt H) hh S.lim hroom S.gen hgs (goes _ (sl_set S.bare rfl)) (fun v s1 gs' hb hv => ?_) fun s1 hp h' hk => ?_)
    · obtain ⟨z1, b, σ, H, rfl, I, qf, kap⟩ := hv
      refine wpAny_bind (wpAny_holding (wpAny_truthy_bool ?_))
      refine wpAny_bind (wpAny_letGo ?_)
      cases b with
      | true => exact (kap rfl s1 ⟨rfl, rfl, I.bare, Nat.le_refl _⟩).elim
      | false =>
        simp only [Bool.false_eq_true, if_false]
        refine wpAny_bind (wpAny_rule (wpAny_pure ?_))
        exact hf σ H _ (I.slept (sl_set I.bare hb)) (qf rfl)
    · obtain ⟨σ, H, I, qt⟩ := hp
      refine wpAny_bind (wpAny_rule (wpAny_pure ?_))
      exact ht σ H _ ((I.slept (sl_set (g := gi) (x := .finished) I.bare rfl)).call' (ch := []) rfl (Un.kept hk) ((I.slept (sl_set (g := gi) (x := .finished) I.bare rfl)).hok.kept hk) (bare_set I.bare rfl) fun _ hb => by cases hb) qt
  | succ n ih =>
    intro s S
    refine codeAny_builtin F.entry_all_loop ?_
    rw [Around.under_plainId F.plain_all_loop _]
    show wpAny _ A.in1 (pyNext (.ref ga) >>= _) _ _ s
    obtain ⟨gs, hgs, goes⟩ := S.goes
    refine wpAny_bind (wpAny_pyNext_genexpQ (P := fun _ _ s => ∃ (σ : L2.St) (H : Hp), L2.Inv G [(ga, go)] σ H s ∧ Qt H) hh S.lim hroom S.gen hgs (goes _ (sl_set S.bare rfl)) (fun v s1 gs' hb hv => ?_) fun s1 hp h' hk => ?_)
    · obtain ⟨z1, b, σ, H, rfl, I, qf, kap⟩ := hv
      refine wpAny_bind (wpAny_holding (wpAny_truthy_bool ?_))
      refine wpAny_bind (wpAny_letGo ?_)
      cases b with
      | true =>
        simp only [if_true]
        refine wpAny_pure ⟨plainId_quiet F.plain_all_loop _, ih _ ⟨?_, ?_, bare_set I.bare hb, gs', set_get z1, fun s' sl => ?_⟩⟩
        · exact hgo _ (I.pin (ga, go) (List.mem_append_right _ (List.mem_singleton.mpr rfl))).1
        · exact I.nolimit
        · exact kap rfl s' ⟨sl.hp, sl.os, sl.bare, Nat.le_trans (by rw [setGen_size]; exact Nat.le_refl _) sl.sz⟩
      | false =>
        simp only [Bool.false_eq_true, if_false]
        refine wpAny_bind (wpAny_rule (wpAny_pure ?_))
        exact hf σ H _ (I.slept (sl_set I.bare hb)) (qf rfl)
    · obtain ⟨σ, H, I, qt⟩ := hp
      refine wpAny_bind (wpAny_rule (wpAny_pure ?_))
      exact ht σ H _ ((I.slept (sl_set (g := gi) (x := .finished) I.bare rfl)).call' (ch := []) rfl (Un.kept hk) ((I.slept (sl_set (g := gi) (x := .finished) I.bare rfl)).hok.kept hk) (bare_set I.bare rfl) fun _ hb => by cases hb) qt
end
end Tw

/-! the rule: all(test for x in ..). -/
namespace Tw
open PySem PySem.Spec PyProof.Rows L2 GenW
section
variable {G : Cx} {cenv : Env} {fp : List Addr} {A1 : Around} {it ga : Addr} {gi : Nat} {go : Obj} {tn : Nat → Heap → Prop} {J : It} {elt iter : Expr} {x : Str} {px gpos : Pos} {scope : Scope} {Qt Qf : Hp → Prop} {n : Nat}
theorem seg_start {R : GenEnd} {Y : Protocol} {s₀ s : Shared} {M : Program} {w : World} {K : PySem.W.Frag} {tg : Expr} (T : Turn M w K tg J fp it tn) (st : tn 0 s.heap)
    (loop : Seg (model M w) A1 R Y n s₀ (geC elt iter x px scope gpos it cenv) ((model M w).den (geC elt iter x px scope gpos it cenv)) [] s) :
    Seg (model M w) A1 R Y n s₀ (geS elt iter x px scope gpos it cenv) ((model M w).den (geS elt iter x px scope gpos it cenv)) [] s := by
  show Seg _ A1 _ _ _ s₀ _ ((compStart (geE elt iter x px scope gpos) 0 (.ref it) .none cenv).onRaise (leaving cenv)) [] s
  unfold compStart
  rw [Sem.onRaise_eq_wrap]
  show Seg _ A1 _ _ _ s₀ _ ((ask >>= _).wrap _ _ _ _) [] s
  refine seg_bind_wrap (wpAny_askSetting ?_)
  split
  · exact seg_again rfl loop
  · refine seg_bind_wrap (wpAny_rule ?_)
    show Seg _ A1 _ _ _ s₀ _ ((standAt iter.pos >>= _).wrap _ _ _ _) [] s
    exact seg_bind_wrap (wpAny_standAt (seg_bind_wrap (T.self _ 0 s _ _ st (seg_again rfl loop))))
end
/-- the generator's scope: its one name, nothing captured -/
structure GeS (scope : Scope) (x : Str) : Prop where
  kind : scope.kind = .function
  co : scope.isCoroutine = false
  cell : ∀ y ∈ scope.names, y.2 ≠ .cell
  free : ∀ y ∈ scope.names, y.2 ≠ .free
  dot : scope.names.lookup (".0" : Str) = some NameKind.local
  loc : scope.names.lookup x = some .local
theorem clo_nil {cells : List (Str × Addr)} : ∀ {names : List (Str × NameKind)}, (∀ y ∈ names, y.2 ≠ .free) → ∀ acc, cloFrom cells names acc = acc
  | [], _, acc => rfl
  | (n, k) :: r, h, acc => by
    unfold cloFrom
    rw [if_neg (by have := h (n, k) List.mem_cons_self; simpa using this)]
    exact clo_nil (fun y hy => h y (List.mem_cons_of_mem _ hy)) acc
/-- its context at the start -/
theorem ge_start {X : Cx} {pins : List (Addr × Obj)} {σ : L2.St} {H : Hp} {s : Shared} {scope : Scope} {x : Str} {fp : List Addr} {A : Around} {code : Value} {m : Str → Option Value} {h' : Heap} {g' : Array GenState} {t' : Nat} {go : Obj}
    (I : L2.Inv X pins σ H s) (S : GeS scope x) (hA : A.handled = none) (hfr : A.frames = some (genEnv scope [] s.heap.objs.size code builtinsNs X.env :: X.stack)) (hfp : ∀ b ∈ fp, FpOk X pins H b ∧ b < s.heap.objs.size)
    (hn : h'.Ns s.heap.objs.size m) (hk : ∀ b o, s.heap.get? b = some o → h'.get? b = some o) (hsz : h'.objs.size = s.heap.objs.size + 1) (hfree : go.isFreed = false) (hgo : ∀ v, go.data ≠ .cell v) (hg : AllBare g') :
    L2.Inv (gxX X s H (genEnv scope [] s.heap.objs.size code builtinsNs X.env) fp A) [(h'.objs.size, go)] (noneS X.N) H { s with heap := h'.push go, gens := g', toks := t' } := by
  have kp : ∀ b o, s.heap.get? b = some o → (h'.push go).get? b = some o := fun b o e => Heap.get?_push_of_some _ (hk b o e)
  have ge : s.heap.objs.size ≤ h'.objs.size := by rw [hsz]; exact Nat.le_succ _
  have okG : (gxX X s H (genEnv scope [] s.heap.objs.size code builtinsNs X.env) fp A).Ok := by
    refine ⟨I.ok.mod, S.kind, I.ok.glob, rfl, Nat.le_refl _, fun y z c e1 e2 => ?_, fun y hy => ?_, fun y c z e => ?_, fun _ => hA, hfr, .inr ⟨rfl, rfl⟩, fun b hb => ⟨Nat.ne_of_lt (hfp b hb).2, fun y c e z => ?_⟩, I.bs, Nat.le_trans I.ok.bsz I.sz, fun b o e hb => ?_, fun b hb z => ?_, I.stack, I.stkFree⟩
    · cases e1
    · rcases hy with hy | hy
      · exact absurd rfl (S.cell _ (PySem.mem_of_lookup hy))
      · exact absurd rfl (S.free _ (PySem.mem_of_lookup hy))
    · cases e
    · cases e
    · rcases (hfp b hb).1.2.2.2.1 with z | z
      · exact I.ok.noex b o e z
      · exact absurd (Nat.lt_of_lt_of_le (Heap.lt_size e) (Nat.le_trans I.ok.bsz z)) (Nat.lt_irrefl _)
    · rcases List.mem_cons.mp (I.stkSub b z) with z | z
      · exact (hfp b hb).1.2.1 z
      · exact (hfp b hb).1.2.2.1 z
  refine ⟨okG, rfl, hg, Un.kept kp, ⟨m, hn.push _, fun i y av e1 e2 e3 => ?_⟩, fun y c e => ?_, I.hok.fresh (Nat.le_refl _), fun y c e => ?_, fun p hp => ?_, I.hok.kept kp, by unfold noneS; rw [List.length_replicate]⟩
  · unfold noneS at e2
    rw [List.getElem?_replicate] at e2
    split at e2 <;> cases e2
  · cases e
  · cases e
  · have e : p = (h'.objs.size, go) := by simpa using hp
    subst e
    refine ⟨Heap.get?_push_size _ hfree, I.hok.fresh ge, ?_, ?_, hgo⟩
    · show h'.objs.size ≠ s.heap.objs.size
      rw [hsz]
      exact Nat.succ_ne_self _
    · intro z
      rcases List.mem_cons.mp (I.stkSub _ z) with z | z
      · have := I.lt
        rw [← z] at this
        exact absurd (Nat.lt_of_lt_of_le this ge) (Nat.lt_irrefl _)
      · exact I.nofs ge z
/-- all(test for x in ..): W what stands ahead of turn i, of N -/
def tAllG (P : Addr) (NS : List Str) (ix : Nat) (wi : TI) (te : TE) : TE := fun σ H Q => wi σ H fun J H1 => GxR.TabG H1 P ∧ ∃ (N : Nat) (W : Nat → Hp → Prop), (∀ H2, GxR.Tabbed P H1 H2 → W 0 H2) ∧ (∀ H, W N H → J.stop N H ∧ Q (.bl true) H) ∧
  ∀ i H, i < N → W i H → J.go i H ∧ ∀ v H', J.yld i H v H' → te ((noneS NS).set ix (some v)) H' fun y H2 => ∃ b, y = .bl b ∧ (b = true → W (i + 1) H2) ∧ (b = false → Q (.bl false) H2)
theorem pe_allG {X : Cx} {c P : Addr} {elt iter : Expr} {x : Str} {px p pos gpos : Pos} {scope : Scope} {wi : TI} {te : TE} {k ix : Nat} (hc : X.calm = true) (hN : X.N.Nodup) (hi : X.N[ix]? = some x) (hr : Room (k + 1) X.A) (hg : Gl X "all") (hm : X.mg "all" = none)
    (hb : bootBuiltins "all" = some (.builtin "all")) (TB : GxR.TabB X.base X.mg c P) (hcode : X.env.code = .ref c) (S : GeS scope x) (hit : PI X (.Name x px) iter wi)
    (hel : ∀ (s : Shared) (H : Hp) (C : Addr) (code : Value) (fp : List Addr) (A : Around), Room k A → PE (gxX X s H (genEnv scope [] C code builtinsNs X.env) fp A) elt te)
    (hs : ∀ v, genFold iter X.env v = pure v)
    (he : starEach [geE elt iter x px scope gpos] X.env = (false, eval (geE elt iter x px scope gpos) X.env) :: starEach [] X.env := by rfl) :
    PE X (.Call (.Name "all" p) [geE elt iter x px scope gpos] [] pos) (tAllG P X.N ix wi te) := by
  refine ⟨fun pins s σ H Q I h => ?_⟩
  refine wpAny_Call_Name_kw (ld_blt I hg hm hb ?_)
  refine PyProof.Rows.callWith_builtin1 ?_ he (by rfl)
  rw [he]
  show wpAny _ _ (spliced ((false, eval (geE elt iter x px scope gpos) X.env) :: backTo pos (starEach [] X.env))) _ _ s
  refine Calls.spliced_cons ?_
  have hcl : closureFor scope X.env = pure [] := by
    rw [closure_ok (env := X.env) (fun y hy e => absurd e (S.free y hy)), clo_nil S.free]
  refine wpAny_GeneratorExp_make S.co hcl S.cell S.dot S.kind (by have := hr.dp; omega) ?_ hs
  refine thn (hit.run pins s σ H _ I h) fun xv s1 hx => thn hx fun itv s2 h2 => ?_
  obtain ⟨it, fp, tn, J, H2, rfl, I2, T, st2, f2, ⟨ps, hP, ht⟩, N, W, w0, hstop, hgo⟩ := h2
  refine ⟨I2.nolimit, ?_⟩
  have hPs : s2.heap.get? P = some { cls := .none, data := .fields ps } := I2.hok P _ hP
  have cd : PySem.W.CodeHd s2.heap c P := TB.code.keeps fun b u e => I2.bk b u e
  have cont : ∀ (code : Value) (h3 : Heap) (tk : Nat) (ps' : Array Value), Heap.ExtBut P s2.heap h3 → s2.heap.objs.size ≤ h3.objs.size → h3.get? P = some { cls := .none, data := .fields ps' } → (∃ more, ps' = ps ++ more) → TriplesOk ps'.toList →
      wpAny (model X.prog X.w) X.A (builtinsFor X.env.globals X.env.builtins) (fun bi s₄ =>
        ∀ h', h'.Ns s₄.heap.objs.size (fun y => if y = ".0" then some (.ref it) else none) → Heap.SameBut s₄.heap.objs.size (s₄.heap.push { cls := .type "frame", data := .dict #[] }) h' →
          wpAny (model X.prog X.w) X.A (spliced (backTo pos (starEach [] X.env))) (fun vs s' => wpAny (model X.prog X.w) X.A (call (.builtin "all") (Value.ref h'.objs.size :: vs)) (EP X pins σ Q) X.xe s') X.xe
          { s₄ with
            gens := s₄.gens.push (.fresh (.compStart (geE elt iter x px scope gpos) 0 (.ref it) .none (genEnv scope [] s₄.heap.objs.size code bi X.env))),
            toks := s₄.toks + 1 + 1 + 1,
            heap := h'.push { cls := .type "generator", data := .fields #[.int s₄.gens.size 0, .str "<genexpr>" (s₄.toks + 1), .str (X.env.qual ++ "<genexpr>") (s₄.toks + 1 + 1)] } }) X.xe { s2 with heap := h3, toks := tk } := by
    intro code h3 tk ps' hx hsz hP3 ⟨more, em⟩ ht3
    obtain ⟨bm, ob, e1, e2, e3, e4, e5, e6, e7, e8⟩ := TB.bm
    have keep3 : ∀ b u, b ≠ P → s2.heap.get? b = some u → h3.get? b = some u := fun b u hb e => hx b u hb e
    refine wpAny_builtinsFor (m := X.mg) (by rw [I2.ok.glob]; exact (I2.mod.glob.keeps I2.bk).extBut hx TB.gP) e1 e2 (keep3 _ _ e4 (I2.bk _ _ e5)) e6 e7 e8 ?_
    intro h' hn' hs'
    subst em
    have I4 : L2.Inv X pins σ (upd H2 P (.tbl (ps ++ more))) { s2 with heap := h3, gens := s2.gens, drawn := s2.drawn, toks := tk } := GxR.inv_tab I2 hP keep3 hP3 I2.bare
    have fl : ∀ b ∈ fp, b < s2.heap.objs.size := fun b hb => by
      obtain ⟨o, e, _⟩ := T.obj _ _ st2 b hb
      exact Heap.lt_size e
    have fP : ∀ b ∈ fp, b ≠ P := fun b hb z => by
      have := (f2 b hb).1
      rw [z, hP] at this
      cases this
    have f4 : ∀ b ∈ fp, FpOk X pins (upd H2 P (.tbl (ps ++ more))) b ∧ b < h3.objs.size := fun b hb => ⟨⟨by rw [upd_ne (fP b hb)]; exact (f2 b hb).1, (f2 b hb).2⟩, Nat.lt_of_lt_of_le (fl b hb) hsz⟩
    have hs1 : h'.objs.size = h3.objs.size + 1 := by
      have := hs'.1
      rw [this]
      exact Heap.size_push ..
    have kh : ∀ b o, h3.get? b = some o → h'.get? b = some o := fun b o e => hs'.extBut b o (Nat.ne_of_lt (Heap.lt_size e)) (Heap.get?_push_of_some _ e)
    have IG := ge_start (A := X.A.in1.in1.over (geC elt iter x px scope gpos it (genEnv scope [] h3.objs.size code builtinsNs X.env)) []) (code := code) (x := x) (scope := scope) (t' := tk + 1 + 1 + 1) (g' := s2.gens.push (.fresh (.compStart (geE elt iter x px scope gpos) 0 (.ref it) .none (genEnv scope [] h3.objs.size code builtinsNs X.env))))
      (go := { cls := .type "generator", data := .fields #[.int s2.gens.size 0, .str "<genexpr>" (tk + 1), .str (X.env.qual ++ "<genexpr>") (tk + 1 + 1)] }) I4 S hr.hd (by
        show pushEnvs [genEnv scope [] h3.objs.size code builtinsNs X.env] (pushEnvs [] X.A.frames) = _
        rw [I2.ok.frames]
        rfl) f4 hn' kh hs1 rfl (fun v z => by cases z) (I2.bare.push rfl)
    refine Calls.spliced_nil ?_
    have back : ∀ (σ' : L2.St) (H' : Hp) (s' : Shared), L2.Inv (gxX X { s2 with heap := h3, gens := s2.gens, drawn := s2.drawn, toks := tk } (upd H2 P (.tbl (ps ++ more))) (genEnv scope [] h3.objs.size code builtinsNs X.env) fp (X.A.in1.in1.over (geC elt iter x px scope gpos it (genEnv scope [] h3.objs.size code builtinsNs X.env)) []))
        [(h'.objs.size, { cls := .type "generator", data := .fields #[.int s2.gens.size 0, .str "<genexpr>" (tk + 1), .str (X.env.qual ++ "<genexpr>") (tk + 1 + 1)] })] σ' H' s' → L2.Inv X pins σ H' s' := fun σ' H' s' I' =>
      I4.call' (ch := fp) I'.os I'.base I'.hok I'.bare fun b hb => ⟨(f4 b hb).1.2.2.2.1, (f4 b hb).1.2.1, (f4 b hb).1.2.2.2.2.1, (f4 b hb).1.2.2.2.2.2⟩
    have room : Room k (X.A.in1.in1.over (geC elt iter x px scope gpos it (genEnv scope [] h3.objs.size code builtinsNs X.env)) []) := by
      have e1 : (X.A.in1.in1.over (geC elt iter x px scope gpos it (genEnv scope [] h3.objs.size code builtinsNs X.env)) []).depth = X.A.depth + 1 := rfl
      have e2 : (X.A.in1.in1.over (geC elt iter x px scope gpos it (genEnv scope [] h3.objs.size code builtinsNs X.env)) []).units ≤ X.A.units + 5 := Nat.le_of_eq rfl
      have r1 := hr.dp
      have r2 := hr.un
      exact ⟨hr.hd, by rw [e1]; omega, by omega⟩
    have st5 : tn 0 (h'.push { cls := .type "generator", data := .fields #[.int s2.gens.size 0, .str "<genexpr>" (tk + 1), .str (X.env.qual ++ "<genexpr>") (tk + 1 + 1)] }) := T.keep _ _ _ st2 fun b hb o e => Heap.get?_push_of_some _ (kh b o (keep3 b o (fP b hb) e))
    have hgen : ∀ h : Heap, h.get? h'.objs.size = some { cls := .type "generator", data := .fields #[.int s2.gens.size 0, .str "<genexpr>" (tk + 1), .str (X.env.qual ++ "<genexpr>") (tk + 1 + 1)] } → h.IsGen h'.objs.size s2.gens.size := fun h e => ⟨_, _, _, e, rfl, rfl, rfl⟩
    have hga : h'.objs.size ∉ fp := fun z => by
      have := (f4 _ z).2
      rw [hs1] at this
      exact absurd (Nat.lt_trans (Nat.lt_succ_self _) this) (Nat.lt_irrefl _)
    refine call_function_tree F.kind_all F.plain_all F.entry_all (F.args_all1 _) ?_
    unfold Builtin.«all»
    refine wpAny_bind (m := oneArg "all" _) (wpAny_pure ?_)
    refine wpAny_bind (wpAny_pyIter_gen (g := s2.gens.size) (hgen _ (Heap.get?_push_size _ rfl)) ?_)
    refine wpAny_pure ⟨plainId_quiet F.plain_all_loop _, ?_⟩
    refine loop_all (G := gxX X { s2 with heap := h3, gens := s2.gens, drawn := s2.drawn, toks := tk } (upd H2 P (.tbl (ps ++ more))) (genEnv scope [] h3.objs.size code builtinsNs X.env) fp (X.A.in1.in1.over (geC elt iter x px scope gpos it (genEnv scope [] h3.objs.size code builtinsNs X.env)) []))
      (Qt := fun H => Q (.bl true) H) (Qf := fun H => Q (.bl false) H) hr.hd (by have := hr.dp; omega) hgen (fun σ' H' s' I' q' => ⟨.bl true, H', back σ' H' s' I', rfl, q'⟩) (fun σ' H' s' I' q' => ⟨.bl false, H', back σ' H' s' I', rfl, q'⟩) N _ ⟨hgen _ (Heap.get?_push_size _ rfl), IG.nolimit, I2.bare.push rfl, _, Array.getElem?_push_size .., fun s' sl => ⟨rfl, ?_⟩⟩
    have sz' : s2.gens.size < s'.gens.size := by
      have := sl.sz
      have e : (s2.gens.push (.fresh (.compStart (geE elt iter x px scope gpos) 0 (.ref it) .none (genEnv scope [] h3.objs.size code builtinsNs X.env)))).size = s2.gens.size + 1 := Array.size_push ..
      exact Nat.lt_of_lt_of_le (Nat.lt_of_lt_of_le (Nat.lt_succ_self _) (Nat.le_of_eq e.symm)) this
    have st6 : tn 0 s'.heap := by rw [sl.hp]; exact st5
    exact seg_start T st6 (seg_ge (G := gxX X { s2 with heap := h3, gens := s2.gens, drawn := s2.drawn, toks := tk } (upd H2 P (.tbl (ps ++ more))) (genEnv scope [] h3.objs.size code builtinsNs X.env) fp (X.A.in1.in1.over (geC elt iter x px scope gpos it (genEnv scope [] h3.objs.size code builtinsNs X.env)) []))
      (ix := ix) ⟨hc, rfl, rfl, rfl, rfl, rfl⟩ hN hi S.loc rfl S.co T hga (hel _ _ _ _ _ _ room) hstop hgo N 0 s' s' _ (Nat.zero_add N) (IG.slept sl) st6 (fun b hb => (f4 b hb).1.1) (w0 _ ⟨⟨ps ++ more, upd_same, ht3⟩, fun b hb => upd_ne hb⟩) sz')
  cases hf : codeAmong gpos ps.toList with
  | none =>
    refine wpAny_genexprCodeX hcode (cd.code hPs ht) (cd.tab hPs) hf fun c' h' tk hx hge hlt hco' _ htab' _ => ?_
    obtain ⟨o1, vs, f1, tf, fl, tg, inF, tx, tt, op, _, _, _, _, _, _, _, _, _, htr, _⟩ := hco'
    exact cont _ h' tk _ hx (Nat.le_trans hge (Nat.le_of_lt hlt)) htab'.2 ⟨_, rfl⟩ htr
  | some cv =>
    refine wpAny_genexprCode_hit hcode (cd.code hPs ht) hf ?_
    exact cont cv s2.heap s2.toks ps (Heap.ExtBut.refl _ _) (Nat.le_refl _) hPs ⟨#[], by simp⟩ ht
end Tw

/-! all(test for x in ..) whose test reads a name of the def around it. -/
namespace Tw
open PySem PySem.Spec PyProof.Rows L2 GenW NdefX
section
variable {G : Cx} {cenv : Env} {fp : List Addr} {A1 : Around} {it ga : Addr} {gi : Nat} {go : Obj} {tn : Nat → Heap → Prop} {J : It} {elt iter : Expr} {x : Str} {px gpos : Pos} {scope : Scope} {ix : Nat} {te : TE} {W : Nat → Hp → Prop} {Qt Qf : Hp → Prop} {N : Nat}
theorem seg_geF {σ0 : L2.St} (h0 : ∀ (j : Nat) (u : V), σ0[j]? = some (some u) → j ≠ ix) (hl0 : σ0.length = G.N.length) (gx : GeX G fp A1 cenv (geC elt iter x px scope gpos it cenv)) (hN : G.N.Nodup) (hi : G.N[ix]? = some x) (hx : scope.names.lookup x = some .local) (hsc : cenv.scope = scope) (hco : scope.isCoroutine = false)
    (T : Turn G.prog G.w G.K (.Name x px) J fp it tn) (hga : ga ∉ fp) (pe : PE G elt te)
    (hstop : ∀ H, W N H → J.stop N H ∧ Qt H)
    (hgo : ∀ i H, i < N → W i H → J.go i H ∧ ∀ v H', J.yld i H v H' → te (σ0.set ix (some v)) H' fun y H2 => ∃ b, y = .bl b ∧ (b = true → W (i + 1) H2) ∧ (b = false → Qf H2)) :
    ∀ (n i : Nat) (s₀ s : Shared) (H : Hp), i + n = N → L2.Inv G [(ga, go)] σ0 H s → tn i s.heap → (∀ b ∈ fp, H b = none) → W i H → gi < s.gens.size →
      Seg (model G.prog G.w) A1 (gR G [(ga, go)] Qt) (gY G gi [(ga, go)] Qf) n s₀ (geC elt iter x px scope gpos it cenv) ((model G.prog G.w).den (geC elt iter x px scope gpos it cenv)) [] s := by
  obtain ⟨calm, gA, gE, gxe, gpn, gex⟩ := gx
  have stat : ∀ {σ' : L2.St} {H' : Hp} {s' : Shared}, L2.Inv G [(ga, go)] σ' H' s' → (∀ b ∈ fp, H' b = none) → ∀ b ∈ fp, FpOk G [(ga, go)] H' b := fun {σ' H' s'} I' hn b hb => by
    have hb' : b ∈ G.ex := by rw [gex]; exact hb
    refine ⟨hn b hb, (I'.ok.exf b hb').1, I'.ok.exfs b hb', .inl hb', fun x c e => (I'.ok.exf b hb').2 x c e, fun p hp z => ?_⟩
    rw [gpn] at hp
    have e : p = (ga, go) := by simpa using hp
    have e2 : p.1 = ga := congrArg Prod.fst e
    exact hga (by rw [← e2, z]; exact hb)
  have pg : PG G (.Name x px) (gName ix) := pg_name hN hi (by rw [gE, hsc]; exact .inl hx) (.inr (by rw [gE, hsc]; exact hx))
  intro n
  induction n with
  | zero =>
    intro i s₀ s H hn I st nf w hgs
    obtain rfl : i = N := by omega
    show Seg _ A1 _ _ _ s₀ _ ((compTurn (geE elt iter x px scope gpos) 0 (.ref it) .none cenv).onRaise (leaving cenv)) [] s
    rw [compTurn_gen, Sem.onRaise_eq_wrap]
    refine seg_bind_wrap (wpAny_standAt ?_)
    obtain ⟨stop, qt⟩ := hstop H w
    have td := T.done G rfl rfl rfl calm i [(ga, go)] s _ H (fun _ _ => False) I (stat I nf) st stop
    rw [gA] at td
    refine seg_bind_wrap (thnF td fun r s1 ⟨hr, I1⟩ => ?_)
    subst hr
    exact seg_end (.ok .next) ⟨rfl, _, H, I1, qt⟩
  | succ n ih =>
    intro i s₀ s H hn I st nf w hgs
    show Seg _ A1 _ _ _ s₀ _ ((compTurn (geE elt iter x px scope gpos) 0 (.ref it) .none cenv).onRaise (leaving cenv)) [] s
    rw [compTurn_gen, Sem.onRaise_eq_wrap]
    refine seg_bind_wrap (wpAny_standAt ?_)
    obtain ⟨goes, step⟩ := hgo i H (by omega) w
    have ti := T.item G rfl rfl rfl calm i [(ga, go)] s _ H (fun _ _ => False) I (stat I nf) st goes
    rw [gA] at ti
    refine seg_bind_wrap (wpAny_gsz hgs (thnF ti fun r s1 ⟨u, hr, h1⟩ z1 => ?_))
    subst hr
    refine seg_bind_wrap (wpAny_gsz z1 (thnF h1 fun _ s2 ⟨v, H2, I2, r2, y2, st2, n2⟩ z2 => ?_))
    have I2' := I2.pinned (stat I2 n2) (T.obj _ _ st2)
    have pr := pg.run _ s2 _ H2 v u (fun σ' H' => σ' = σ0.set ix (some v) ∧ H' = H2) I2' r2 ⟨rfl, rfl⟩
    rw [gA, gE, gxe] at pr
    refine seg_bind_wrap (wpAny_gsz z2 (thnF pr fun _ s3 ⟨σ3, H3, I3, e3, e4⟩ z3 => ?_))
    subst e3 e4
    simp only [List.forIn_nil]
    refine seg_bind_wrap (wpAny_pure ?_)
    simp only [if_true]
    have hy : ∀ v, yieldOut cenv v = yieldValue v := fun v => by simp only [yieldOut, hsc, hco, Bool.false_eq_true, if_false]
    simp only [hy]
    rw [Sem.bind_eq_wrap', Sem.bind_eq_wrap', Sem.wrap_wrap, Sem.wrap_wrap]
    have er := pe.run _ s3 _ H3 _ I3 (step v H3 y2)
    rw [gA, gE, gxe] at er
    refine seg_wrap (wpAny_gsz z3 (thnF er fun y s5 ⟨yv, H5, I5, r5, b, eb, wt, wf⟩ z5 => ?_))
    subst eb
    obtain rfl : y = .bool b := r5
    have I6 : L2.Inv G [(ga, go)] σ0 H5 s5 := (I5.unpinned (pins := [(ga, go)])).weak (List.length_set ..).symm (fun j u e => by rw [List.getElem?_set_ne (fun z => h0 j u e z.symm)]; exact e)
    have pin' : ∀ b ∈ fp, ∀ o, s2.heap.get? b = some o → s5.heap.get? b = some o ∧ H5 b = none := fun b hb o e =>
      let z := I5.pin (b, o) (List.mem_append_right _ (List.mem_append_right _ (mem_pinsAt hb e)))
      ⟨z.1, z.2.1⟩
    have st5 : tn (i + 1) s5.heap := T.keep _ _ _ st2 fun b hb o e => (pin' b hb o e).1
    have n5 : ∀ b ∈ fp, H5 b = none := fun b hb => by
      obtain ⟨o, e, _⟩ := T.obj _ _ st2 b hb
      exact (pin' b hb o e).2
    refine seg_at (seg_yield rfl rfl rfl ⟨z5, b, _, H5, rfl, I6, wf, fun hb s' sl => ?_⟩)
    exact seg_again rfl (ih (i + 1) s' s' H5 (by omega) (I6.slept sl) (by rw [sl.hp]; exact st5) n5 (wt hb) (Nat.lt_of_lt_of_le z5 sl.sz))
end
/-- the generator's scope: its one name, and names of the def around it -/
structure GeF (X : Cx) (scope : Scope) (x : Str) : Prop where
  kind : scope.kind = .function
  co : scope.isCoroutine = false
  cell : ∀ y ∈ scope.names, y.2 ≠ .cell
  free : ∀ y ∈ scope.names, y.2 = .free → X.env.kindOf y.1 = some .cell ∨ X.env.kindOf y.1 = some .free
  dot : scope.names.lookup (".0" : Str) = some NameKind.local
  loc : scope.names.lookup x = some .local
theorem geFree {X : Cx} {scope sc : Scope} (e : X.env.scope = sc) (h : ∀ y ∈ scope.names, y.2 = .free → sc.names.lookup y.1 = some .cell) : ∀ y ∈ scope.names, y.2 = .free → X.env.kindOf y.1 = some .cell ∨ X.env.kindOf y.1 = some .free := fun y hy k => .inl (by
  show X.env.scope.names.lookup y.1 = _
  rw [e]
  exact h y hy k)
theorem GeF.cells {X : Cx} {scope : Scope} {x : Str} (S : GeF X scope x) (ok : X.Ok) : ∀ y ∈ scope.names, y.2 = .free → ∃ c, X.env.cells.lookup y.1 = some c := fun y hy e => ok.has y.1 (S.free y hy e)
def capS (N : List Str) (iy : Nat) (v : V) : L2.St := (noneS N).set iy (some v)
theorem capS_len (N : List Str) (iy : Nat) (v : V) : (capS N iy v).length = N.length := by unfold capS noneS; rw [List.length_set, List.length_replicate]
theorem capS_at {N : List Str} {iy j : Nat} {v u : V} (h : (capS N iy v)[j]? = some (some u)) : j = iy ∧ u = v := by
  unfold capS at h
  by_cases e : j = iy
  · subst e
    refine ⟨rfl, ?_⟩
    rw [List.getElem?_set] at h
    split at h
    · split at h
      · cases h; rfl
      · cases h
    · exact absurd rfl (by assumption)
  · rw [List.getElem?_set_ne (fun z => e z.symm)] at h
    unfold noneS at h
    rw [List.getElem?_replicate] at h
    split at h <;> cases h
/-- its context at the start -/
theorem ge_startF {X : Cx} {pins : List (Addr × Obj)} {σ : L2.St} {H : Hp} {s : Shared} {scope : Scope} {x y : Str} {iy : Nat} {v : V} {fp : List Addr} {A : Around} {code : Value} {m : Str → Option Value} {h' : Heap} {g' : Array GenState} {t' : Nat} {go : Obj}
    (I : L2.Inv X pins σ H s) (S : GeF X scope x) (hN : X.N[iy]? = some y) (hv : σ[iy]? = some (some v)) (hyf : (y, NameKind.free) ∈ scope.names) (hyl : scope.names.lookup y = some .free) (hA : A.handled = none) (hfr : A.frames = some (genEnv scope (cloFrom X.env.cells scope.names []) s.heap.objs.size code builtinsNs X.env :: X.stack)) (hfp : ∀ b ∈ fp, FpOk X pins H b ∧ b < s.heap.objs.size)
    (hn : h'.Ns s.heap.objs.size m) (hk : ∀ b o, s.heap.get? b = some o → h'.get? b = some o) (hsz : h'.objs.size = s.heap.objs.size + 1) (hfree : go.isFreed = false) (hgo : ∀ v, go.data ≠ .cell v) (hg : AllBare g') :
    L2.Inv (gxX X s H (genEnv scope (cloFrom X.env.cells scope.names []) s.heap.objs.size code builtinsNs X.env) fp A) [(h'.objs.size, go)] (capS X.N iy v) H { s with heap := h'.push go, gens := g', toks := t' } := by
  have kp : ∀ b o, s.heap.get? b = some o → (h'.push go).get? b = some o := fun b o e => Heap.get?_push_of_some _ (hk b o e)
  have ge : s.heap.objs.size ≤ h'.objs.size := by rw [hsz]; exact Nat.le_succ _
  have sub : ∀ z c, (cloFrom X.env.cells scope.names []).lookup z = some c → X.env.cells.lookup z = some c := fun z c e => clo_cm (S.cells I.ok) e
  have okG : (gxX X s H (genEnv scope (cloFrom X.env.cells scope.names []) s.heap.objs.size code builtinsNs X.env) fp A).Ok := by
    refine ⟨I.ok.mod, S.kind, I.ok.glob, rfl, Nat.le_refl _, fun y z c e1 e2 => I.ok.inj y z c (sub _ _ e1) (sub _ _ e2), fun y hy => ?_, fun y c z e => ?_, fun _ => hA, hfr, .inr ⟨rfl, rfl⟩, fun b hb => ⟨Nat.ne_of_lt (hfp b hb).2, fun y c e z => ?_⟩, I.bs, Nat.le_trans I.ok.bsz I.sz, fun b o e hb => ?_, fun b hb z => ?_, I.stack, I.stkFree⟩
    · rcases hy with hy | hy
      · exact absurd rfl (S.cell _ (PySem.mem_of_lookup hy))
      · have hm := PySem.mem_of_lookup hy
        obtain ⟨c, hc⟩ := S.cells I.ok _ hm rfl
        exact ⟨c, clo_has (S.cells I.ok) hm hc⟩
    · cases z
    · exact (hfp b hb).1.2.2.2.2.1 y c (sub _ _ e) z
    · rcases (hfp b hb).1.2.2.2.1 with z | z
      · exact I.ok.noex b o e z
      · exact absurd (Nat.lt_of_lt_of_le (Heap.lt_size e) (Nat.le_trans I.ok.bsz z)) (Nat.lt_irrefl _)
    · rcases List.mem_cons.mp (I.stkSub b z) with z | z
      · exact (hfp b hb).1.2.1 z
      · exact (hfp b hb).1.2.2.1 z
  refine ⟨okG, rfl, hg, Un.kept kp, ⟨m, hn.push _, fun i z av e1 e2 e3 => ?_⟩, fun y c e => ?_, I.hok.fresh (Nat.le_refl _), fun y c e => I.freeC y c (sub _ _ e), fun p hp => ?_, I.hok.kept kp, capS_len ..⟩
  · obtain ⟨rfl, rfl⟩ := capS_at e2
    have e1 : X.N[i]? = some z := e1
    rw [hN] at e1
    cases e1
    obtain ⟨m0, _, lk⟩ := I.loc
    have kx := S.free _ hyf rfl
    obtain ⟨u, ru, lku⟩ := lk i y av hN hv (by rcases kx with q | q; exact .inr (.inl q); exact .inr (.inr q))
    rcases lku with ⟨q, _⟩ | ⟨_, c, hc, ic⟩
    · rcases kx with k | k
      · rw [q] at k; cases k
      · rw [q] at k; cases k
    · exact ⟨u, ru, .inr ⟨.inr hyl, c, clo_has (S.cells I.ok) hyf hc, let ⟨o, e, d⟩ := ic; ⟨o, kp _ _ e, d⟩⟩⟩
  · obtain ⟨w, q⟩ := I.cell y c (sub _ _ e)
    exact ⟨w, let ⟨o, e, d⟩ := q; ⟨o, kp _ _ e, d⟩⟩
  · have e : p = (h'.objs.size, go) := by simpa using hp
    subst e
    refine ⟨Heap.get?_push_size _ hfree, I.hok.fresh ge, ?_, ?_, hgo⟩
    · show h'.objs.size ≠ s.heap.objs.size
      rw [hsz]
      exact Nat.succ_ne_self _
    · intro z
      rcases List.mem_cons.mp (I.stkSub _ z) with z | z
      · have := I.lt
        rw [← z] at this
        exact absurd (Nat.lt_of_lt_of_le this ge) (Nat.lt_irrefl _)
      · exact I.nofs ge z
/-- all(test for x in ..): W what stands ahead of turn i, of N -/
def tAllF (P : Addr) (NS : List Str) (ix iy : Nat) (wi : TI) (te : TE) : TE := fun σ H Q => ∃ v0, σ[iy]? = some (some v0) ∧ wi σ H fun J H1 => GxR.TabG H1 P ∧ ∃ (N : Nat) (W : Nat → Hp → Prop), (∀ H2, GxR.Tabbed P H1 H2 → W 0 H2) ∧ (∀ H, W N H → J.stop N H ∧ Q (.bl true) H) ∧
  ∀ i H, i < N → W i H → J.go i H ∧ ∀ v H', J.yld i H v H' → te ((capS NS iy v0).set ix (some v)) H' fun y H2 => ∃ b, y = .bl b ∧ (b = true → W (i + 1) H2) ∧ (b = false → Q (.bl false) H2)
theorem pe_allF {X : Cx} {c P : Addr} {elt iter : Expr} {x : Str} {px p pos gpos : Pos} {scope : Scope} {wi : TI} {te : TE} {k ix iy : Nat} {y : Str} (hc : X.calm = true) (hN : X.N.Nodup) (hi : X.N[ix]? = some x) (hr : Room (k + 1) X.A) (hg : Gl X "all") (hm : X.mg "all" = none)
    (hb : bootBuiltins "all" = some (.builtin "all")) (TB : GxR.TabB X.base X.mg c P) (hcode : X.env.code = .ref c) (S : GeF X scope x) (hNy : X.N[iy]? = some y) (hyf : (y, NameKind.free) ∈ scope.names) (hyl : scope.names.lookup y = some .free) (hxy : ix ≠ iy) (hit : PI X (.Name x px) iter wi)
    (hel : ∀ (s : Shared) (H : Hp) (C : Addr) (code : Value) (fp : List Addr) (A : Around), Room k A → PE (gxX X s H (genEnv scope (cloFrom X.env.cells scope.names []) C code builtinsNs X.env) fp A) elt te)
    (hs : ∀ v, genFold iter X.env v = pure v)
    (he : starEach [geE elt iter x px scope gpos] X.env = (false, eval (geE elt iter x px scope gpos) X.env) :: starEach [] X.env := by rfl) :
    PE X (.Call (.Name "all" p) [geE elt iter x px scope gpos] [] pos) (tAllF P X.N ix iy wi te) := by
  refine ⟨fun pins s σ H Q I h => ?_⟩
  refine wpAny_Call_Name_kw (ld_blt I hg hm hb ?_)
  refine PyProof.Rows.callWith_builtin1 ?_ he (by rfl)
  rw [he]
  show wpAny _ _ (spliced ((false, eval (geE elt iter x px scope gpos) X.env) :: backTo pos (starEach [] X.env))) _ _ s
  refine Calls.spliced_cons ?_
  obtain ⟨v0, hv0, h⟩ := h
  have hcl : closureFor scope X.env = pure (cloFrom X.env.cells scope.names []) := closure_ok (env := X.env) (S.cells I.ok)
  refine wpAny_GeneratorExp_make S.co hcl S.cell S.dot S.kind (by have := hr.dp; omega) ?_ hs
  refine thn (hit.run pins s σ H _ I h) fun xv s1 hx => thn hx fun itv s2 h2 => ?_
  obtain ⟨it, fp, tn, J, H2, rfl, I2, T, st2, f2, ⟨ps, hP, ht⟩, N, W, w0, hstop, hgo⟩ := h2
  refine ⟨I2.nolimit, ?_⟩
  have hPs : s2.heap.get? P = some { cls := .none, data := .fields ps } := I2.hok P _ hP
  have cd : PySem.W.CodeHd s2.heap c P := TB.code.keeps fun b u e => I2.bk b u e
  have cont : ∀ (code : Value) (h3 : Heap) (tk : Nat) (ps' : Array Value), Heap.ExtBut P s2.heap h3 → s2.heap.objs.size ≤ h3.objs.size → h3.get? P = some { cls := .none, data := .fields ps' } → (∃ more, ps' = ps ++ more) → TriplesOk ps'.toList →
      wpAny (model X.prog X.w) X.A (builtinsFor X.env.globals X.env.builtins) (fun bi s₄ =>
        ∀ h', h'.Ns s₄.heap.objs.size (fun y => if y = ".0" then some (.ref it) else none) → Heap.SameBut s₄.heap.objs.size (s₄.heap.push { cls := .type "frame", data := .dict #[] }) h' →
          wpAny (model X.prog X.w) X.A (spliced (backTo pos (starEach [] X.env))) (fun vs s' => wpAny (model X.prog X.w) X.A (call (.builtin "all") (Value.ref h'.objs.size :: vs)) (EP X pins σ Q) X.xe s') X.xe
          { s₄ with
            gens := s₄.gens.push (.fresh (.compStart (geE elt iter x px scope gpos) 0 (.ref it) .none (genEnv scope (cloFrom X.env.cells scope.names []) s₄.heap.objs.size code bi X.env))),
            toks := s₄.toks + 1 + 1 + 1,
            heap := h'.push { cls := .type "generator", data := .fields #[.int s₄.gens.size 0, .str "<genexpr>" (s₄.toks + 1), .str (X.env.qual ++ "<genexpr>") (s₄.toks + 1 + 1)] } }) X.xe { s2 with heap := h3, toks := tk } := by
    intro code h3 tk ps' hx hsz hP3 ⟨more, em⟩ ht3
    obtain ⟨bm, ob, e1, e2, e3, e4, e5, e6, e7, e8⟩ := TB.bm
    have keep3 : ∀ b u, b ≠ P → s2.heap.get? b = some u → h3.get? b = some u := fun b u hb e => hx b u hb e
    refine wpAny_builtinsFor (m := X.mg) (by rw [I2.ok.glob]; exact (I2.mod.glob.keeps I2.bk).extBut hx TB.gP) e1 e2 (keep3 _ _ e4 (I2.bk _ _ e5)) e6 e7 e8 ?_
    intro h' hn' hs'
    subst em
    have I4 : L2.Inv X pins σ (upd H2 P (.tbl (ps ++ more))) { s2 with heap := h3, gens := s2.gens, drawn := s2.drawn, toks := tk } := GxR.inv_tab I2 hP keep3 hP3 I2.bare
    have fl : ∀ b ∈ fp, b < s2.heap.objs.size := fun b hb => by
      obtain ⟨o, e, _⟩ := T.obj _ _ st2 b hb
      exact Heap.lt_size e
    have fP : ∀ b ∈ fp, b ≠ P := fun b hb z => by
      have := (f2 b hb).1
      rw [z, hP] at this
      cases this
    have f4 : ∀ b ∈ fp, FpOk X pins (upd H2 P (.tbl (ps ++ more))) b ∧ b < h3.objs.size := fun b hb => ⟨⟨by rw [upd_ne (fP b hb)]; exact (f2 b hb).1, (f2 b hb).2⟩, Nat.lt_of_lt_of_le (fl b hb) hsz⟩
    have hs1 : h'.objs.size = h3.objs.size + 1 := by
      have := hs'.1
      rw [this]
      exact Heap.size_push ..
    have kh : ∀ b o, h3.get? b = some o → h'.get? b = some o := fun b o e => hs'.extBut b o (Nat.ne_of_lt (Heap.lt_size e)) (Heap.get?_push_of_some _ e)
    have IG := ge_startF (A := X.A.in1.in1.over (geC elt iter x px scope gpos it (genEnv scope (cloFrom X.env.cells scope.names []) h3.objs.size code builtinsNs X.env)) []) (code := code) (x := x) (scope := scope) (t' := tk + 1 + 1 + 1) (g' := s2.gens.push (.fresh (.compStart (geE elt iter x px scope gpos) 0 (.ref it) .none (genEnv scope (cloFrom X.env.cells scope.names []) h3.objs.size code builtinsNs X.env))))
      (go := { cls := .type "generator", data := .fields #[.int s2.gens.size 0, .str "<genexpr>" (tk + 1), .str (X.env.qual ++ "<genexpr>") (tk + 1 + 1)] }) I4 S hNy hv0 hyf hyl hr.hd (by
        show pushEnvs [genEnv scope (cloFrom X.env.cells scope.names []) h3.objs.size code builtinsNs X.env] (pushEnvs [] X.A.frames) = _
        rw [I2.ok.frames]
        rfl) f4 hn' kh hs1 rfl (fun v z => by cases z) (I2.bare.push rfl)
    refine Calls.spliced_nil ?_
    have back : ∀ (σ' : L2.St) (H' : Hp) (s' : Shared), L2.Inv (gxX X { s2 with heap := h3, gens := s2.gens, drawn := s2.drawn, toks := tk } (upd H2 P (.tbl (ps ++ more))) (genEnv scope (cloFrom X.env.cells scope.names []) h3.objs.size code builtinsNs X.env) fp (X.A.in1.in1.over (geC elt iter x px scope gpos it (genEnv scope (cloFrom X.env.cells scope.names []) h3.objs.size code builtinsNs X.env)) []))
        [(h'.objs.size, { cls := .type "generator", data := .fields #[.int s2.gens.size 0, .str "<genexpr>" (tk + 1), .str (X.env.qual ++ "<genexpr>") (tk + 1 + 1)] })] σ' H' s' → L2.Inv X pins σ H' s' := fun σ' H' s' I' =>
      I4.call' (ch := fp) I'.os I'.base I'.hok I'.bare fun b hb => ⟨(f4 b hb).1.2.2.2.1, (f4 b hb).1.2.1, (f4 b hb).1.2.2.2.2.1, (f4 b hb).1.2.2.2.2.2⟩
    have room : Room k (X.A.in1.in1.over (geC elt iter x px scope gpos it (genEnv scope (cloFrom X.env.cells scope.names []) h3.objs.size code builtinsNs X.env)) []) := by
      have e1 : (X.A.in1.in1.over (geC elt iter x px scope gpos it (genEnv scope (cloFrom X.env.cells scope.names []) h3.objs.size code builtinsNs X.env)) []).depth = X.A.depth + 1 := rfl
      have e2 : (X.A.in1.in1.over (geC elt iter x px scope gpos it (genEnv scope (cloFrom X.env.cells scope.names []) h3.objs.size code builtinsNs X.env)) []).units ≤ X.A.units + 5 := Nat.le_of_eq rfl
      have r1 := hr.dp
      have r2 := hr.un
      exact ⟨hr.hd, by rw [e1]; omega, by omega⟩
    have st5 : tn 0 (h'.push { cls := .type "generator", data := .fields #[.int s2.gens.size 0, .str "<genexpr>" (tk + 1), .str (X.env.qual ++ "<genexpr>") (tk + 1 + 1)] }) := T.keep _ _ _ st2 fun b hb o e => Heap.get?_push_of_some _ (kh b o (keep3 b o (fP b hb) e))
    have hgen : ∀ h : Heap, h.get? h'.objs.size = some { cls := .type "generator", data := .fields #[.int s2.gens.size 0, .str "<genexpr>" (tk + 1), .str (X.env.qual ++ "<genexpr>") (tk + 1 + 1)] } → h.IsGen h'.objs.size s2.gens.size := fun h e => ⟨_, _, _, e, rfl, rfl, rfl⟩
    have hga : h'.objs.size ∉ fp := fun z => by
      have := (f4 _ z).2
      rw [hs1] at this
      exact absurd (Nat.lt_trans (Nat.lt_succ_self _) this) (Nat.lt_irrefl _)
    refine call_function_tree F.kind_all F.plain_all F.entry_all (F.args_all1 _) ?_
    unfold Builtin.«all»
    refine wpAny_bind (m := oneArg "all" _) (wpAny_pure ?_)
    refine wpAny_bind (wpAny_pyIter_gen (g := s2.gens.size) (hgen _ (Heap.get?_push_size _ rfl)) ?_)
    refine wpAny_pure ⟨plainId_quiet F.plain_all_loop _, ?_⟩
    refine loop_all (G := gxX X { s2 with heap := h3, gens := s2.gens, drawn := s2.drawn, toks := tk } (upd H2 P (.tbl (ps ++ more))) (genEnv scope (cloFrom X.env.cells scope.names []) h3.objs.size code builtinsNs X.env) fp (X.A.in1.in1.over (geC elt iter x px scope gpos it (genEnv scope (cloFrom X.env.cells scope.names []) h3.objs.size code builtinsNs X.env)) []))
      (Qt := fun H => Q (.bl true) H) (Qf := fun H => Q (.bl false) H) hr.hd (by have := hr.dp; omega) hgen (fun σ' H' s' I' q' => ⟨.bl true, H', back σ' H' s' I', rfl, q'⟩) (fun σ' H' s' I' q' => ⟨.bl false, H', back σ' H' s' I', rfl, q'⟩) N _ ⟨hgen _ (Heap.get?_push_size _ rfl), IG.nolimit, I2.bare.push rfl, _, Array.getElem?_push_size .., fun s' sl => ⟨rfl, ?_⟩⟩
    have sz' : s2.gens.size < s'.gens.size := by
      have := sl.sz
      have e : (s2.gens.push (.fresh (.compStart (geE elt iter x px scope gpos) 0 (.ref it) .none (genEnv scope (cloFrom X.env.cells scope.names []) h3.objs.size code builtinsNs X.env)))).size = s2.gens.size + 1 := Array.size_push ..
      exact Nat.lt_of_lt_of_le (Nat.lt_of_lt_of_le (Nat.lt_succ_self _) (Nat.le_of_eq e.symm)) this
    have st6 : tn 0 s'.heap := by rw [sl.hp]; exact st5
    exact seg_start T st6 (seg_geF (G := gxX X { s2 with heap := h3, gens := s2.gens, drawn := s2.drawn, toks := tk } (upd H2 P (.tbl (ps ++ more))) (genEnv scope (cloFrom X.env.cells scope.names []) h3.objs.size code builtinsNs X.env) fp (X.A.in1.in1.over (geC elt iter x px scope gpos it (genEnv scope (cloFrom X.env.cells scope.names []) h3.objs.size code builtinsNs X.env)) []))
      (ix := ix) (σ0 := capS X.N iy v0) (fun j u e => by rw [(capS_at e).1]; exact fun z => hxy z.symm) (capS_len ..) ⟨hc, rfl, rfl, rfl, rfl, rfl⟩ hN hi S.loc rfl S.co T hga (hel _ _ _ _ _ _ room) hstop hgo N 0 s' s' _ (Nat.zero_add N) (IG.slept sl) st6 (fun b hb => (f4 b hb).1.1) (w0 _ ⟨⟨ps ++ more, upd_same, ht3⟩, fun b hb => upd_ne hb⟩) sz')
  cases hf : codeAmong gpos ps.toList with
  | none =>
    refine wpAny_genexprCodeX hcode (cd.code hPs ht) (cd.tab hPs) hf fun c' h' tk hx hge hlt hco' _ htab' _ => ?_
    obtain ⟨o1, vs, f1, tf, fl, tg, inF, tx, tt, op, _, _, _, _, _, _, _, _, _, htr, _⟩ := hco'
    exact cont _ h' tk _ hx (Nat.le_trans hge (Nat.le_of_lt hlt)) htab'.2 ⟨_, rfl⟩ htr
  | some cv =>
    refine wpAny_genexprCode_hit hcode (cd.code hPs ht) hf ?_
    exact cont cv s2.heap s2.toks ps (Heap.ExtBut.refl _ _) (Nat.le_refl _) hPs ⟨#[], by simp⟩ ht
end Tw

/-! A rule's text: figures, words; defs that hold a generator expression. -/
namespace Tw
open PySem PySem.Spec PyProof.Rows L2
open SX (S)
/-! ### a def whose code object is known -/
def TopC (K : PySem.W.Frag) (mg : Str → Option Value) (x : Str) (st : Stmt) (ps : List Str) (c : Addr) : Prop :=
  ∃ (f : Addr) (oc : Value) (od : Option Addr) (kV doc pm : Value) (an : Option Addr) (ct : Value) (osl : Array (Option Value)), K.lookup f = some ⟨oc, od, .func (PySem.W.fnOf x x (defArgs st) (defBody st) (defScope st) .none kV doc pm an (.ref c) ct), osl⟩ ∧ PySem.W.codeIn K (.ref c) x = true ∧ PySem.W.keepIn K (.ref f) = true ∧ mg x = some (.ref f) ∧
    Binds K (PySem.W.fnOf x x (defArgs st) (defBody st) (defScope st) .none kV doc pm an (.ref c) ct) ps []
theorem topC_mk {K : PySem.W.Frag} {h : Heap} {mg : Str → Option Value} {x : Str} {st : Stmt} {ps : List Str} {f c : Addr} {oc : Value} {od an : Option Addr} {sl : Array (Option Value)} {kV dc pm ct : Value} (X : K.In h) (G : h.Ns mainGlobals mg)
    (a : PySem.W.nsIn K mainGlobals x = some (some (.ref f))) (l : K.lookup f = some ⟨oc, od, .func (PySem.W.fnOf x x (defArgs st) (defBody st) (defScope st) .none kV dc pm an (.ref c) ct), sl⟩) (cd : PySem.W.codeIn K (.ref c) x = true) (k : PySem.W.keepIn K (.ref f) = true)
    (hb : ∀ (kV doc pm : Value) (an : Option Addr) (cdv ct : Value) (us : List Value), us.length = ps.length → bindArgs (PySem.W.fnOf x x (defArgs st) (defBody st) (defScope st) .none kV doc pm an cdv ct) ⟨us, []⟩ = pure (ps.zip us)) : TopC K mg x st ps c :=
  ⟨f, oc, od, kV, dc, pm, an, ct, sl, l, cd, k, PySem.W.mg_of X G a, .all (hb kV dc pm an (.ref c) ct)⟩
section
variable {P : Program} {w : World} {K : PySem.W.Frag} {mg : Str → Option Value} {base : Heap} {x : Str} {st : Stmt} {N : List Str} {k : Nat} {c : Addr}
theorem TopC.ok1 {a : Str} {p : V → Hp → VK → XK → Prop} (D : TopC K mg x st [a] c) (Sc : FnScope N [a] (defScope st))
    (hbody : ∀ (f : Addr) (A : Around) (outer : List Env) (s : Shared) (H : Hp) (v1 : V) (Q : VK) (E : XK), Room k (A.deeper (envOfC x (defScope st) s.heap.objs.size f (.ref c))) → p v1 H Q E →
      ∃ t, PSs (cxOf CX0 P w K mg base N x (defScope st) f (.ref c) A outer s H E).nox (defBody st) t ∧ t { nx := fun _ H' => Q .non H', rt := Q } (start N [v1]) H) : Has P w K mg base CX0 (k + 1) x [a] (sp1 p) := by
  obtain ⟨f, oc, od, kV, doc, pm, an, ct, osl, lk, hcd, kp, g, b⟩ := D
  refine ⟨f, _, fn_of lk hcd Sc (fun vs H Q E h => by obtain ⟨_, rfl, _⟩ := h; rfl) fun A outer s H vs Q E hr h => ?_, g, kp, b, oc, od, osl, lk⟩
  obtain ⟨v1, rfl, h⟩ := h
  obtain ⟨t, h, q⟩ := hbody f A outer s H v1 Q E hr h
  exact ⟨t, h.nox, q⟩
theorem TopC.ok1X {a : Str} {p : V → Hp → VK → XK → Prop} (D : TopC K mg x st [a] c) (Sc : FnScope N [a] (defScope st))
    (hbody : ∀ (f : Addr) (A : Around) (outer : List Env) (s : Shared) (H : Hp) (v1 : V) (Q : VK) (E : XK), Room k (A.deeper (envOfC x (defScope st) s.heap.objs.size f (.ref c))) → p v1 H Q E →
      ∃ t, PSs (cxOf (L2.CX P w) P w K mg base N x (defScope st) f (.ref c) A outer s H E) (defBody st) t ∧ t { nx := fun _ H' => Q .non H', rt := Q } (start N [v1]) H) : Has P w K mg base (L2.CX P w) (k + 1) x [a] (sp1 p) := by
  obtain ⟨f, oc, od, kV, doc, pm, an, ct, osl, lk, hcd, kp, g, b⟩ := D
  refine ⟨f, _, fn_of lk hcd Sc (fun vs H Q E h => by obtain ⟨_, rfl, _⟩ := h; rfl) fun A outer s H vs Q E hr h => ?_, g, kp, b, oc, od, osl, lk⟩
  obtain ⟨v1, rfl, h⟩ := h
  exact hbody f A outer s H v1 Q E hr h
end
/-! ### figures -/
def dig (c : Nat) : Bool := decide (48 ≤ c) && decide (c ≤ 57)
def figs (l : List Nat) : Bool := !l.isEmpty && l.all dig && (decide (l = [48]) || decide (l.head? ≠ some 48))
abbrev tenS : List Nat := [48, 49, 50, 51, 52, 53, 54, 55, 56, 57]
theorem dig_in (c : Nat) : decide (c ∈ tenS) = dig c := by
  unfold dig
  rw [Bool.eq_iff_iff, decide_eq_true_eq, Bool.and_eq_true, decide_eq_true_eq, decide_eq_true_eq]
  constructor
  · intro h
    simp only [tenS, List.mem_cons, List.not_mem_nil, or_false] at h
    omega
  · intro h
    simp only [tenS, List.mem_cons, List.not_mem_nil, or_false]
    omega
def pFig (P : Addr) : V → Hp → VK → XK → Prop := fun a H Q _ => ∃ l : List Nat, a = .str (S l) ∧ l.length ≤ 100000 ∧ GxR.TabG H P ∧ ∀ H', GxR.Tabbed P H H' → Q (.bl (figs l)) H'
theorem tabbed_refl {P : Addr} {H : Hp} (h : GxR.TabG H P) : GxR.Tabbed P H H := ⟨h, fun _ _ => rfl⟩
theorem tabbed_trans {P : Addr} {H H1 H2 : Hp} (a : GxR.Tabbed P H H1) (b : GxR.Tabbed P H1 H2) : GxR.Tabbed P H H2 := ⟨b.1, fun c hc => (b.2 c hc).trans (a.2 c hc)⟩
/-! ### words -/
def wds (a : List Nat) : List (List Nat) := TL.spl [32] 0 [] a
theorem split_wds (a : List Nat) : Txt.split (S a) (Str.ofString " ") = (wds a).map S := by
  have e : Str.ofString " " = S [32] := by decide
  rw [e]
  exact SX.split_S (by simp) (by decide)
theorem spl_len (b : List Nat) : ∀ (l : List Nat) (k : Nat) (acc : List Nat), ∀ w ∈ TL.spl b k acc l, w.length ≤ acc.length + l.length
  | [], k, acc, w, h => by
    have e : TL.spl b k acc [] = [acc] := by cases k <;> rfl
    rw [e, List.mem_singleton] at h
    rw [h]
    exact Nat.le_add_right _ _
  | c :: r, 0, acc, w, h => by
    unfold TL.spl at h
    by_cases z : TL.pre b (c :: r) = true
    · rw [if_pos z] at h
      rcases List.mem_cons.mp h with e | e
      · rw [e]; exact Nat.le_add_right _ _
      · have := spl_len b r _ [] w e
        have e1 : ([] : List Nat).length = 0 := rfl
        have e2 : (c :: r).length = r.length + 1 := rfl
        omega
    · rw [if_neg z] at h
      have := spl_len b r _ _ w h
      rw [List.length_append] at this
      have e1 : [c].length = 1 := rfl
      have e2 : (c :: r).length = r.length + 1 := rfl
      omega
  | c :: r, k + 1, acc, w, h => by
    unfold TL.spl at h
    have := spl_len b r k acc w h
    have e2 : (c :: r).length = r.length + 1 := rfl
    omega
theorem wds_len {a w : List Nat} (h : w ∈ wds a) : w.length ≤ a.length := by
  have := spl_len [32] a 0 [] w h
  have e1 : ([] : List Nat).length = 0 := rfl
  omega
def vl (l : List Nat) : Int := ((NumText.digitsVal l : Nat) : Int)
theorem figs_int {l : List Nat} (h : figs l = true) (hl : l.length ≤ 4300) : intText? (S l) = some (vl l) := by
  unfold figs at h
  rw [Bool.and_eq_true, Bool.and_eq_true] at h
  refine SX.int_S h.1.2 ?_ hl
  intro z
  rw [z] at h
  exact absurd h.1.1 (by decide)
/-- the rule that a text tells -/
def readR (a : List Nat) : Option (Int × Int × Int) := match wds a with
  | [x, y, z] => if (figs x && figs y && figs z) = true then (if vl z ≤ vl x ∨ vl z ≤ vl y then none else some (vl x, vl y, vl z)) else none
  | _ => none
/-- but for two tables all that stood stands -/
structure Grow (P1 P2 : Addr) (H H' : Hp) : Prop where
  t1 : GxR.TabG H' P1
  t2 : GxR.TabG H' P2
  keep : ∀ b o, b ≠ P1 → b ≠ P2 → H b = some o → H' b = some o
theorem Grow.refl {P1 P2 : Addr} {H : Hp} (a : GxR.TabG H P1) (b : GxR.TabG H P2) : Grow P1 P2 H H := ⟨a, b, fun _ _ _ _ e => e⟩
theorem Grow.trans {P1 P2 : Addr} {H H1 H2 : Hp} (a : Grow P1 P2 H H1) (b : Grow P1 P2 H1 H2) : Grow P1 P2 H H2 := ⟨b.t1, b.t2, fun c o n1 n2 e => b.keep c o n1 n2 (a.keep c o n1 n2 e)⟩
theorem tabG_same {P : Addr} {H H' : Hp} (h : GxR.TabG H P) (s : Same H H') : GxR.TabG H' P := by
  obtain ⟨ps, e, t⟩ := h
  exact ⟨ps, s _ _ e, t⟩
theorem Grow.same {P1 P2 : Addr} {H H1 H2 : Hp} (a : Grow P1 P2 H H1) (s : Same H1 H2) : Grow P1 P2 H H2 := ⟨tabG_same a.t1 s, tabG_same a.t2 s, fun c o n1 n2 e => s _ _ (a.keep c o n1 n2 e)⟩
theorem tabG_ne {P b : Addr} {H : Hp} {o : HO} (h : GxR.TabG H P) (e : H b = some o) (n : ∀ ps, o ≠ .tbl ps) : b ≠ P := by
  obtain ⟨ps, e2, _⟩ := h
  intro z
  rw [z, e2] at e
  exact n ps (Option.some.inj e).symm
theorem Grow.get {P1 P2 b : Addr} {H H' : Hp} {o : HO} (a : Grow P1 P2 H H') (h1 : GxR.TabG H P1) (h2 : GxR.TabG H P2) (e : H b = some o) (n : ∀ ps, o ≠ .tbl ps) : H' b = some o :=
  a.keep b o (tabG_ne h1 e n) (tabG_ne h2 e n) e
def pRead (P1 P2 CU : Addr) : V → Hp → VK → XK → Prop := fun v H Q E => ∃ a : List Nat, v = .str (S a) ∧ a.length ≤ 640 ∧ GxR.TabG H P1 ∧ GxR.TabG H P2 ∧
  (∀ t p m, readR a = some (t, p, m) → ∀ H' q, Grow P1 P2 H H' → H q = none → H' q = some (.tup [.int t, .int p, .int m]) → Q (.ref q) H') ∧ (readR a = none → ∀ H', Grow P1 P2 H H' → E (.ref CU) none H')
/-! ### a rule's own text -/
theorem numL_head {n : Nat} (h : 0 < n) : (TL.numL n).head? ≠ some 48 := by
  induction n using Nat.strongRecOn with
  | ind n ih =>
    by_cases c : n < 10
    · rw [TL.numL_lt c]
      intro z
      have := Option.some.inj z
      omega
    · rw [TL.numL_step (by omega)]
      have := ih (n / 10) (by omega) (by omega)
      cases e : TL.numL (n / 10) with
      | nil => exact absurd e (TL.numL_ne _)
      | cons a r =>
        rw [e] at this
        exact this
theorem figs_num (n : Nat) : figs (TL.numL n) = true := by
  unfold figs
  have h1 : (TL.numL n).isEmpty = false := by
    cases e : TL.numL n with
    | nil => exact absurd e (TL.numL_ne n)
    | cons a r => rfl
  have h2 : (TL.numL n).all dig = true := by
    rw [List.all_eq_true]
    intro c hc
    have := TL.numL_digits n c hc
    unfold dig
    rw [decide_eq_true this.1, decide_eq_true this.2]
    rfl
  rw [h1, h2]
  by_cases z : n = 0
  · subst z
    rw [TL.numL_lt (by decide)]
    rfl
  · rw [decide_eq_true (numL_head (by omega)), Bool.or_true]
    rfl
theorem vl_num (n : Nat) : vl (TL.numL n) = n := by
  unfold vl
  rw [TL.numL_val]
def shw (t p m : Int) : List Nat := TL.numL t.toNat ++ [32] ++ TL.numL p.toNat ++ [32] ++ TL.numL m.toNat
theorem wds_shw (t p m : Int) : wds (shw t p m) = [TL.numL t.toNat, TL.numL p.toNat, TL.numL m.toNat] := by
  have e : shw t p m = TL.joinL [32] [TL.numL t.toNat, TL.numL p.toNat, TL.numL m.toNat] := by
    unfold shw
    simp [TL.joinL]
  unfold wds
  rw [e]
  refine SX.spl_join (by simp) fun q hq => ?_
  simp only [List.mem_cons, List.not_mem_nil, or_false] at hq
  rcases hq with rfl | rfl | rfl <;> exact TL.numL_free (.inl (by decide))
theorem read_shw {t p m : Int} (R : Rule t p m) : readR (shw t p m) = some (t, p, m) := by
  unfold readR
  rw [wds_shw]
  have a1 := R.t0
  have a2 := R.t1
  have a3 := R.p0
  have a4 := R.p1
  show (if (figs (TL.numL t.toNat) && figs (TL.numL p.toNat) && figs (TL.numL m.toNat)) = true then _ else _) = _
  rw [figs_num, figs_num, figs_num, vl_num, vl_num, vl_num]
  show (if ((m.toNat : Nat) : Int) ≤ ((t.toNat : Nat) : Int) ∨ ((m.toNat : Nat) : Int) ≤ ((p.toNat : Nat) : Int) then none else some (((t.toNat : Nat) : Int), ((p.toNat : Nat) : Int), ((m.toNat : Nat) : Int))) = _
  rw [if_neg (by omega), Int.toNat_of_nonneg a1, Int.toNat_of_nonneg a3, Int.toNat_of_nonneg (by omega)]
theorem shw_len {t p m : Int} (R : Rule t p m) : (shw t p m).length ≤ 100 := by
  have a1 := R.t0
  have a2 := R.t1
  have a3 := R.p0
  have a4 := R.p1
  have a5 := R.b2
  have k : ∀ n : Nat, (n : Int) ≤ 1000000000000 → (TL.numL n).length ≤ 13 := fun n hn => TL.numL_len (by decide) (by
    have : (10 : Nat) ^ 13 = 10000000000000 := by decide
    omega)
  have k1 := k t.toNat (by omega)
  have k2 := k p.toNat (by omega)
  have k3 := k m.toNat (by omega)
  unfold shw
  rw [List.length_append, List.length_append, List.length_append, List.length_append]
  show (TL.numL t.toNat).length + 1 + (TL.numL p.toNat).length + 1 + (TL.numL m.toNat).length ≤ 100
  omega
def pShown (K : PySem.W.Frag) : V → Hp → VK → XK → Prop := fun a H Q _ => ∃ (r : Addr) (t p m : Int), a = .ref r ∧ SqT K H r [.int t, .int p, .int m] ∧ Rule t p m ∧ Q (.str (S (shw t p m))) H
theorem lg_small {i : Int} (h0 : 0 ≤ i) (h1 : i ≤ 1000000000000) : i.natAbs.log2 < 1920 := by
  by_cases z : i.natAbs = 0
  · rw [z]
    decide
  · have h2 : i.natAbs.log2 < 41 := (Nat.log2_lt z).mpr (by
      have : (2 : Nat) ^ 41 = 2199023255552 := by decide
      omega)
    omega
theorem str_num {i : Int} (h0 : 0 ≤ i) : Str.ofString (toString i) = S (TL.numL i.toNat) := by
  have := SX.num_S i.toNat
  rw [Int.toNat_of_nonneg h0] at this
  exact this
theorem s_len (l : List Nat) (h : l.length ≤ 1000) : (S l).length ≤ sizeLine := by
  show l.toArray.size ≤ sizeLine
  rw [List.size_toArray]
  exact sz (by omega)
end Tw

/-! Bounds that fit: max of a tuple, defs with a table of their own, the bounds' list. -/
namespace Tw
open PySem PySem.Spec PyProof.Rows L2
section
variable {prog : Program} {w : World} {A : Around} {E : Value → Shared → Prop} {s : Shared} {l : Addr} {its : List Value} {ns : List Int} {Q : Value → Shared → Prop}
theorem max_rawT (hh : A.handled = none) (hl : s.heap.IsTuple l its.toArray) (hi : IntsAre its ns) (hne : 0 < ns.length)
    (h : ∀ h' tk M t', (∀ b o, s.heap.get? b = some o → h'.get? b = some o) → M ∈ ns → (∀ a, a ∈ ns → a ≤ M) → Q (.int M t') { s with heap := h', toks := tk }) : wpAny (model prog w) A (call (.builtin "max") [.ref l]) Q E s := by
  obtain ⟨xs, e⟩ := hi.allInts.items
  have hn : numsOf (intItems xs).toList = ns := by rw [← e]; exact hi.numsOf
  rw [nums_intItems] at hn
  subst hn
  rw [e] at hl
  have hlt : l < s.heap.objs.size := by obtain ⟨_, e, _⟩ := hl; exact Heap.lt_size e
  have hsz : 0 < xs.size := by simpa using hne
  have sz : (intItems xs).size = xs.size := by simp [intItems]
  refine call_max_walk (wpAny_pyIter_tuple hl ⟨_, _, _, _, _, _, _, rfl, Walks.tuple (A := A.in1) hh _ l (Nat.ne_of_lt hlt) (intItems xs), ⟨⟨_, Heap.get?_push_size _ rfl, rfl, rfl⟩, hl.push _⟩, fun b hb => ?_, by rw [sz]; exact hsz, CmpOf.ints_gt (numAt xs) (fun _ _ => intItems_at), fun v h' tk hP hk => ?_⟩)
  · show b < (s.heap.push _).objs.size
    rw [Heap.size_push]
    rcases List.mem_cons.mp hb with rfl | hb
    · exact Nat.lt_succ_self _
    · rcases List.mem_cons.mp hb with rfl | hb
      · exact Nat.lt_succ_of_lt hlt
      · cases hb
  · rw [sz] at hP
    obtain ⟨t, rfl⟩ := intItems_at hP
    obtain ⟨g1, g2⟩ := argBest_gt (numAt xs) (xs.size - 1)
    refine h h' tk _ t (fun b o e => hk b o (fun hm => absurd (Heap.lt_size e) ((List.mem_singleton.mp hm) ▸ Nat.lt_irrefl _)) (Heap.get?_push_of_some _ e)) ?_ fun a ha => ?_
    · rw [numAt_eq]; exact PySem.getD_mem (by rw [List.length_map, Array.length_toList]; omega)
    · obtain ⟨j, hj, rfl⟩ := mem_getD ha
      rw [List.length_map, Array.length_toList] at hj
      rw [← numAt_eq]
      exact g2 j (by omega)
end
def rMaxT (K : PySem.W.Frag) : List V → Hp → VK → Prop := fun vs H Q => ∃ (a : Addr) (ns : List Int), vs = [V.ref a] ∧ SqT K H a (ns.map V.int) ∧ 0 < ns.length ∧ ∀ M, M ∈ ns → (∀ x, x ∈ ns → x ≤ M) → Q (.int M) H
theorem cr_maxT {X : Cx} (hc : X.calm = true) : CallR X (.builtin "max") (rMaxT X.K) := by
  intro pins s σ H vs us Q I r h
  obtain ⟨a, ns, rfl, hs, hne, q⟩ := h
  obtain ⟨its, rv, hl, _⟩ := I.tuple hs
  rw [Vals.ref1 r]
  exact max_rawT (I.ok.hd hc) hl (intsAre_of rv) hne fun h' tk M t' hk h1 h2 => ⟨.int _, H, I.kept hk, ⟨_, rfl⟩, q M h1 h2⟩
/-! ### a def of two arguments with a table of its own -/
section
variable {P : Program} {w : World} {K : PySem.W.Frag} {mg : Str → Option Value} {base : Heap} {x : Str} {st : Stmt} {N : List Str} {k : Nat} {c : Addr}
theorem TopC.ok2 {a b : Str} {p : V → V → Hp → VK → XK → Prop} (D : TopC K mg x st [a, b] c) (Sc : FnScope N [a, b] (defScope st))
    (hbody : ∀ (f : Addr) (A : Around) (outer : List Env) (s : Shared) (H : Hp) (v1 v2 : V) (Q : VK) (E : XK), Room k (A.deeper (envOfC x (defScope st) s.heap.objs.size f (.ref c))) → p v1 v2 H Q E →
      ∃ t, PSs (cxOf CX0 P w K mg base N x (defScope st) f (.ref c) A outer s H E).nox (defBody st) t ∧ t { nx := fun _ H' => Q .non H', rt := Q } (start N [v1, v2]) H) : Has P w K mg base CX0 (k + 1) x [a, b] (sp2 p) := by
  obtain ⟨f, oc, od, kV, doc, pm, an, ct, osl, lk, hcd, kp, g, bb⟩ := D
  refine ⟨f, _, fn_of lk hcd Sc (fun vs H Q E h => by obtain ⟨_, _, rfl, _⟩ := h; rfl) fun A outer s H vs Q E hr h => ?_, g, kp, bb, oc, od, osl, lk⟩
  obtain ⟨v1, v2, rfl, h⟩ := h
  obtain ⟨t, h, q⟩ := hbody f A outer s H v1 v2 Q E hr h
  exact ⟨t, h.nox, q⟩
end
/-! ### the bounds that fit -/
def FB (xs : List Int) (b : Int) : Prop := Rng b xs ∧ ¬ FitR b xs (xs.length - 2) none
noncomputable def fbB (xs : List Int) (b : Int) : Bool := @decide (FB xs b) (Classical.propDecidable _)
theorem fbB_t {xs : List Int} {b : Int} (h : FB xs b) : fbB xs b = true := by unfold fbB; simp [h]
theorem fbB_f {xs : List Int} {b : Int} (h : ¬ FB xs b) : fbB xs b = false := by unfold fbB; simp [h]
theorem fbB_iff {xs : List Int} {b : Int} : fbB xs b = true ↔ FB xs b := by unfold fbB; simp
/-- of the bounds from lo + 1 on the first n -/
noncomputable def bfL (xs : List Int) (lo : Int) (n : Nat) : List Int := ((List.range n).map fun (i : Nat) => lo + 1 + (i : Int)).filter (fbB xs)
theorem bfL_len (xs : List Int) (lo : Int) (n : Nat) : (bfL xs lo n).length ≤ n := by
  unfold bfL
  refine Nat.le_trans (List.length_filter_le _ _) ?_
  rw [List.length_map, List.length_range]
  exact Nat.le_refl _
theorem bfL_succ (xs : List Int) (lo : Int) (n : Nat) : bfL xs lo (n + 1) = bfL xs lo n ++ (if fbB xs (lo + 1 + (n : Int)) = true then [lo + 1 + (n : Int)] else []) := by
  unfold bfL
  rw [List.range_succ, List.map_append, List.filter_append]
  congr 1
  simp only [List.map_cons, List.map_nil, List.filter_cons, List.filter_nil]
theorem bfL_none {xs : List Int} {lo : Int} : ∀ n : Nat, (∀ i : Nat, i < n → ¬ FB xs (lo + 1 + (i : Int))) → bfL xs lo n = []
  | 0, _ => rfl
  | n + 1, h => by
    rw [bfL_succ, bfL_none n (fun i hi => h i (by omega)), fbB_f (h n (by omega))]
    rfl
theorem bfL_add (xs : List Int) (lo : Int) (a b : Nat) : bfL xs lo (a + b) = bfL xs lo a ++ bfL xs (lo + (a : Int)) b := by
  induction b with
  | zero => simp [bfL]
  | succ b ih =>
    rw [← Nat.add_assoc, bfL_succ, ih, bfL_succ, List.append_assoc]
    rw [show lo + 1 + ((a + b : Nat) : Int) = lo + (a : Int) + 1 + (b : Int) by omega]
/-- below the greatest number none fits -/
theorem bfL_from {xs : List Int} {M : Int} (hM : M ∈ xs) (m0 : 0 ≤ M) (n : Nat) : bfL xs 0 n = bfL xs M ((n : Int) - M).toNat := by
  have low : ∀ i : Nat, i < M.toNat → ¬ FB xs (0 + 1 + (i : Int)) := fun i hi h => by
    have := (h.1 M hM).2
    omega
  by_cases c : (n : Int) ≤ M
  · rw [show ((n : Int) - M).toNat = 0 by omega, bfL_none n (fun i hi => low i (by omega))]
    rfl
  · have e : n = M.toNat + ((n : Int) - M).toNat := by omega
    rw [show bfL xs 0 n = bfL xs 0 (M.toNat + ((n : Int) - M).toNat) by rw [← e], bfL_add, bfL_none _ low, List.nil_append]
    congr 1
    omega
def NonNeg (xs : List Int) : Prop := ∀ x ∈ xs, 0 ≤ x
def pFsome (K : PySem.W.Frag) (Pt : Addr) : V → V → Hp → VK → XK → Prop := fun a b H Q _ => ∃ (r : Addr) (xs : List Int) (m : Int), a = .ref r ∧ b = .int m ∧ SqT K H r (xs.map V.int) ∧ 1 ≤ m ∧ m ≤ 1000000000000 ∧ xs.length ≤ 1000 ∧ GxR.TabG H Pt ∧
  ∀ H', Grow Pt Pt H H' → Q (.bl (fbB xs m)) H'
def pBtf (K : PySem.W.Frag) (Pt : Addr) : V → V → Hp → VK → XK → Prop := fun a b H Q _ => ∃ (r : Addr) (xs : List Int) (m : Int), a = .ref r ∧ b = .int m ∧ SqT K H r (xs.map V.int) ∧ 0 ≤ m ∧ m ≤ 2000 ∧ xs.length ≤ 1000 ∧ GxR.TabG H Pt ∧
  ∀ H' q, Grow Pt Pt H H' → H q = none → H' q = some (.tup ((bfL xs 0 m.toNat).map V.int)) → Q (.ref q) H'
def pTrialB (K : PySem.W.Frag) : V → V → Hp → VK → XK → Prop := fun a b H Q _ => ∃ (r : Addr) (xs : List Int) (m : Int), a = .ref r ∧ b = .int m ∧ SqT K H r (xs.map V.int) ∧ 1 ≤ m ∧ m ≤ 200 ∧ Rng m xs ∧ 2 ≤ xs.length ∧ xs.length ≤ 1000 ∧ ∀ H', Same H H' → Q (.bl (fbB xs m)) H'
def pDueB (K : PySem.W.Frag) : V → V → Hp → VK → XK → Prop := fun a b H Q _ => ∃ (r : Addr) (xs : List Int) (m : Int), a = .ref r ∧ b = .int m ∧ SqT K H r (xs.map V.int) ∧ 0 ≤ m ∧ m ≤ 2000 ∧ NonNeg xs ∧ (∀ x ∈ xs, x ≤ 1000000000000) ∧ 2 ≤ xs.length ∧ xs.length ≤ 1000 ∧
  ∀ H' l, Same H H' → H l = none → H' l = some (.lst ((bfL xs 0 m.toNat).map V.int)) → Q (.ref l) H'
def pRightB (K : PySem.W.Frag) (Pt : Addr) : V → V → Hp → VK → XK → Prop := fun a b H Q _ => ∃ (r : Addr) (xs : List Int) (m : Int), a = .ref r ∧ b = .int m ∧ SqT K H r (xs.map V.int) ∧ 0 ≤ m ∧ m ≤ 2000 ∧ NonNeg xs ∧ (∀ x ∈ xs, x ≤ 1000000000000) ∧ 2 ≤ xs.length ∧ xs.length ≤ 1000 ∧ GxR.TabG H Pt ∧ ∀ H', Grow Pt Pt H H' → Q (.bl true) H'
theorem _root_.L2.Same.grow {P : Addr} {H H' : Hp} (s : Same H H') (t : GxR.TabG H P) : Grow P P H H' := ⟨tabG_same t s, tabG_same t s, fun _ _ _ _ e => s _ _ e⟩
theorem tabG_mut {P L : Addr} {H : Hp} {o : HO} (t : GxR.TabG H P) (ne : L ≠ P) : GxR.TabG (upd H L o) P := by
  obtain ⟨ps, e, k⟩ := t
  exact ⟨ps, by rw [upd_ne (Ne.symm ne)]; exact e, k⟩
theorem Seed.ne_tab {H : Hp} {d P : Addr} {n : Nat} (h : Seed H d n) (t : GxR.TabG H P) : P ≠ d := by
  obtain ⟨r, f, k, c, a1, _⟩ := h
  obtain ⟨ps, e, _⟩ := t
  intro z
  rw [z, a1] at e
  cases e
theorem tabG_butS {P d : Addr} {H H' : Hp} {n : Nat} (t : GxR.TabG H P) (D : Seed H d n) (b : But d H H') : GxR.TabG H' P := by
  have ne := D.ne_tab t
  obtain ⟨ps, e, k⟩ := t
  exact ⟨ps, b _ _ ne e, k⟩
theorem Grow.seed {P d : Addr} {H H' : Hp} {n : Nat} (g : Grow P P H H') (t : GxR.TabG H P) (D : Seed H d n) : Seed H' d n := by
  have ne := D.ne_tab t
  obtain ⟨r, f, k, c, a1, a2⟩ := D
  exact ⟨r, f, k, c, g.keep _ _ (Ne.symm ne) (Ne.symm ne) a1, a2⟩
theorem sqT_kept {K : PySem.W.Frag} {H H' : Hp} {r : Addr} {xs : List V} (h : SqT K H r xs) (k : ∀ o, (∀ ps, o ≠ .tbl ps) → H r = some o → H' r = some o) : SqT K H' r xs := by
  rcases h with (h | ⟨o, h⟩) | h
  · exact .inl (.inl (k _ (fun ps z => by cases z) h))
  · exact .inl (.inr ⟨o, k _ (fun ps z => by cases z) h⟩)
  · exact .inr h
theorem Grow.sqT {K : PySem.W.Frag} {P r : Addr} {H H' : Hp} {xs : List V} (g : Grow P P H H') (t : GxR.TabG H P) (h : SqT K H r xs) : SqT K H' r xs := sqT_kept h fun o n e => g.get t t e n
/-- t + u: a tuple of these items -/
def rCatX (K : PySem.W.Frag) : R2 := fun x y H Q => ∃ (a b : Addr) (xs ys : List V), x = .ref a ∧ y = .ref b ∧ SqT K H a xs ∧ SqT K H b ys ∧ xs.length + ys.length ≤ sizeLine ∧ ∀ H' p, Same H H' → SqT K H' p (xs ++ ys) → Q (.ref p) H'
theorem op_catX {X : Cx} : OpR X (binaryOp .Add) (rCatX X.K) := by
  intro pins s σ H x y v u Q I rx ry h
  obtain ⟨a, b, xs, ys, rfl, rfl, ha, hb, hz, q⟩ := h
  refine op_catA pins s σ H _ _ v u Q I rx ry ⟨a, b, xs, ys, rfl, rfl, ha, hb, hz, fun e => ?_, fun _ e => ?_, fun _ _ p np => ?_⟩
  · exact q H b (fun _ _ z => z) (by rw [e]; exact hb)
  · exact q H a (fun _ _ z => z) (by rw [e, List.append_nil]; exact ha)
  · exact q _ p (same_new np) (SqT.of upd_same)
theorem Grow.tup {P r : Addr} {H H' : Hp} {zs : List V} (g : Grow P P H H') (t : GxR.TabG H P) (e : H r = some (.tup zs)) : H' r = some (.tup zs) := g.get t t e (fun ps z => by cases z)
end Tw

/-! Objects of an own class: their defs, made and called; the kept row. -/
namespace Tw
open PySem PySem.Spec PyProof.Rows L2
def TopM (K : PySem.W.Frag) (C : Addr) (m q : Str) (st : Stmt) (ps : List Str) : Prop := ∃ (f : Addr) (fd : FuncData), Fun K m q st f fd ∧ Meth K C m f ∧ Binds K fd ps []
def HasM (P : Program) (w : World) (K : PySem.W.Frag) (mg : Str → Option Value) (base : Heap) (CX : CXT) (k : Nat) (C : Addr) (m : Str) (ps : List Str) (sp : Sp) : Prop := ∃ (f : Addr) (fd : FuncData), FnOk P w K mg base CX k f fd ps sp ∧ Meth K C m f ∧ Binds K fd ps []
def HasI (P : Program) (w : World) (K : PySem.W.Frag) (mg : Str → Option Value) (base : Heap) (CX : CXT) (k : Nat) (C : Addr) (ps : List Str) (sp : Sp) : Prop := ∃ (f : Addr) (fd : FuncData), FnOk P w K mg base CX k f fd ps sp ∧ Mk K C f ∧ Binds K fd ps []
section
variable {P : Program} {w : World} {K : PySem.W.Frag} {mg : Str → Option Value} {base : Heap} {C : Addr} {m q : Str} {st : Stmt} {N : List Str} {k : Nat}
theorem TopM.ok {ps : List Str} {sp : Sp} (D : TopM K C m q st ps) (Sc : FnScope N ps (defScope st)) (len : ∀ vs H Q E, sp vs H Q E → vs.length = ps.length)
    (hbody : ∀ (f : Addr) (cdv : Value) (A : Around) (outer : List Env) (s : Shared) (H : Hp) (vs : List V) (Q : VK) (E : XK), Room k (A.deeper (envOfC q (defScope st) s.heap.objs.size f cdv)) → sp vs H Q E →
      ∃ t, PSs (cxOf CX0 P w K mg base N q (defScope st) f cdv A outer s H E).nox (defBody st) t ∧ t { nx := fun _ H' => Q .non H', rt := Q } (start N vs) H) : HasM P w K mg base CX0 (k + 1) C m ps sp := by
  obtain ⟨f, fd, F, g, b⟩ := D
  exact ⟨f, fd, F.ok Sc len (fun cdv A outer s H vs Q E hr h => hbody f cdv A outer s H vs Q E hr h), g, b⟩
theorem TopM.okX {ps : List Str} {sp : Sp} (D : TopM K C m q st ps) (Sc : FnScope N ps (defScope st)) (len : ∀ vs H Q E, sp vs H Q E → vs.length = ps.length)
    (hbody : ∀ (f : Addr) (cdv : Value) (A : Around) (outer : List Env) (s : Shared) (H : Hp) (vs : List V) (Q : VK) (E : XK), Room k (A.deeper (envOfC q (defScope st) s.heap.objs.size f cdv)) → sp vs H Q E →
      ∃ t, PSs (cxOf (L2.CX P w) P w K mg base N q (defScope st) f cdv A outer s H E) (defBody st) t ∧ t { nx := fun _ H' => Q .non H', rt := Q } (start N vs) H) : HasM P w K mg base (L2.CX P w) (k + 1) C m ps sp := by
  obtain ⟨f, fd, F, g, b⟩ := D
  exact ⟨f, fd, F.okX Sc len (fun cdv A outer s H vs Q E hr h => hbody f cdv A outer s H vs Q E hr h), g, b⟩
end
section
variable {X : Cx} {CX : CXT} {k : Nat} {ps : List Str} {sp : Sp} {E : XK} {x m : Str} {C : Addr} {p apos pos : Pos} {o e : Expr} {es : List Expr} {ta : TE} {t : TA} {pl : Sem Bool}
theorem pe_mth (he : PE X o ta) (c : Cls X.K C) (h : HasM X.prog X.w X.K X.mg X.base CX k C m ps sp) (hr : Room k X.A) (hx : Passes CX X E) (ha : PA X (e :: es) t)
    (hst : starEach (e :: es) X.env = (false, eval e X.env) :: starEach es X.env := by rfl) (hpl : (backTo pos (starEach es X.env)).any (·.1) = false := by rfl)
    (ht : eval (.Call (.Attribute o m apos) (e :: es) [] pos) X.env = (do
      let ov ← eval o X.env
      standAt apos.atName
      let (f, first) ← holding [ov] (getMethod ov m pl)
      callWith pos f first (backTo pos (starEach (e :: es) X.env)) (backToKw pos (keywordEach [] X.env))) := by rfl) : PE X (.Call (.Attribute o m apos) (e :: es) [] pos) (tMeth C m sp [] E ta t) := by
  obtain ⟨f, fd, F, g, b⟩ := h
  exact pe_meth he c g F hr b .nil hx ha hst hpl ht
theorem pe_mth0 (he : PE X o ta) (c : Cls X.K C) (h : HasM X.prog X.w X.K X.mg X.base CX k C m ps sp) (hr : Room k X.A) (hx : Passes CX X E)
    (ht : eval (.Call (.Attribute o m apos) [] [] pos) X.env = (do
      let ov ← eval o X.env
      standAt apos.atName
      let (f, first) ← holding [ov] (getMethod ov m pl)
      callWith pos f first (backTo pos (starEach [] X.env)) (backToKw pos (keywordEach [] X.env))) := by rfl) : PE X (.Call (.Attribute o m apos) [] [] pos) (tMeth C m sp [] E ta tNil) := by
  obtain ⟨f, fd, F, g, b⟩ := h
  exact pe_meth0 he c g F hr b .nil hx ht
/-- within a try: what is raised is wished for at the slots -/
def tMthS (C : Addr) (m : Str) (sp : Sp) (E : L2.St → XK) (ta : TE) (t : TA) : TE := fun σ H Q => ta σ H fun x H1 => ∃ a dx fs, x = .ref a ∧ H1 a = some (.ins C dx fs) ∧ fs.lookup m = none ∧ t σ H1 fun vs H2 => sp (x :: vs) H2 Q (E σ)
theorem pe_mthS {E : L2.St → XK} (he : PE X o ta) (c : Cls X.K C) (h : HasM X.prog X.w X.K X.mg X.base CX k C m ps sp) (hr : Room k X.A) (hx : ∀ σ, PassesAt CX X σ (E σ)) (ha : PA X (e :: es) t)
    (hst : starEach (e :: es) X.env = (false, eval e X.env) :: starEach es X.env := by rfl) (hpl : (backTo pos (starEach es X.env)).any (·.1) = false := by rfl)
    (ht : eval (.Call (.Attribute o m apos) (e :: es) [] pos) X.env = (do
      let ov ← eval o X.env
      standAt apos.atName
      let (f, first) ← holding [ov] (getMethod ov m pl)
      callWith pos f first (backTo pos (starEach (e :: es) X.env)) (backToKw pos (keywordEach [] X.env))) := by rfl) : PE X (.Call (.Attribute o m apos) (e :: es) [] pos) (tMthS C m sp E ta t) := by
  obtain ⟨f, fd, F, hm, b⟩ := h
  refine ⟨fun pins s σ H Q I h => ?_⟩
  refine PySem.W.methodCall_KW (pl := pl) (thn (he.run pins s σ H _ I h) fun u s1 ⟨x, H1, I1, rx, a, dx, fs, ex, ea, l, q⟩ => ?_) ht
  subst ex
  obtain rfl : u = Value.ref a := rx
  refine getmeth_ok I1 ea c hm l ?_
  refine PySem.W.callWith_K (first := [.ref a]) (h₀ := X.base) I.ok.mod.kin hm.kp (thn (ha.run pos pins s1 σ H1 _ I1 q) fun us s2 ⟨vs, H2, I2, r, q2⟩ => ⟨I2.kIn, ?_⟩) hst hpl
  exact run_fnS (us := .ref a :: us) (vs := .ref a :: vs) F hr b (hx σ) I2 (.cons rfl r) q2
theorem pe_mth0S {E : L2.St → XK} (he : PE X o ta) (c : Cls X.K C) (h : HasM X.prog X.w X.K X.mg X.base CX k C m ps sp) (hr : Room k X.A) (hx : ∀ σ, PassesAt CX X σ (E σ))
    (ht : eval (.Call (.Attribute o m apos) [] [] pos) X.env = (do
      let ov ← eval o X.env
      standAt apos.atName
      let (f, first) ← holding [ov] (getMethod ov m pl)
      callWith pos f first (backTo pos (starEach [] X.env)) (backToKw pos (keywordEach [] X.env))) := by rfl) : PE X (.Call (.Attribute o m apos) [] [] pos) (tMthS C m sp E ta tNil) := by
  obtain ⟨f, fd, F, hm, b⟩ := h
  refine ⟨fun pins s σ H Q I h => ?_⟩
  refine PySem.W.methodCall_KW (pl := pl) (thn (he.run pins s σ H _ I h) fun u s1 ⟨x, H1, I1, rx, a, dx, fs, ex, ea, l, q⟩ => ?_) ht
  subst ex
  obtain rfl : u = Value.ref a := rx
  refine getmeth_ok I1 ea c hm l ?_
  exact PySem.W.callWith_K0 (first := [.ref a]) I1.kIn hm.kp (run_fnS (us := [.ref a]) (vs := [.ref a]) F hr b (hx σ) I1 (.cons rfl .nil) q)
theorem pe_mkO (h : HasI X.prog X.w X.K X.mg X.base CX k C ps sp) (hr : Room (k + 1) X.A) (hm : X.mg x = some (.ref C)) (hx : Passes CX X E) (ha : PA X (e :: es) t) (hg : Gl X x := by rfl)
    (hdb : (x == ("__debug__" : Str)) = false := by decide) (he : starEach (e :: es) X.env = (false, eval e X.env) :: starEach es X.env := by rfl) (hpl : (backTo pos (starEach es X.env)).any (·.1) = false := by rfl) :
    PE X (.Call (.Name x p) (e :: es) [] pos) (tMake C sp [] E t) := by
  obtain ⟨f, fd, F, M, b⟩ := h
  exact pe_make M F hr hg hm b .nil hx ha hdb he hpl
end
/-! ### the kept row -/
theorem bn_ne : ¬ (("bound" : Str) = "numbers") := by decide +kernel
theorem nb_ne : ¬ (("numbers" : Str) = "bound") := by decide +kernel
def kf (m : Int) (l : Addr) : List (Str × V) := putF "numbers" (.ref l) (putF "bound" (.int m) [])
theorem kf_bound (m : Int) (l : Addr) : (kf m l).lookup ("bound" : Str) = some (.int m) := by
  unfold kf
  rw [lookup_putF, if_neg bn_ne, lookup_putF, if_pos rfl]
theorem kf_numbers (m : Int) (l : Addr) : (kf m l).lookup ("numbers" : Str) = some (.ref l) := by
  unfold kf
  rw [lookup_putF, if_pos rfl]
theorem kf_no (m : Int) (l : Addr) {x : Str} (h1 : ¬ x = "numbers") (h2 : ¬ x = "bound") : (kf m l).lookup x = none := by
  unfold kf
  rw [lookup_putF, if_neg h1, lookup_putF, if_neg h2]
  all_goals rfl
structure KTx (K : PySem.W.Frag) (mg : Str → Option Value) (C : Addr) : Prop where
  cl : Cls K C
  nb : NoAttr K C "bound"
  nn : NoAttr K C "numbers"
  g : mg "KeptRow" = some (.ref C)
/-- at p stands a kept row of bound m, whose numbers stand at l -/
def KeptAt (C : Addr) (H : Hp) (p l : Addr) (m : Int) (xs : List Int) : Prop := (∃ dx, H p = some (.ins C dx (kf m l))) ∧ H l = some (.lst (xs.map V.int))
theorem KeptAt.same {C p l : Addr} {H H' : Hp} {m : Int} {xs : List Int} (h : KeptAt C H p l m xs) (s : Same H H') : KeptAt C H' p l m xs := by
  obtain ⟨⟨dx, e⟩, e2⟩ := h
  exact ⟨⟨dx, s _ _ e⟩, s _ _ e2⟩
/-- but for l all that stood stands -/
def Frm (l : Addr) (H H' : Hp) : Prop := ∀ b o, b ≠ l → H b = some o → H' b = some o
theorem _root_.L2.Same.frm {l : Addr} {H H' : Hp} (s : Same H H') : Frm l H H' := fun b o _ e => s b o e
theorem Frm.trans {l : Addr} {H H1 H2 : Hp} (a : Frm l H H1) (b : Frm l H1 H2) : Frm l H H2 := fun c o n e => b c o n (a c o n e)
theorem Frm.sqT {K : PySem.W.Frag} {l r : Addr} {H H' : Hp} {xs : List V} {ys : List V} (f : Frm l H H') (hl : H l = some (.lst ys)) (h : SqT K H r xs) : SqT K H' r xs := by
  rcases h with (h | ⟨o, h⟩) | h
  · exact .inl (.inl (f _ _ (fun z => by rw [z, hl] at h; cases h) h))
  · exact .inl (.inr ⟨o, f _ _ (fun z => by rw [z, hl] at h; cases h) h⟩)
  · exact .inr h
/-- some rule fits -/
def Fits (m : Int) (xs : List Int) : Prop := ¬ FitR m xs (xs.length - 2) none
def pKinit (C : Addr) : V → V → Hp → VK → XK → Prop := fun a b H Q _ => ∃ (H0 : Hp) (p dx : Addr) (m : Int), a = .ref p ∧ b = .int m ∧ Same H0 H ∧ H0 p = none ∧ H p = some (.ins C dx []) ∧ ∀ H' l, Same H0 H' → H0 l = none → p ≠ l → KeptAt C H' p l m [] → Q .non H'
def pRowNow (C : Addr) : V → Hp → VK → XK → Prop := fun a H Q _ => ∃ (p l : Addr) (m : Int) (xs : List Int), a = .ref p ∧ KeptAt C H p l m xs ∧ ∀ H' q, Same H H' → H q = none → H' q = some (.tup (xs.map V.int)) → Q (.ref q) H'
/-- what is told of so many numbers -/
def FitN (m : Int) (xs : List Int) (H : Hp) (v : V) : Prop := (xs.length < 2 ∧ v = .non) ∨ (2 ≤ xs.length ∧ FitV m xs (xs.length - 2) H v)
theorem FitN.same {m : Int} {xs : List Int} {H H' : Hp} {v : V} (h : FitN m xs H v) (s : Same H H') : FitN m xs H' v := by
  rcases h with h | ⟨h, f⟩
  · exact .inl h
  · exact .inr ⟨h, f.same s⟩
def pFitNow (C : Addr) : V → Hp → VK → XK → Prop := fun a H Q _ => ∃ (p l : Addr) (m : Int) (xs : List Int), a = .ref p ∧ KeptAt C H p l m xs ∧ 1 ≤ m ∧ m ≤ 1000000000000 ∧ xs.length ≤ 1000 ∧ Rng m xs ∧ ∀ H' v, Same H H' → FitN m xs H' v → (∀ q, v = .ref q → H q = none) → Q v H'
def pSee (C CN CF : Addr) : V → V → Hp → VK → XK → Prop := fun a b H Q E => ∃ (p l : Addr) (m n : Int) (xs : List Int), a = .ref p ∧ b = .int n ∧ KeptAt C H p l m xs ∧ 1 ≤ m ∧ m ≤ 1000000000000 ∧ xs.length ≤ 900 ∧ Rng m xs ∧ (¬ (0 ≤ n ∧ n < m) → Bad CN n H E) ∧
  ((0 ≤ n ∧ n < m) → ¬ Fits m (xs ++ [n]) → ∀ H', Same H H' → E (.ref CF) none H') ∧ ((0 ≤ n ∧ n < m) → Fits m (xs ++ [n]) → ∀ H', Frm l H H' → KeptAt C H' p l m (xs ++ [n]) → Q .non H')
def pTake (C CF : Addr) : V → Hp → VK → XK → Prop := fun a H Q E => ∃ (p l : Addr) (m : Int) (xs : List Int), a = .ref p ∧ KeptAt C H p l m xs ∧ xs.length ≤ 1000 ∧ (xs = [] → E (.ref CF) none H) ∧ (xs ≠ [] → ∀ H', Frm l H H' → KeptAt C H' p l m xs.dropLast → Q .non H')
/-- the number behind so many numbers -/
def GssN (m : Int) (xs : List Int) (v : V) : Prop := (xs.length < 2 ∧ v = .non) ∨ (2 ≤ xs.length ∧ ∃ l s, FitR m xs (xs.length - 2) (some (l, s)) ∧ v = behV m xs l s)
def pGuess (C : Addr) : V → Hp → VK → XK → Prop := fun a H Q _ => ∃ (p l : Addr) (m : Int) (xs : List Int), a = .ref p ∧ KeptAt C H p l m xs ∧ 1 ≤ m ∧ m ≤ 1000000000000 ∧ xs.length ≤ 1000 ∧ Rng m xs ∧ Fits m xs ∧ ∀ H' v, Same H H' → GssN m xs v → Q v H'
end Tw

/-! The law's own of a kept row, whose numbers stand in a list. -/
namespace Tw
open PySem PySem.Spec PyProof.Rows L2
def pFitLL (K : PySem.W.Frag) : V → V → Hp → VK → XK → Prop := fun a b H Q _ => ∃ (r : Addr) (xs : List Int) (m : Int), a = .ref r ∧ b = .int m ∧ SqL K H r (xs.map V.int) ∧ 1 ≤ m ∧ m ≤ 1000000000000 ∧ Rng m xs ∧ xs.length ≤ 1000 ∧
  ∀ H' v, Same H H' → FitV m xs (xs.length - 2) H' v → (∀ q, v = .ref q → H q = none) → Q v H'
def pNextLL (K : PySem.W.Frag) : V → V → V → Hp → VK → XK → Prop := fun a b c H Q _ => ∃ (r : Addr) (xs : List Int) (m t : Int), a = .ref r ∧ b = .int m ∧ c = .int t ∧ SqL K H r (xs.map V.int) ∧ 1 ≤ m ∧ m ≤ 1000000000000 ∧ Rng m xs ∧ 2 ≤ xs.length ∧ 0 ≤ t ∧ t ≤ 2000000000000 ∧ Q (.int (nxB m xs t)) H
def pGssLL (K : PySem.W.Frag) : V → V → Hp → VK → XK → Prop := fun a b H Q _ => ∃ (r : Addr) (xs : List Int) (m : Int), a = .ref r ∧ b = .int m ∧ SqL K H r (xs.map V.int) ∧ 1 ≤ m ∧ m ≤ 1000000000000 ∧ Rng m xs ∧ xs.length ≤ 1000 ∧ Fits m xs ∧ ∀ H' v, Same H H' → GssN m xs v → Q v H'
/-- one of the three questions -/
def pTold (K : PySem.W.Frag) (C : Addr) : V → V → V → V → Hp → VK → XK → Prop := fun a b c d H Q _ => ∃ (p l r : Addr) (xs : List Int) (m wy : Int), a = .ref p ∧ b = .ref r ∧ c = .int m ∧ d = .int wy ∧ KeptAt C H p l m xs ∧ H r = some (.lst (xs.map V.int)) ∧ 1 ≤ m ∧ m ≤ 1000000000000 ∧ Rng m xs ∧ xs.length ≤ 1000 ∧ Fits m xs ∧ ∀ H', Same H H' → Q (.bl true) H'
theorem KeptAt.but {C p l d : Addr} {H H' : Hp} {m : Int} {xs : List Int} (h : KeptAt C H p l m xs) (b : But d H H') (n1 : p ≠ d) (n2 : l ≠ d) : KeptAt C H' p l m xs := by
  obtain ⟨⟨dx, e⟩, e2⟩ := h
  exact ⟨⟨dx, b _ _ n1 e⟩, b _ _ n2 e2⟩
theorem er_map : ∀ (ws : List Int) (j : Nat), (ws.map V.int).eraseIdx j = (ws.eraseIdx j).map V.int
  | [], _ => by cases ‹Nat› <;> rfl
  | _ :: _, 0 => rfl
  | a :: ws, j + 1 => by
    show V.int a :: (ws.map V.int).eraseIdx j = V.int a :: (ws.eraseIdx j).map V.int
    rw [er_map ws j]
/-- all three -/
def pLook (K : PySem.W.Frag) (C : Addr) : V → V → V → V → Hp → VK → XK → Prop := fun e a b c H Q _ => ∃ (s p l r : Addr) (n : Nat) (xs : List Int) (m : Int), e = .ref s ∧ a = .ref p ∧ b = .ref r ∧ c = .int m ∧ Seed H s n ∧ n + 3 ≤ 100000000 ∧ s ≠ l ∧ s ≠ r ∧ KeptAt C H p l m xs ∧ H r = some (.lst (xs.map V.int)) ∧ 1 ≤ m ∧ m ≤ 1000000000000 ∧ Rng m xs ∧ xs.length ≤ 1000 ∧ Fits m xs ∧ ∀ H', But s H H' → Seed H' s (n + 3) → Q (.bl true) H'
/-- a number, or none -/
def numV : Option Int → V
  | none => .non
  | some n => .int n
/-- one deed: what is told, and the refusal that is kept -/
def pDone (C CN CF : Addr) : V → V → Hp → VK → XK → Prop := fun a b H Q _ => ∃ (p l : Addr) (m : Int) (xs : List Int) (num : Option Int), a = .ref p ∧ b = numV num ∧ KeptAt C H p l m xs ∧ 1 ≤ m ∧ m ≤ 1000000000000 ∧ xs.length ≤ 900 ∧ Rng m xs ∧
  (num = none → xs = [] → ∀ H' t x, Same H H' → ExcAt H' x CF → H' t = some (.tup [.non, .ref x]) → Q (.ref t) H') ∧
  (num = none → xs ≠ [] → ∀ H' t, Frm l H H' → KeptAt C H' p l m xs.dropLast → H' t = some (.tup [.non, .non]) → Q (.ref t) H') ∧
  (∀ n, num = some n → ¬ (0 ≤ n ∧ n < m) → ∀ H' t x d, Same H H' → H' d = some (.xd [("number", .int n)]) → H' x = some (exv x (.ref CN) (some d)) → H' t = some (.tup [.non, .ref x]) → Q (.ref t) H') ∧
  (∀ n, num = some n → (0 ≤ n ∧ n < m) → ¬ Fits m (xs ++ [n]) → ∀ H' t x, Same H H' → ExcAt H' x CF → H' t = some (.tup [.non, .ref x]) → Q (.ref t) H') ∧
  (∀ n, num = some n → (0 ≤ n ∧ n < m) → Fits m (xs ++ [n]) → ∀ H' t, Frm l H H' → KeptAt C H' p l m (xs ++ [n]) → H' t = some (.tup [.non, .non]) → Q (.ref t) H')
/-- how one deed is refused, or none -/
def pDue32 : V → V → V → Hp → VK → XK → Prop := fun a b c H Q _ => ∃ (r : Addr) (xs : List Int) (m : Int) (num : Option Int), a = .ref r ∧ b = .int m ∧ c = numV num ∧ H r = some (.lst (xs.map V.int)) ∧ 1 ≤ m ∧ m ≤ 1000000000000 ∧ Rng m xs ∧ xs.length ≤ 900 ∧
  (num = none → xs = [] → ∀ H', Same H H' → Q (.str "fit") H') ∧
  (num = none → xs ≠ [] → ∀ H', Same H H' → Q .non H') ∧
  (∀ n, num = some n → ¬ (0 ≤ n ∧ n < m) → ∀ H', Same H H' → Q (.str "number") H') ∧
  (∀ n, num = some n → (0 ≤ n ∧ n < m) → ¬ Fits m (xs ++ [n]) → ∀ H', Same H H' → Q (.str "fit") H') ∧
  (∀ n, num = some n → (0 ≤ n ∧ n < m) → Fits m (xs ++ [n]) → ∀ H', Same H H' → Q .non H')
theorem fits_short {m : Int} {xs : List Int} (m0 : 0 < m) (h : xs.length ≤ 2) : Fits m xs := fun z => by
  rw [show xs.length - 2 = 0 by omega] at z
  cases (fitR_zero m0 xs).uniq z
/-- but for two all that stood stands -/
def Frm2 (l r : Addr) (H H' : Hp) : Prop := ∀ b o, b ≠ l → b ≠ r → H b = some o → H' b = some o
/-- one deed, on the kept row and on the law's own -/
def pIsDone (C : Addr) : V → V → V → V → Hp → VK → XK → Prop := fun a b c d H Q _ => ∃ (p l r : Addr) (m : Int) (xs : List Int) (num : Option Int), a = .ref p ∧ b = .ref r ∧ c = .int m ∧ d = numV num ∧ l ≠ r ∧ KeptAt C H p l m xs ∧ H r = some (.lst (xs.map V.int)) ∧ 1 ≤ m ∧ m ≤ 1000000000000 ∧ Rng m xs ∧ xs.length ≤ 900 ∧ Fits m xs ∧
  ∀ H' xs', Frm2 l r H H' → KeptAt C H' p l m xs' → H' r = some (.lst (xs'.map V.int)) → Rng m xs' → Fits m xs' → xs'.length ≤ xs.length + 1 → Q (.bl true) H'
theorem fits_drop {m : Int} {xs : List Int} (m0 : 0 < m) (h : Fits m xs) : Fits m xs.dropLast := by
  by_cases c : xs.length ≤ 2
  · exact fits_short m0 (by rw [List.length_dropLast]; omega)
  · intro z
    rw [List.length_dropLast, List.dropLast_eq_take, fitR_take (by omega)] at z
    exact h (fitR_none_mono z (by omega))
theorem rng_drop {m : Int} {xs : List Int} (h : Rng m xs) : Rng m xs.dropLast := fun y hy => h y (List.dropLast_subset xs hy)
/-- a drawn deed -/
def pDeed (c' : Nat) : V → V → V → Hp → VK → XK → Prop := fun a b c H Q _ => ∃ (d r : Addr) (n : Nat) (m : Int) (xs : List Int), a = .ref d ∧ b = .ref r ∧ c = .int m ∧ Seed H d n ∧ n + c' ≤ 100000000 ∧ d ≠ r ∧ H r = some (.lst (xs.map V.int)) ∧ 1 ≤ m ∧ m ≤ 1000000000000 ∧ Rng m xs ∧ xs.length ≤ 900 ∧ Fits m xs ∧ ∀ H' num, But d H H' → Seed H' d (n + c') → Q (numV num) H'
theorem FitN.two {m : Int} {xs : List Int} {H : Hp} {u v : V} (h1 : FitN m xs H u) (h2 : FitN m xs H v) : (u = .non ∧ v = .non) ∨ ∃ a b l s, u = .ref a ∧ v = .ref b ∧ H a = some (.tup [.int l, .int s]) ∧ H b = some (.tup [.int l, .int s]) := by
  rcases h1 with ⟨n, rfl⟩ | ⟨n, f1⟩
  · rcases h2 with ⟨_, rfl⟩ | ⟨n2, _⟩
    · exact .inl ⟨rfl, rfl⟩
    · omega
  · rcases h2 with ⟨n2, _⟩ | ⟨_, f2⟩
    · omega
    · rcases f1 with ⟨rfl, o1⟩ | ⟨a, l, s, rfl, ha, o1⟩
      · rcases f2 with ⟨rfl, _⟩ | ⟨b, l2, s2, rfl, _, o2⟩
        · exact .inl ⟨rfl, rfl⟩
        · cases o1.uniq o2
      · rcases f2 with ⟨_, o2⟩ | ⟨b, l2, s2, rfl, hb, o2⟩
        · cases o1.uniq o2
        · cases o1.uniq o2
          exact .inr ⟨a, b, l, s, rfl, rfl, ha, hb⟩
theorem GssN.uniq {m : Int} {xs : List Int} {u v : V} (h1 : GssN m xs u) (h2 : GssN m xs v) : u = v := by
  rcases h1 with ⟨n, rfl⟩ | ⟨n, l, s, o1, rfl⟩
  · rcases h2 with ⟨_, rfl⟩ | ⟨n2, _⟩
    · rfl
    · omega
  · rcases h2 with ⟨n2, _⟩ | ⟨_, l2, s2, o2, rfl⟩
    · omega
    · cases o1.uniq o2
      rfl
theorem GssN.int {m : Int} {xs : List Int} {v : V} (h : GssN m xs v) (n : v ≠ .non) : ∃ z : Int, v = .int z := by
  rcases h with ⟨_, rfl⟩ | ⟨_, l, s, _, rfl⟩
  · exact absurd rfl n
  · unfold behV at n ⊢
    by_cases e : nxB m xs l = nxB m xs (l + s)
    · rw [if_pos e]; exact ⟨_, rfl⟩
    · rw [if_neg e] at n; exact absurd rfl n
/-- where the law stands between two deeds -/
structure St32 (C : Addr) (Hb H : Hp) (d p l r : Addr) (b : Int) (n : Nat) (xs : List Int) : Prop where
  sm : Same Hb H
  sd : Seed H d n
  ka : KeptAt C H p l b xs
  ro : H r = some (.lst (xs.map V.int))
  rg : Rng b xs
  ft : Fits b xs
theorem St32.same {C d p l r : Addr} {Hb H H' : Hp} {b : Int} {n : Nat} {xs : List Int} (h : St32 C Hb H d p l r b n xs) (s : Same H H') : St32 C Hb H' d p l r b n xs := ⟨h.sm.trans s, h.sd.same s, h.ka.same s, s _ _ h.ro, h.rg, h.ft⟩
theorem St32.but {C d p l r : Addr} {Hb H H' : Hp} {b : Int} {n n' : Nat} {xs : List Int} (h : St32 C Hb H d p l r b n xs) (nd : Hb d = none) (pd : p ≠ d) (ld : l ≠ d) (rd : r ≠ d) (B : But d H H') (D : Seed H' d n') : St32 C Hb H' d p l r b n' xs :=
  ⟨same_butNew h.sm nd B, D, h.ka.but B pd ld, B _ _ rd h.ro, h.rg, h.ft⟩
theorem St32.deed {C d p l r : Addr} {Hb H H' : Hp} {b : Int} {n : Nat} {xs ys : List Int} (h : St32 C Hb H d p l r b n xs) (nl : Hb l = none) (nr : Hb r = none) (ld : l ≠ d) (rd : r ≠ d) (f : Frm2 l r H H') (K : KeptAt C H' p l b ys) (R : H' r = some (.lst (ys.map V.int))) (rg : Rng b ys) (ft : Fits b ys) : St32 C Hb H' d p l r b n ys := by
  refine ⟨fun c o e => f _ _ (ne_of_none e nl) (ne_of_none e nr) (h.sm _ _ e), ?_, K, R, rg, ft⟩
  obtain ⟨a, f', k, c, e, rest⟩ := h.sd
  exact ⟨a, f', k, c, f _ _ (Ne.symm ld) (Ne.symm rd) e, rest⟩
end Tw

/-! Two kept rows beside the law's own. -/
namespace Tw
open PySem PySem.Spec PyProof.Rows L2
theorem op_neDK {X : Cx} {K : PySem.W.Frag} (hK : X.K = K) (hu : X.A.units + 64 < cLine) : OpR X (compareOp .NotEq) (rNeD K) := by
  subst hK
  exact op_neD hu
theorem op_eqDK {X : Cx} {K : PySem.W.Frag} (hK : X.K = K) (hu : X.A.units + 64 < cLine) : OpR X (compareOp .Eq) (rEqD K) := by
  subst hK
  exact op_eqD hu
/-- unlike addresses, at each of which something stands -/
def Live (H : Hp) (L : List Addr) : Prop := L.Nodup ∧ ∀ x ∈ L, H x ≠ none
theorem Live.nil (H : Hp) : Live H [] := ⟨List.nodup_nil, fun x h => by cases h⟩
theorem Live.new {H : Hp} {L : List Addr} {a : Addr} {o : HO} (h : Live H L) (e : H a = none) : Live (upd H a o) (a :: L) := by
  refine ⟨List.nodup_cons.mpr ⟨fun m => h.2 a m e, h.1⟩, fun x hx => ?_⟩
  by_cases n : x = a
  · rw [n, upd_same]; exact fun z => by cases z
  · rw [upd_ne n]
    rcases List.mem_cons.mp hx with z | z
    · exact absurd z n
    · exact h.2 x z
theorem Live.keep {H H' : Hp} {L : List Addr} (h : Live H L) (k : ∀ x ∈ L, ∀ o, H x = some o → H' x ≠ none) : Live H' L :=
  ⟨h.1, fun x hx => by
    cases e : H x with
    | none => exact absurd e (h.2 x hx)
    | some o => exact k x hx o e⟩
theorem Live.same {H H' : Hp} {L : List Addr} (h : Live H L) (s : Same H H') : Live H' L := h.keep fun x _ o e => by rw [s _ _ e]; exact fun z => by cases z
theorem Live.add {H H' : Hp} {L : List Addr} {a : Addr} (h : Live H L) (e : H a = none) (h' : Live H' L) (e' : H' a ≠ none) : Live H' (a :: L) :=
  ⟨List.nodup_cons.mpr ⟨fun m => h.2 a m e, h.1⟩, fun x hx => by
    rcases List.mem_cons.mp hx with z | z
    · rw [z]; exact e'
    · exact h'.2 x z⟩
theorem Live.but {H H' : Hp} {L : List Addr} {d : Addr} (h : Live H L) (b : But d H H') (e : H' d ≠ none) : Live H' L := h.keep fun x _ o k => by
  by_cases n : x = d
  · rw [n]; exact e
  · rw [b _ _ n k]; exact fun z => by cases z
theorem some_ne {α : Type} {x : Option α} {a : α} (h : x = some a) : x ≠ none := fun z => by rw [h] at z; cases z
theorem Seed.live {H : Hp} {d : Addr} {n : Nat} (h : Seed H d n) : H d ≠ none := by
  obtain ⟨_, _, _, _, e, _⟩ := h
  exact some_ne e
theorem nd_ne {α : Type} : ∀ {L : List α}, L.Nodup → ∀ {i j : Nat} {x y : α}, L[i]? = some x → L[j]? = some y → i ≠ j → x ≠ y := by
  intro L h i j x y hx hy n
  obtain ⟨li, ei⟩ := List.getElem?_eq_some_iff.mp hx
  obtain ⟨lj, ej⟩ := List.getElem?_eq_some_iff.mp hy
  intro z
  rw [← ei, ← ej] at z
  have hp := List.pairwise_iff_getElem.mp h
  rcases Nat.lt_or_gt_of_ne n with k | k
  · exact hp i j li lj k z
  · exact hp j i lj li k z.symm
theorem KeptAt.frm {C p l L : Addr} {H H' : Hp} {m : Int} {xs : List Int} {ys : List V} (h : KeptAt C H p l m xs) (hL : H L = some (.lst ys)) (nl : l ≠ L) (f : Frm L H H') : KeptAt C H' p l m xs := by
  obtain ⟨⟨dx, hp⟩, hl⟩ := h
  exact ⟨⟨dx, f _ _ (fun z => by rw [z, hL] at hp; cases hp) hp⟩, f _ _ nl hl⟩
/-- of two -/
def sel {α : Type} (a b : α) : Nat → α
  | 0 => a
  | _ + 1 => b
/-- a rule at an address -/
def RuleAt (H : Hp) (u : Addr) (m : Int) : Prop := ∃ t pl, H u = some (.tup [.int t, .int pl, .int m]) ∧ Rule t pl m
/-- a kept row, the law's own and the rule beside -/
structure KRow (C : Addr) (H : Hp) (p l r u : Addr) (m : Int) (xs : List Int) : Prop where
  ka : KeptAt C H p l m xs
  ro : H r = some (.lst (xs.map V.int))
  ru : ∃ t pl, H u = some (.tup [.int t, .int pl, .int m]) ∧ Rule t pl m
  m1 : 1 ≤ m
  m2 : m ≤ 1000000000000
  rg : Rng m xs
  ft : Fits m xs
theorem KRow.stay {C p l r u : Addr} {H H' : Hp} {m : Int} {xs : List Int} (h : KRow C H p l r u m xs) (f : ∀ x o, H x = some o → (x = l → False) → (x = r → False) → H' x = some o) (fl : ∀ o, H l = some o → H' l = some o) (fr : ∀ o, H r = some o → H' r = some o) : KRow C H' p l r u m xs := by
  obtain ⟨⟨dx, hp⟩, hl⟩ := h.ka
  obtain ⟨t, pl, hu, R⟩ := h.ru
  exact ⟨⟨⟨dx, f _ _ hp (fun z => by rw [z, hl] at hp; cases hp) (fun z => by rw [z, h.ro] at hp; cases hp)⟩, fl _ hl⟩, fr _ h.ro, ⟨t, pl, f _ _ hu (fun z => by rw [z, hl] at hu; cases hu) (fun z => by rw [z, h.ro] at hu; cases hu), R⟩, h.m1, h.m2, h.rg, h.ft⟩
theorem KRow.same {C p l r u : Addr} {H H' : Hp} {m : Int} {xs : List Int} (h : KRow C H p l r u m xs) (s : Same H H') : KRow C H' p l r u m xs := h.stay (fun x o e _ _ => s _ _ e) (fun o e => s _ _ e) (fun o e => s _ _ e)
/-- a list of ours is changed that is not among them -/
theorem KRow.frm {C p l r u L : Addr} {H H' : Hp} {m : Int} {xs : List Int} {ys : List V} (h : KRow C H p l r u m xs) (hL : H L = some (.lst ys)) (nl : l ≠ L) (nr : r ≠ L) (f : Frm L H H') : KRow C H' p l r u m xs := by
  obtain ⟨⟨dx, hp⟩, hl⟩ := h.ka
  obtain ⟨t, pl, hu, R⟩ := h.ru
  exact ⟨⟨⟨dx, f _ _ (fun z => by rw [z, hL] at hp; cases hp) hp⟩, f _ _ nl hl⟩, f _ _ nr h.ro, ⟨t, pl, f _ _ (fun z => by rw [z, hL] at hu; cases hu) hu, R⟩, h.m1, h.m2, h.rg, h.ft⟩
theorem But.frm {d : Addr} {H H' : Hp} (b : But d H H') : Frm d H H' := fun x o n e => b _ _ n e
theorem Frm.upd {L : Addr} {H : Hp} {o : HO} : Frm L H (upd H L o) := fun x u n e => by rw [upd_ne n]; exact e
/-- two kept rows: each by its number -/
structure Two (C : Addr) (Hb H : Hp) (P L R U : Nat → Addr) (M : Nat → Int) (X : Nat → List Int) (d LR LK LW LH : Addr) (n : Nat) : Prop where
  sm : Same Hb H
  lv : Live H [LH, LW, R 1, R 0, L 1, L 0, LK, LR, d]
  fr : ∀ x ∈ [LH, LW, R 1, R 0, L 1, L 0, LK, LR, d], Hb x = none
  sd : Seed H d n
  kr : ∀ i, i < 2 → KRow C H (P i) (L i) (R i) (U i) (M i) (X i)
  hR : H LR = some (.lst [.ref (U 0), .ref (U 1)])
  hK : H LK = some (.lst [.ref (P 0), .ref (P 1)])
  hW : H LW = some (.lst [.ref (R 0), .ref (R 1)])
  hH : ∃ hs, H LH = some (.lst hs)
theorem at_two {f : Nat → V} {i : Nat} (h : i < 2) : atI [f 0, f 1] (i : Int) = some (f i) := by
  match i, h with
  | 0, _ => rfl
  | 1, _ => rfl
section
variable {C : Addr} {Hb H H' : Hp} {P L R U : Nat → Addr} {M : Nat → Int} {X : Nat → List Int} {d LR LK LW LH : Addr} {n : Nat}
theorem ixL {i : Nat} (h : i < 2) : [LH, LW, R 1, R 0, L 1, L 0, LK, LR, d][5 - i]? = some (L i) := by
  match i, h with
  | 0, _ => rfl
  | 1, _ => rfl
theorem ixR {i : Nat} (h : i < 2) : [LH, LW, R 1, R 0, L 1, L 0, LK, LR, d][3 - i]? = some (R i) := by
  match i, h with
  | 0, _ => rfl
  | 1, _ => rfl
variable (S : Two C Hb H P L R U M X d LR LK LW LH n)
include S
theorem Two.ld {i : Nat} (h : i < 2) : L i ≠ d := nd_ne S.lv.1 (ixL h) (j := 8) rfl (by omega)
theorem Two.rd {i : Nat} (h : i < 2) : R i ≠ d := nd_ne S.lv.1 (ixR h) (j := 8) rfl (by omega)
theorem Two.lr {i j : Nat} (h : i < 2) (k : j < 2) : L i ≠ R j := nd_ne S.lv.1 (ixL h) (ixR k) (by omega)
theorem Two.ll {i j : Nat} (h : i < 2) (k : j < 2) (ne : i ≠ j) : L i ≠ L j := nd_ne S.lv.1 (ixL h) (ixL k) (by omega)
theorem Two.rr {i j : Nat} (h : i < 2) (k : j < 2) (ne : i ≠ j) : R i ≠ R j := nd_ne S.lv.1 (ixR h) (ixR k) (by omega)
theorem Two.lH {i : Nat} (h : i < 2) : L i ≠ LH := nd_ne S.lv.1 (ixL h) (j := 0) rfl (by omega)
theorem Two.rH {i : Nat} (h : i < 2) : R i ≠ LH := nd_ne S.lv.1 (ixR h) (j := 0) rfl (by omega)
theorem Two.same (s : Same H H') : Two C Hb H' P L R U M X d LR LK LW LH n :=
  ⟨S.sm.trans s, S.lv.same s, S.fr, S.sd.same s, fun i h => (S.kr i h).same s, s _ _ S.hR, s _ _ S.hK, s _ _ S.hW, let ⟨hs, e⟩ := S.hH; ⟨hs, s _ _ e⟩⟩
/-- the seed is drawn from -/
theorem Two.but {n' : Nat} (b : But d H H') (D : Seed H' d n') : Two C Hb H' P L R U M X d LR LK LW LH n' := by
  obtain ⟨_, _, _, _, ed, _⟩ := S.sd
  refine ⟨same_butNew S.sm (S.fr d (by simp)) b, S.lv.but b D.live, S.fr, D, fun i h => (S.kr i h).frm ed (S.ld h) (S.rd h) b.frm, ?_, ?_, ?_, ?_⟩
  · exact b _ _ (nd_ne S.lv.1 (i := 7) (j := 8) rfl rfl (by decide)) S.hR
  · exact b _ _ (nd_ne S.lv.1 (i := 6) (j := 8) rfl rfl (by decide)) S.hK
  · exact b _ _ (nd_ne S.lv.1 (i := 1) (j := 8) rfl rfl (by decide)) S.hW
  · obtain ⟨hs, e⟩ := S.hH
    exact ⟨hs, b _ _ (nd_ne S.lv.1 (i := 0) (j := 8) rfl rfl (by decide)) e⟩
/-- one row goes on -/
theorem Two.step {i : Nat} {ys : List Int} {e : Addr} {k : Nat} (h : i < 2) (De : Seed H e k) (nb : Hb e = none) (ne : e ∉ [LH, LW, R 1, R 0, L 1, L 0, LK, LR, d]) (f : ∀ b o, b ≠ e → b ≠ L i → b ≠ R i → H b = some o → H' b = some o) (De' : H' e ≠ none) (K : KeptAt C H' (P i) (L i) (M i) ys) (ro : H' (R i) = some (.lst (ys.map V.int))) (rg : Rng (M i) ys) (ft : Fits (M i) ys) : Two C Hb H' P L R U M (fun j => if j = i then ys else X j) d LR LK LW LH n := by
  have nl := S.fr (L i) (List.mem_iff_getElem?.mpr ⟨_, ixL h⟩)
  have nr := S.fr (R i) (List.mem_iff_getElem?.mpr ⟨_, ixR h⟩)
  obtain ⟨_, _, _, _, ee, _⟩ := De
  have nx : ∀ {x : Addr}, x ∈ [LH, LW, R 1, R 0, L 1, L 0, LK, LR, d] → x ≠ e := fun m z => ne (z ▸ m)
  have nL : ∀ {j : Nat}, j < 2 → L j ≠ e := fun k => nx (List.mem_iff_getElem?.mpr ⟨_, ixL k⟩)
  have nR : ∀ {j : Nat}, j < 2 → R j ≠ e := fun k => nx (List.mem_iff_getElem?.mpr ⟨_, ixR k⟩)
  refine ⟨fun c o z => f _ _ (ne_of_none z nb) (ne_of_none z nl) (ne_of_none z nr) (S.sm _ _ z), S.lv.keep fun x hx o z => ?_, S.fr, ?_, fun j hj => ?_, ?_, ?_, ?_, ?_⟩
  · by_cases n1 : x = L i
    · rw [n1, K.2]; exact fun z => by cases z
    · by_cases n2 : x = R i
      · rw [n2, ro]; exact fun z => by cases z
      · rw [f _ _ (nx hx) n1 n2 z]; exact fun z => by cases z
  · obtain ⟨a, f', k, c, z, rest⟩ := S.sd
    exact ⟨a, f', k, c, f _ _ (nx (by simp)) (Ne.symm (S.ld h)) (Ne.symm (S.rd h)) z, rest⟩
  · by_cases z : j = i
    · subst z
      obtain ⟨t, pl, hu, RU⟩ := (S.kr j h).ru
      refine ⟨by rw [if_pos rfl]; exact K, by rw [if_pos rfl]; exact ro, ⟨t, pl, f _ _ (fun z => ?_) (fun z => ?_) (fun z => ?_) hu, RU⟩, (S.kr j h).m1, (S.kr j h).m2, by rw [if_pos rfl]; exact rg, by rw [if_pos rfl]; exact ft⟩
      · rw [z, ee] at hu; cases hu
      · rw [z, (S.kr j h).ka.2] at hu; cases hu
      · rw [z, (S.kr j h).ro] at hu; cases hu
    · rw [if_neg z]
      obtain ⟨⟨dx, hp⟩, hl⟩ := (S.kr j hj).ka
      obtain ⟨t, pl, hu, RU⟩ := (S.kr j hj).ru
      refine ⟨⟨⟨dx, f _ _ (fun z => ?_) (fun z => ?_) (fun z => ?_) hp⟩, f _ _ (nL hj) (S.ll hj h z) (S.lr hj h) hl⟩, f _ _ (nR hj) (Ne.symm (S.lr h hj)) (S.rr hj h z) (S.kr j hj).ro, ⟨t, pl, f _ _ (fun z => ?_) (fun z => ?_) (fun z => ?_) hu, RU⟩, (S.kr j hj).m1, (S.kr j hj).m2, (S.kr j hj).rg, (S.kr j hj).ft⟩
      · rw [z, ee] at hp; cases hp
      · rw [z, (S.kr i h).ka.2] at hp; cases hp
      · rw [z, (S.kr i h).ro] at hp; cases hp
      · rw [z, ee] at hu; cases hu
      · rw [z, (S.kr i h).ka.2] at hu; cases hu
      · rw [z, (S.kr i h).ro] at hu; cases hu
  · exact f _ _ (nx (by simp)) (nd_ne S.lv.1 (i := 7) rfl (ixL h) (by omega)) (nd_ne S.lv.1 (i := 7) rfl (ixR h) (by omega)) S.hR
  · exact f _ _ (nx (by simp)) (nd_ne S.lv.1 (i := 6) rfl (ixL h) (by omega)) (nd_ne S.lv.1 (i := 6) rfl (ixR h) (by omega)) S.hK
  · exact f _ _ (nx (by simp)) (nd_ne S.lv.1 (i := 1) rfl (ixL h) (by omega)) (nd_ne S.lv.1 (i := 1) rfl (ixR h) (by omega)) S.hW
  · obtain ⟨hs, z⟩ := S.hH
    exact ⟨hs, f _ _ (nx (by simp)) (nd_ne S.lv.1 (i := 0) rfl (ixL h) (by omega)) (nd_ne S.lv.1 (i := 0) rfl (ixR h) (by omega)) z⟩
/-- another seed is drawn from -/
theorem Two.butO {e : Addr} {k : Nat} (De : Seed H e k) (nb : Hb e = none) (ne : e ∉ [LH, LW, R 1, R 0, L 1, L 0, LK, LR, d]) (b : But e H H') (De' : H' e ≠ none) : Two C Hb H' P L R U M X d LR LK LW LH n := by
  obtain ⟨_, _, _, _, ee, _⟩ := De
  have nx : ∀ {x : Addr}, x ∈ [LH, LW, R 1, R 0, L 1, L 0, LK, LR, d] → x ≠ e := fun m z => ne (z ▸ m)
  refine ⟨same_butNew S.sm nb b, S.lv.but b De', S.fr, ?_, fun i h => (S.kr i h).frm ee (nx (List.mem_iff_getElem?.mpr ⟨_, ixL h⟩)) (nx (List.mem_iff_getElem?.mpr ⟨_, ixR h⟩)) b.frm, b _ _ (nx (by simp)) S.hR, b _ _ (nx (by simp)) S.hK, b _ _ (nx (by simp)) S.hW, ?_⟩
  · obtain ⟨a, f', k, c, z, rest⟩ := S.sd
    exact ⟨a, f', k, c, b _ _ (nx (by simp)) z, rest⟩
  · obtain ⟨hs, z⟩ := S.hH
    exact ⟨hs, b _ _ (nx (by simp)) z⟩
/-- what is held grows -/
theorem Two.held {hs : List V} : Two C Hb (upd H LH (.lst hs)) P L R U M X d LR LK LW LH n := by
  obtain ⟨h0, e0⟩ := S.hH
  have nH := S.fr LH (by simp)
  refine ⟨fun c o e => by rw [upd_ne (ne_of_none e nH)]; exact S.sm _ _ e, S.lv.keep fun x _ o e => ?_, S.fr, S.sd.mut (nd_ne S.lv.1 (i := 0) (j := 8) rfl rfl (by decide)), fun i h => (S.kr i h).frm e0 (S.lH h) (S.rH h) Frm.upd, ?_, ?_, ?_, ⟨hs, upd_same⟩⟩
  · by_cases n1 : x = LH
    · rw [n1, upd_same]; exact fun z => by cases z
    · rw [upd_ne n1, e]; exact fun z => by cases z
  · rw [upd_ne (nd_ne S.lv.1 (i := 7) (j := 0) rfl rfl (by decide))]; exact S.hR
  · rw [upd_ne (nd_ne S.lv.1 (i := 6) (j := 0) rfl rfl (by decide))]; exact S.hK
  · rw [upd_ne (nd_ne S.lv.1 (i := 1) (j := 0) rfl rfl (by decide))]; exact S.hW
end
/-- a pair of two tuples of the same numbers -/
def PairT (H : Hp) (v : V) : Prop := ∃ (q a b : Addr) (xs : List Int), v = .ref q ∧ H q = some (.tup [.ref a, .ref b]) ∧ H a = some (.tup (xs.map V.int)) ∧ H b = some (.tup (xs.map V.int))
theorem PairT.keep {H H' : Hp} {v : V} (h : PairT H v) (f : ∀ x xs, H x = some (.tup xs) → H' x = some (.tup xs)) : PairT H' v := by
  obtain ⟨q, a, b, xs, e, h1, h2, h3⟩ := h
  exact ⟨q, a, b, xs, e, f _ _ h1, f _ _ h2, f _ _ h3⟩
end Tw

/-! What a kept row tells, all three answers together. -/
namespace Tw
open PySem PySem.Spec PyProof.Rows L2
def sp5q (p : V → V → V → V → V → Hp → VK → XK → Prop) : Sp := fun vs H Q E => ∃ a b c d e, vs = [a, b, c, d, e] ∧ p a b c d e H Q E
section
variable {P : Program} {w : World} {K : PySem.W.Frag} {mg : Str → Option Value} {base : Heap} {x : Str} {st : Stmt} {N : List Str} {k : Nat}
theorem Top.ok5q {a b c d e : Str} {p : V → V → V → V → V → Hp → VK → XK → Prop} (D : Top K mg x st [a, b, c, d, e]) (S : FnScope N [a, b, c, d, e] (defScope st))
    (hbody : ∀ (f : Addr) (cdv : Value) (A : Around) (outer : List Env) (s : Shared) (H : Hp) (v1 v2 v3 v4 v5 : V) (Q : VK) (E : XK), Room k (A.deeper (envOfC x (defScope st) s.heap.objs.size f cdv)) → p v1 v2 v3 v4 v5 H Q E →
      ∃ t, PSs (cxOf CX0 P w K mg base N x (defScope st) f cdv A outer s H E).nox (defBody st) t ∧ t { nx := fun _ H' => Q .non H', rt := Q } (start N [v1, v2, v3, v4, v5]) H) : Has P w K mg base CX0 (k + 1) x [a, b, c, d, e] (sp5q p) :=
  D.ok S (fun vs H Q E h => by obtain ⟨_, _, _, _, _, rfl, _⟩ := h; rfl) (fun f cdv A outer s H vs Q E hr h => by obtain ⟨_, _, _, _, _, rfl, h⟩ := h; exact hbody f cdv A outer s H _ _ _ _ _ Q E hr h)
end
/-- the three answers for these numbers -/
def Tri (m : Int) (xs : List Int) (H : Hp) (vs : List V) : Prop := ∃ (a : Addr) (f g : V), vs = [.ref a, f, g] ∧ H a = some (.tup (xs.map V.int)) ∧ FitN m xs H f ∧ GssN m xs g
theorem Tri.same {m : Int} {xs : List Int} {H H' : Hp} {vs : List V} (h : Tri m xs H vs) (s : Same H H') : Tri m xs H' vs := by
  obtain ⟨a, f, g, e, h1, h2, h3⟩ := h
  exact ⟨a, f, g, e, s _ _ h1, h2.same s, h3⟩
theorem FitN.keep {m : Int} {xs : List Int} {H H' : Hp} {v : V} (h : FitN m xs H v) (k : ∀ x ys, H x = some (.tup ys) → H' x = some (.tup ys)) : FitN m xs H' v := by
  rcases h with h | ⟨n, f⟩
  · exact .inl h
  · refine .inr ⟨n, ?_⟩
    rcases f with ⟨e, f⟩ | ⟨a, l, s, e, ha, f⟩
    · exact .inl ⟨e, f⟩
    · exact .inr ⟨a, l, s, e, k _ _ ha, f⟩
theorem Tri.keep {m : Int} {xs : List Int} {H H' : Hp} {vs : List V} (h : Tri m xs H vs) (k : ∀ x ys, H x = some (.tup ys) → H' x = some (.tup ys)) : Tri m xs H' vs := by
  obtain ⟨a, f, g, e, h1, h2, h3⟩ := h
  exact ⟨a, f, g, e, k _ _ h1, h2.keep k, h3⟩
theorem shp_tl {ds : List PyData} (h : PyData.canLayAll0 ds = true) (k : PyData.depthAll ds ≤ 63) : SeqAt.shaped (.tuple ds) = true ∧ SeqAt.shaped (.list ds) = true := by
  constructor
  · show (PyData.canLayAll0 ds && decide (PyData.depthAll ds + 1 ≤ 64)) = true
    rw [h, decide_eq_true (by omega)]
    rfl
  · show (PyData.canLayAll0 ds && decide (PyData.depthAll ds + 1 ≤ 64)) = true
    rw [h, decide_eq_true (by omega)]
    rfl
def lay (d : PyData) : Prop := PyData.canLay0 d = true ∧ PyData.depth d ≤ 60
theorem lay_all3 {a b c : PyData} (ha : lay a) (hb : lay b) (hc : lay c) : PyData.canLayAll0 [a, b, c] = true ∧ PyData.depthAll [a, b, c] ≤ 63 := by
  constructor
  · show (PyData.canLay0 a && (PyData.canLay0 b && (PyData.canLay0 c && true))) = true
    rw [ha.1, hb.1, hc.1]
    rfl
  · show max (PyData.depth a) (max (PyData.depth b) (max (PyData.depth c) 0)) ≤ 63
    have := ha.2
    have := hb.2
    have := hc.2
    omega
theorem lay_tup (ns : List Int) : lay (.tuple (ns.map PyData.int)) := by
  obtain ⟨h1, h2⟩ := lay_ints ns
  exact ⟨h1, by show PyData.depthAll (ns.map PyData.int) + 1 ≤ 60; omega⟩
theorem lay_int (n : Int) : lay (.int n) := ⟨rfl, by show 0 ≤ 60; decide⟩
theorem lay_non : lay .none := ⟨rfl, by show 0 ≤ 60; decide⟩
theorem FitN.dat {K : PySem.W.Frag} {m : Int} {xs : List Int} {H : Hp} {u v : V} (h1 : FitN m xs H u) (h2 : FitN m xs H v) : ∃ d, Dp K H u d ∧ Dp K H v d ∧ lay d := by
  rcases h1.two h2 with ⟨rfl, rfl⟩ | ⟨a, b, l, s, rfl, rfl, ha, hb⟩
  · exact ⟨_, .non, .non, lay_non⟩
  · exact ⟨_, .tup (SqT.of ha) (dp_ints [l, s]), .tup (SqT.of hb) (dp_ints [l, s]), lay_tup [l, s]⟩
theorem GssN.dat {K : PySem.W.Frag} {m : Int} {xs : List Int} {H : Hp} {u v : V} (h1 : GssN m xs u) (h2 : GssN m xs v) : ∃ d, Dp K H u d ∧ Dp K H v d ∧ lay d := by
  cases h1.uniq h2
  by_cases n : u = .non
  · subst n
    exact ⟨_, .non, .non, lay_non⟩
  · obtain ⟨z, rfl⟩ := h1.int n
    exact ⟨_, .int z, .int z, lay_int z⟩
theorem Tri.two {K : PySem.W.Frag} {m : Int} {xs : List Int} {H : Hp} {us vs : List V} (h1 : Tri m xs H us) (h2 : Tri m xs H vs) : ∃ ds, DpAll K H us ds ∧ DpAll K H vs ds ∧ SeqAt.shaped (.tuple ds) = true ∧ SeqAt.shaped (.list ds) = true := by
  obtain ⟨a, f, g, rfl, ha, hf, hg⟩ := h1
  obtain ⟨b, f2, g2, rfl, hb, hf2, hg2⟩ := h2
  obtain ⟨d1, p1, p2, l1⟩ := hf.dat (K := K) hf2
  obtain ⟨d2, q1, q2, l2⟩ := hg.dat (K := K) (H := H) hg2
  obtain ⟨z1, z2⟩ := lay_all3 (lay_tup xs) l1 l2
  obtain ⟨s1, s2⟩ := shp_tl z1 z2
  exact ⟨[.tuple (xs.map PyData.int), d1, d2], .cons (.tup (SqT.of ha) (dp_ints xs)) (.cons p1 (.cons q1 .nil)), .cons (.tup (SqT.of hb) (dp_ints xs)) (.cons p2 (.cons q2 .nil)), s1, s2⟩
/-- what a table of answers by numbers holds: at each number the answers for so many of these -/
def Tells (m : Int) (ws : List Int) (H : Hp) (kvs : List (Key × V)) : Prop := ∀ k v, valV kvs k = some v → ∃ (j : Nat) (q : Addr) (vs : List V), k = .inl (j : Int) ∧ v = .ref q ∧ H q = some (.tup vs) ∧ Tri m (ws.take j) H vs
theorem Tells.keep {m : Int} {ws : List Int} {H H' : Hp} {kvs : List (Key × V)} (h : Tells m ws H kvs) (k : ∀ x ys, H x = some (.tup ys) → H' x = some (.tup ys)) : Tells m ws H' kvs := fun y v e => by
  obtain ⟨j, q, vs, e1, e2, e3, e4⟩ := h y v e
  exact ⟨j, q, vs, e1, e2, k _ _ e3, e4.keep k⟩
theorem Tells.put {m : Int} {ws : List Int} {H : Hp} {kvs : List (Key × V)} {j : Nat} {q : Addr} {vs : List V} (h : Tells m ws H kvs) (hq : H q = some (.tup vs)) (t : Tri m (ws.take j) H vs) : Tells m ws H (putK kvs (.inl (j : Int)) (.ref q)) := fun y v e => by
  rw [valV_put] at e
  by_cases z : y = .inl (j : Int)
  · rw [if_pos z] at e
    cases e
    exact ⟨j, q, vs, z, rfl, hq, t⟩
  · rw [if_neg z] at e
    exact h y v e
theorem orb_gDk (f : Int → Int) {n i : Nat} (x : Int) (h : i < n) : (orb f n x).getD i 0 = itr f i x := by
  unfold orb
  rw [List.getD_eq_getElem?_getD, List.getElem?_map, List.getElem?_range h]
  rfl
theorem itr_stp (f : Int → Int) (i : Nat) (x : Int) : itr f (i + 1) x = f (itr f i x) := by
  first
    | rfl
    | rw [itr_succ]
theorem orb_fitU {t p m s : Int} {n k : Nat} (h : k + 2 ≤ n) : FitU m (orb (stp t p m) n s) k t := by
  intro i hi
  unfold gat
  rw [orb_gDk _ _ (by omega), orb_gDk _ _ (by omega), orb_gDk _ _ (by omega)]
  have h1 := dvd_of_mod_eq (m := m) (a := t * itr (stp t p m) i s + p) (b := itr (stp t p m) (i + 1) s) (by rw [itr_stp]; rfl)
  have h2 := dvd_of_mod_eq (m := m) (a := t * itr (stp t p m) (i + 1) s + p) (b := itr (stp t p m) (i + 1 + 1) s) (by rw [itr_stp _ (i + 1)]; rfl)
  obtain ⟨u, hu⟩ := h1
  obtain ⟨v, hv⟩ := h2
  exact ⟨v - u, by rw [Int.mul_sub, Int.mul_sub, ← hu, ← hv]; omega⟩
theorem fits_orb {t p m s : Int} {n j : Nat} (m0 : 0 < m) (h : j ≤ n) : Fits m ((orb (stp t p m) n s).take j) := by
  have ln : ((orb (stp t p m) n s).take j).length = j := by rw [List.length_take, orb_len]; omega
  by_cases c : j ≤ 2
  · exact fits_short m0 (by rw [ln]; exact c)
  · intro z
    rw [ln, fitR_take (by omega)] at z
    exact z t (orb_fitU (by omega))
theorem rng_take {m : Int} {xs : List Int} (h : Rng m xs) (j : Nat) : Rng m (xs.take j) := fun y hy => h y (List.take_subset j xs hy)
/-- a step never gets less -/
theorem step_dvd {m l s l' s' : Int} {ws : List Int} {i : Nat} (h : 2 ≤ i) (F : FitR m (ws.take (i + 1)) (i - 1) (some (l, s))) (F' : FitR m (ws.take i) (i - 2) (some (l', s'))) : s' ∣ s :=
  (fit_sub F F' fun t ht => (fitU_take (by omega)).mpr (fitU_mono ((fitU_take (by omega)).mp ht) (by omega))).1
theorem fit7 {z c : Int} (hz : z = 2 ∧ c = 1 ∨ z = 3 ∧ c = 2) : FitR 7 [0, 1, z] 1 (some (c, 7)) := by
  refine ⟨by decide, ⟨1, rfl⟩, by omega, by omega, fun t => ?_⟩
  rw [fitU_succ]
  have e1 : gat [0, 1, z] 0 = 1 := rfl
  have e2 : gat [0, 1, z] (0 + 1) = z - 1 := rfl
  rw [e1, e2]
  constructor
  · rintro ⟨_, h⟩
    omega
  · intro h
    exact ⟨fitU_zero _ _ _, by omega⟩
theorem guess7 {z c g : Int} (hz : z = 2 ∧ c = 1 ∧ g = 3 ∨ z = 3 ∧ c = 2 ∧ g = 0) : GssN 7 [0, 1, z] (.int g) := by
  rcases hz with ⟨rfl, rfl, rfl⟩ | ⟨rfl, rfl, rfl⟩
  · exact .inr ⟨by decide, 1, 7, fit7 (.inl ⟨rfl, rfl⟩), rfl⟩
  · exact .inr ⟨by decide, 2, 7, fit7 (.inr ⟨rfl, rfl⟩), rfl⟩
theorem fitN7 {z c : Int} {H : Hp} {v : V} (hz : z = 2 ∧ c = 1 ∨ z = 3 ∧ c = 2) (h : FitN 7 [0, 1, z] H v) : ∃ a, v = .ref a ∧ H a = some (.tup ([c, 7].map V.int)) := by
  rcases h with ⟨n, _⟩ | ⟨_, ⟨_, f⟩ | ⟨a, l, s, e, ha, f⟩⟩
  · exact absurd n (by decide : ¬ (3 < 2))
  · cases f.uniq (fit7 hz)
  · cases f.uniq (fit7 hz)
    exact ⟨a, e, ha⟩
theorem same_frm {l : Addr} {H H1 H2 : Hp} (s : Same H H1) (nl : H l = none) (f : Frm l H1 H2) : Same H H2 := fun b o e => f _ _ (ne_of_none e nl) (s _ _ e)
/-- what is told at so many numbers, beside what was told there ahead -/
def pSeen (K : PySem.W.Frag) (C : Addr) : V → V → V → V → V → Hp → VK → XK → Prop := fun e a b c t H Q _ => ∃ (s p l r td : Addr) (n k : Nat) (ws : List Int) (m : Int) (kvs : List (Key × V)), e = .ref s ∧ a = .ref p ∧ b = .ref r ∧ c = .int m ∧ t = .ref td ∧ Seed H s n ∧ n + 3 ≤ 100000000 ∧ s ≠ l ∧ s ≠ r ∧ KeptAt C H p l m (ws.take k) ∧ k ≤ ws.length ∧ k ≤ 900 ∧ H r = some (.lst ((ws.take k).map V.int)) ∧ 1 ≤ m ∧ m ≤ 1000000000000 ∧ Rng m (ws.take k) ∧ Fits m (ws.take k) ∧ H td = some (.dK kvs) ∧ kvs.length ≤ 900 ∧ Tells m ws H kvs ∧
  ∀ H' kvs', (∀ b o, b ≠ s → b ≠ td → H b = some o → H' b = some o) → Seed H' s (n + 3) → H' td = some (.dK kvs') → kvs'.length ≤ kvs.length + 1 → Tells m ws H' kvs' → Q (.bl true) H'
/-- where the law stands: the row of so many numbers of the walk, kept and its own, and the table of what was told -/
structure St33 (C : Addr) (Hb H : Hp) (d p l r td wl : Addr) (b : Int) (n k c : Nat) (ws : List Int) : Prop where
  sm : Same Hb H
  lv : Live H [td, r, l, wl, d]
  fr : ∀ x ∈ [td, r, l, d], Hb x = none
  sd : Seed H d n
  ka : KeptAt C H p l b (ws.take k)
  ro : H r = some (.lst ((ws.take k).map V.int))
  wo : H wl = some (.lst (ws.map V.int))
  dk : ∃ kvs, H td = some (.dK kvs) ∧ kvs.length ≤ c ∧ Tells b ws H kvs
section
variable {C : Addr} {Hb H H' : Hp} {d p l r td wl : Addr} {b : Int} {n k c : Nat} {ws : List Int} (S : St33 C Hb H d p l r td wl b n k c ws)
include S
theorem St33.ld : l ≠ d := nd_ne S.lv.1 (i := 2) (j := 4) rfl rfl (by decide)
theorem St33.rd : r ≠ d := nd_ne S.lv.1 (i := 1) (j := 4) rfl rfl (by decide)
theorem St33.td' : td ≠ d := nd_ne S.lv.1 (i := 0) (j := 4) rfl rfl (by decide)
theorem St33.wd : wl ≠ d := nd_ne S.lv.1 (i := 3) (j := 4) rfl rfl (by decide)
theorem St33.rl : r ≠ l := nd_ne S.lv.1 (i := 1) (j := 2) rfl rfl (by decide)
theorem St33.tl : td ≠ l := nd_ne S.lv.1 (i := 0) (j := 2) rfl rfl (by decide)
theorem St33.tr : td ≠ r := nd_ne S.lv.1 (i := 0) (j := 1) rfl rfl (by decide)
theorem St33.wl' : wl ≠ l := nd_ne S.lv.1 (i := 3) (j := 2) rfl rfl (by decide)
theorem St33.wr : wl ≠ r := nd_ne S.lv.1 (i := 3) (j := 1) rfl rfl (by decide)
theorem St33.wt : wl ≠ td := nd_ne S.lv.1 (i := 3) (j := 0) rfl rfl (by decide)
theorem St33.same (s : Same H H') : St33 C Hb H' d p l r td wl b n k c ws := by
  obtain ⟨kvs, e, hl, t⟩ := S.dk
  exact ⟨S.sm.trans s, S.lv.same s, S.fr, S.sd.same s, S.ka.same s, s _ _ S.ro, s _ _ S.wo, kvs, s _ _ e, hl, t.keep fun x ys z => s _ _ z⟩
theorem St33.pd : p ≠ d ∧ p ≠ td ∧ p ≠ l ∧ p ≠ r := by
  obtain ⟨dx, hp⟩ := S.ka.1
  obtain ⟨_, _, _, _, ed, _⟩ := S.sd
  obtain ⟨kvs, e, _⟩ := S.dk
  exact ⟨(fun z => by rw [z, ed] at hp; cases hp), (fun z => by rw [z, e] at hp; cases hp), (fun z => by rw [z, S.ka.2] at hp; cases hp), (fun z => by rw [z, S.ro] at hp; cases hp)⟩
/-- asked -/
theorem St33.seen {n' c' : Nat} {kvs : List (Key × V)} (f : ∀ x o, x ≠ d → x ≠ td → H x = some o → H' x = some o) (D : Seed H' d n') (T : H' td = some (.dK kvs)) (lk : kvs.length ≤ c') (t : Tells b ws H' kvs) : St33 C Hb H' d p l r td wl b n' k c' ws := by
  obtain ⟨dx, hp⟩ := S.ka.1
  refine ⟨fun x o e => f _ _ (ne_of_none e (S.fr d (by simp))) (ne_of_none e (S.fr td (by simp))) (S.sm _ _ e), S.lv.keep fun x _ o e => ?_, S.fr, D, ⟨⟨dx, f _ _ S.pd.1 S.pd.2.1 hp⟩, f _ _ S.ld (Ne.symm S.tl) S.ka.2⟩, f _ _ S.rd (Ne.symm S.tr) S.ro, f _ _ S.wd S.wt S.wo, kvs, T, lk, t⟩
  by_cases z1 : x = d
  · rw [z1]; exact D.live
  · by_cases z2 : x = td
    · rw [z2, T]; exact fun z => by cases z
    · rw [f _ _ z1 z2 e]; exact fun z => by cases z
/-- drawn -/
theorem St33.but {n' : Nat} (B : But d H H') (D : Seed H' d n') : St33 C Hb H' d p l r td wl b n' k c ws := by
  obtain ⟨kvs, e, hl, t⟩ := S.dk
  exact S.seen (fun x o n1 _ e => B _ _ n1 e) D (B _ _ S.td' e) hl (t.keep fun x ys z => B _ _ (S.sd.ne_tup z) z)
/-- one more, or one fewer -/
theorem St33.grow {k' : Nat} (f : Frm l H H') (K : KeptAt C H' p l b (ws.take k')) : St33 C Hb (upd H' r (.lst ((ws.take k').map V.int))) d p l r td wl b n k' c ws := by
  obtain ⟨dx, hp⟩ := K.1
  obtain ⟨kvs, e, hl, t⟩ := S.dk
  have u : ∀ {x o}, x ≠ l → x ≠ r → H x = some o → (upd H' r (.lst ((ws.take k').map V.int))) x = some o := fun n1 n2 e => by rw [upd_ne n2]; exact f _ _ n1 e
  refine ⟨fun x o e => u (ne_of_none e (S.fr l (by simp))) (ne_of_none e (S.fr r (by simp))) (S.sm _ _ e), S.lv.keep fun x _ o e => ?_, S.fr, ?_, ⟨⟨dx, by rw [upd_ne S.pd.2.2.2]; exact hp⟩, by rw [upd_ne (Ne.symm S.rl)]; exact K.2⟩, upd_same, u S.wl' S.wr S.wo, kvs, u S.tl S.tr e, hl, t.keep fun x ys z => u (fun y => by rw [y, S.ka.2] at z; cases z) (fun y => by rw [y, S.ro] at z; cases z) z⟩
  · by_cases z2 : x = r
    · rw [z2, upd_same]; exact fun z => by cases z
    · by_cases z1 : x = l
      · rw [z1, upd_ne (Ne.symm S.rl), K.2]; exact fun z => by cases z
      · rw [u z1 z2 e]; exact fun z => by cases z
  · obtain ⟨a, f', k, c, z, rest⟩ := S.sd
    exact ⟨a, f', k, c, u (Ne.symm S.ld) (Ne.symm S.rd) z, rest⟩
end
theorem take_drop {ws : List Int} {k : Nat} (h : k ≤ ws.length) : (ws.take k).dropLast = ws.take (k - 1) := by
  rw [List.dropLast_eq_take, List.length_take, List.take_take]
  congr 1
  omega
theorem cut_mid (xs : List Int) (k n : Nat) (h : k ≤ xs.length) : cutV (xs.map V.int) (some (k : Int)) (some ((k : Int) + (n : Int))) = ((xs.drop k).take (min (k + n) xs.length - k)).map V.int := by
  unfold cutV
  have e1 : HT.sIx (xs.map V.int).length 0 (some (k : Int)) = k := by
    show (if (k : Int) < 0 then ((k : Int) + ((xs.map V.int).length : Int)).toNat else min (k : Int).toNat (xs.map V.int).length) = k
    rw [if_neg (by omega), List.length_map, Int.toNat_natCast]
    omega
  have e2 : HT.sIx (xs.map V.int).length (xs.map V.int).length (some ((k : Int) + (n : Int))) = min (k + n) xs.length := by
    show (if (k : Int) + (n : Int) < 0 then (((k : Int) + (n : Int)) + ((xs.map V.int).length : Int)).toNat else min ((k : Int) + (n : Int)).toNat (xs.map V.int).length) = _
    rw [if_neg (by omega), List.length_map]
    omega
  rw [e1, e2, List.map_take, List.map_drop]
theorem mid_get {xs : List Int} {k m i : Nat} (h : k + m ≤ xs.length) (hi : i < m) : ((xs.drop k).take m).getD i 0 = xs.getD (k + i) 0 := by
  rw [List.getD_eq_getElem?_getD, List.getD_eq_getElem?_getD, List.getElem?_take_of_lt hi, List.getElem?_drop]
end Tw

/-! A refusal that is not kept; a kept row made afresh, asked, led on and back. -/
namespace Tw
open PySem PySem.Spec PyProof.Rows L2
theorem takesN {X : Cx} : Takes X (fun _ _ _ _ => False) := fun _ _ ⟨_, _, _, _, _, _, _, _, _, _, _, _, _, _, _, _, w⟩ => w.elim
theorem ps_try_none {X : Cx} {x : Str} {c : Value} {body suite : List Stmt} {b0 : Stmt} {np pos pos' : Pos} {tb : WX → TS} {ts : TS} (hs : X.stack = X.env :: X.outer) (hf : X.env.frame = some X.env.locals) (hc : Names X x c)
    (hb : ∀ (W : WX) (pn : List (Addr × Obj)) (xe : Value → Shared → Prop), Takes (X.tr pn xe) W → PassesOwn (model X.prog X.w) X.A X.env xe → PSs (X.tr pn xe) body (tb W))
    (hsu : ∀ (a : Addr) (pn : List (Addr × Obj)), PSs (X.suite a pn) (b0 :: suite) ts) :
    PS X (.Try body [.ExceptHandler (some (.Name x np)) none (b0 :: suite) pos'] [] [] pos) (fun D σ H => tb (wOnly X.K c (fun _ _ _ => ts) (fun _ _ _ _ => False) D) D σ H) :=
  ps_try_only hs hf hc takesN hb fun a oe _ _ pn _ _ => hsu a ((a, oe) :: pn)
/-- all three answers, in a list -/
def pTold34 (C : Addr) : V → Hp → VK → XK → Prop := fun a H Q _ => ∃ (p l : Addr) (m : Int) (xs : List Int), a = .ref p ∧ KeptAt C H p l m xs ∧ 1 ≤ m ∧ m ≤ 1000000000000 ∧ xs.length ≤ 900 ∧ Rng m xs ∧ Fits m xs ∧ ∀ H' q vs, Same H H' → H q = none → H' q = some (.lst vs) → Tri m xs H' vs → Q (.ref q) H'
/-- a kept row made of these numbers -/
def pAfresh (C : Addr) : V → V → Hp → VK → XK → Prop := fun a b H Q _ => ∃ (r : Addr) (m : Int) (xs : List Int), a = .ref r ∧ b = .int m ∧ H r = some (.lst (xs.map V.int)) ∧ 1 ≤ m ∧ m ≤ 1000000000000 ∧ xs.length ≤ 900 ∧ Rng m xs ∧ Fits m xs ∧ ∀ H' p l, Same H H' → KeptAt C H' p l m xs → Q (.ref p) H'
/-- whether a number is let -/
def pIsLet (C : Addr) : V → V → Hp → VK → XK → Prop := fun a b H Q _ => ∃ (p l : Addr) (m n : Int) (xs : List Int), a = .ref p ∧ b = .int n ∧ KeptAt C H p l m xs ∧ 1 ≤ m ∧ m ≤ 1000000000000 ∧ xs.length ≤ 900 ∧ Rng m xs ∧ 0 ≤ n ∧ n < m ∧
  (¬ Fits m (xs ++ [n]) → ∀ H', Same H H' → Q (.bl false) H') ∧ (Fits m (xs ++ [n]) → ∀ H', Frm l H H' → KeptAt C H' p l m (xs ++ [n]) → Q (.bl true) H')
/-- a deed that is let, or none -/
def pDeed34 (C : Addr) : V → V → V → V → Hp → VK → XK → Prop := fun e a b c H Q _ => ∃ (d p l r : Addr) (n : Nat) (m : Int) (xs : List Int), e = .ref d ∧ a = .ref p ∧ b = .ref r ∧ c = .int m ∧ Seed H d n ∧ n + 4 ≤ 100000000 ∧ d ≠ l ∧ d ≠ r ∧ l ≠ r ∧ KeptAt C H p l m xs ∧ H r = some (.lst (xs.map V.int)) ∧ 1 ≤ m ∧ m ≤ 1000000000000 ∧ Rng m xs ∧ xs.length ≤ 800 ∧ Fits m xs ∧
  ∀ H' ys, Seed H' d (n + 4) → (∀ b o, b ≠ d → b ≠ l → b ≠ r → H b = some o → H' b = some o) → KeptAt C H' p l m ys → H' r = some (.lst (ys.map V.int)) → Rng m ys → Fits m ys → ys.length ≤ xs.length + 1 → Q .non H'
/-- as the stage of fits tells -/
def pBeneath (C : Addr) : V → V → Hp → VK → XK → Prop := fun a b H Q _ => ∃ (p l : Addr) (m : Int) (xs : List Int), a = .ref p ∧ b = .int m ∧ KeptAt C H p l m xs ∧ 1 ≤ m ∧ m ≤ 1000000000000 ∧ xs.length ≤ 900 ∧ Rng m xs ∧ Fits m xs ∧ ∀ H', Same H H' → Q (.bl true) H'
/-- the number behind, let and taken back -/
def pBehind34 (C : Addr) : V → V → V → Hp → VK → XK → Prop := fun e a b H Q _ => ∃ (d p l : Addr) (n : Nat) (m : Int) (xs : List Int), e = .ref d ∧ a = .ref p ∧ b = .int m ∧ Seed H d n ∧ n + 2 ≤ 100000000 ∧ d ≠ l ∧ KeptAt C H p l m xs ∧ 1 ≤ m ∧ m ≤ 1000000000000 ∧ xs.length ≤ 800 ∧ Rng m xs ∧ Fits m xs ∧
  ∀ H', Seed H' d (n + 2) → (∀ b o, b ≠ d → b ≠ l → H b = some o → H' b = some o) → KeptAt C H' p l m xs → Q (.bl true) H'
/-- all taken back, and seen again -/
def pAgain (C : Addr) : V → V → Hp → VK → XK → Prop := fun a b H Q _ => ∃ (p l : Addr) (m : Int) (xs : List Int), a = .ref p ∧ b = .int m ∧ KeptAt C H p l m xs ∧ 1 ≤ m ∧ m ≤ 1000000000000 ∧ xs.length ≤ 40 ∧ Rng m xs ∧ Fits m xs ∧ ∀ H', Frm l H H' → KeptAt C H' p l m xs → Q (.bl true) H'
theorem rulesR_two {m l s : Int} {xs : List Int} (m0 : 1 ≤ m) (F : FitR m xs (xs.length - 2) (some (l, s))) : 1 ≤ (rulesR m xs 2 (some (l, s))).length := by
  show 1 ≤ (rulesN m xs l s (howMany m 2 (some (l, s)))).length
  rw [rulesN_len]
  show 1 ≤ (min 2 (m / s)).toNat
  obtain ⟨s0, ⟨c, rfl⟩, _⟩ := F
  rw [Int.mul_ediv_cancel_left c (by omega)]
  have : 0 < c := by
    rcases Int.lt_or_le 0 c with h | h
    · exact h
    · have := Int.mul_nonpos_of_nonneg_of_nonpos (Int.le_of_lt s0) h
      omega
  omega
theorem rulesR_mem {m l s n : Int} {xs : List Int} (m0 : 1 ≤ m) (F : FitR m xs (xs.length - 2) (some (l, s))) {r : List Int} (h : r ∈ rulesR m xs n (some (l, s))) : ∃ t, r = [t, plusOf m xs t, m] ∧ 0 ≤ t ∧ t < m := by
  obtain ⟨i, hi, rfl⟩ := List.mem_map.mp (show r ∈ (List.range (howMany m n (some (l, s)))).map fun (i : Nat) => ruleOf m xs (l + (i : Int) * s) from h)
  have hi' := List.mem_range.mp hi
  replace hi' : i < (min n (m / s)).toNat := hi'
  obtain ⟨s0, ⟨c, hc⟩, l0, l1, _⟩ := F
  refine ⟨l + (i : Int) * s, rfl, ?_, ?_⟩
  · have := Int.mul_nonneg (Int.natCast_nonneg i) (Int.le_of_lt s0)
    omega
  · rw [hc, Int.mul_ediv_cancel_left c (by omega)] at hi'
    have h1 : (i : Int) ≤ c - 1 := by omega
    have h2 := Int.mul_le_mul_of_nonneg_right h1 (Int.le_of_lt s0)
    have h3 : (c - 1) * s = m - s := by rw [Int.sub_mul, hc, Int.one_mul, Int.mul_comm]
    omega
theorem tOr_true {ta tb : TT} {σ : L2.St} {H : Hp} {Q : Bool → Hp → Prop} (h : Q true H → tOr ta tb σ H Q) (k : Q true H) : tOr ta tb σ H Q := h k
theorem tOr_false {ta tb : TT} {σ : L2.St} {H : Hp} {Q : Bool → Hp → Prop} (h : Q false H → tOr ta tb σ H Q) (k : Q false H) : tOr ta tb σ H Q := h k
theorem tAnd_false {ta tb : TT} {σ : L2.St} {H : Hp} {Q : Bool → Hp → Prop} (h : Q false H → tAnd ta tb σ H Q) (k : Q false H) : tAnd ta tb σ H Q := h k
theorem shp_lay {d : PyData} (h : lay d) : SeqAt.shaped d = true := by
  show (PyData.canLay0 d && decide (PyData.depth d ≤ 64)) = true
  have := h.2
  rw [h.1, decide_eq_true (by omega)]
  rfl
theorem rng_snoc1 {m x : Int} {xs : List Int} (h : Rng m xs) (h0 : 0 ≤ x) (h1 : x < m) : Rng m (xs ++ [x]) := rng_snoc h ⟨h0, h1⟩
theorem fits_take {m : Int} {xs : List Int} (m0 : 0 < m) (h : Fits m xs) {j : Nat} (hj : j ≤ xs.length) : Fits m (xs.take j) := by
  by_cases c : j ≤ 2
  · exact fits_short m0 (by rw [List.length_take]; omega)
  · intro z
    rw [show (xs.take j).length - 2 = j - 2 by rw [List.length_take]; omega, fitR_take (by omega)] at z
    exact h (fitR_none_mono z (by omega))
theorem St32.deed3 {C d p l r : Addr} {Hb H H' : Hp} {b : Int} {n n' : Nat} {xs ys : List Int} (h : St32 C Hb H d p l r b n xs) (nd : Hb d = none) (nl : Hb l = none) (nr : Hb r = none) (f : ∀ b o, b ≠ d → b ≠ l → b ≠ r → H b = some o → H' b = some o) (D : Seed H' d n') (K : KeptAt C H' p l b ys) (R : H' r = some (.lst (ys.map V.int))) (rg : Rng b ys) (ft : Fits b ys) : St32 C Hb H' d p l r b n' ys :=
  ⟨fun c o e => f _ _ (ne_of_none e nd) (ne_of_none e nl) (ne_of_none e nr) (h.sm _ _ e), D, K, R, rg, ft⟩
end Tw


namespace Tw
open PySem PySem.Spec PyProof.Rows L2
def topS (i : Nat) : Stmt := PySem.Challenge.pw_timesrow_k34_whole_kept_as_afresh.main.body.getD i (.Pass ⟨0, 0, 0, 0⟩)
abbrev s_folded : Stmt := topS 23
theorem sc_folded : FnScope ["script", "found", "cell"] ["script"] (defScope s_folded) := ⟨rfl, rfl, rfl, by decide +kernel, rfl, by decide +kernel, by decide +kernel⟩
abbrev s_seed : Stmt := topS 24
theorem sc_seed : FnScope ["cell", "number"] ["cell"] (defScope s_seed) := ⟨rfl, rfl, rfl, by decide +kernel, rfl, by decide +kernel, by decide +kernel⟩
abbrev s_draw : Stmt := topS 25
theorem sc_draw : FnScope ["seed", "most", "found", "number"] ["seed", "most"] (defScope s_draw) := ⟨rfl, rfl, rfl, by decide +kernel, rfl, by decide +kernel, by decide +kernel⟩
abbrev s_below : Stmt := topS 26
theorem sc_below : FnScope ["seed", "bound"] ["seed", "bound"] (defScope s_below) := ⟨rfl, rfl, rfl, by decide +kernel, rfl, by decide +kernel, by decide +kernel⟩
section
variable {P : Program} {w : World} {K : PySem.W.Frag} {mg : Str → Option Value} {base : Heap}
theorem ok_folded (D : Top K mg "_law_folded" s_folded ["script"]) (z_len : mg "len" = none) : Has P w K mg base CX0 1 "_law_folded" ["script"] (sp1 (pFolded K)) := by
  refine D.ok1 sc_folded (fun f cdv A outer s H v1 Q E hr h => ?_)
  obtain ⟨sa, xs, rfl, hS, hl, q⟩ := h
  refine ⟨_, (pss_cons (ps_set (i := 1) sc_folded.nd rfl (.inl rfl) (pe_callB (id := "len") call_len_seq (by rfl) z_len (by decide +kernel) (pa_cons (pv 0) pa_nil)))
 (pss_cons (ps_for PassesOwn.never rfl (pi_list (pv 0)) (pg_name (i := 2) sc_folded.nd rfl (.inl rfl)) (pss_one (ps_set (i := 1) sc_folded.nd rfl (.inl rfl) (pe_op op_mod (pe_op op_add (pe_op op_mulB (pv 1) pe_int) (pe_op op_mod (pv 2) pe_int)) pe_int))))
 (pss_one (ps_ret (pv 1))))), ?_⟩
  refine ⟨_, rfl, sa, _, rfl, .inl hS, ?_⟩
  refine ⟨_, rfl, sa, rfl, ⟨_, hS⟩, for_list (K := K) (a := sa) (xs := xs.map V.int) (fun i σ H' => ∃ (v : Int) (y : Option V), σ = [some (.ref sa), some (.int v), y] ∧ H' = H ∧ 0 ≤ v ∧ v < 2147483647) ⟨_, none, rfl, rfl, by omega, by rw [List.length_map]; omega⟩ ?_ ?_ ?_⟩
  · rintro i σ H' _ ⟨v, y, rfl, rfl, _⟩
    exact hS
  · rintro i x σ H' hi ⟨v, y, rfl, rfl, v0, v1⟩
    rw [List.getElem?_map] at hi
    cases ez : xs[i]? with
    | none => rw [ez] at hi; cases hi
    | some c =>
      rw [ez] at hi
      cases hi
      have b1 := mod_bd c (b := 2147483629) (by decide)
      refine ⟨_, rfl, _, _, rfl, rfl, ⟨by unfold Big; omega, by unfold Big; omega⟩, _, rfl, _, _, rfl, rfl, by show (0:Int) < _; decide, _, _, rfl, rfl, _, _, rfl, rfl, by show (0:Int) < _; decide, ?_⟩
      have b2 := mod_bd (v * 48271 + c % 2147483629) (b := 2147483647) (by decide)
      exact ⟨_, some (.int c), rfl, rfl, b2.1, b2.2⟩
  · rintro σ H' ⟨v, y, rfl, rfl, _⟩
    exact ⟨_, rfl, q v⟩
theorem ok_seed (D : Top K mg "_law_seed" s_seed ["cell"]) (z_max : mg "max" = none) (z_int : mg "int" = none) : Has P w K mg base CX0 1 "_law_seed" ["cell"] (sp1 pSeed) := by
  refine D.ok1 sc_seed (fun f cdv A outer s H v1 Q E hr h => ?_)
  obtain ⟨c, rfl, q⟩ := h
  refine ⟨_, (pss_cons (ps_set (i := 1) sc_seed.nd rfl (.inl rfl) (pe_callB (id := "max") (call_max2 rfl) (by rfl) z_max (by decide +kernel) (pa_cons (pv 0) (pa_cons (pe_op op_sub pe_int (pv 0)) pa_nil))))
 (pss_one (ps_ret (pe_lst (pa_cons (pv 1) (pa_cons (pe_callTy call_int1 (by rfl) z_int (by decide +kernel) (pa_cons (pe_cmpR op_ge (pv 1) (pe_op op_pow pe_int pe_int) (nomark _)) pa_nil)) (pa_cons pe_int (pa_cons (pe_op op_mod (pv 0) pe_int) pa_nil)))))))), ?_⟩
  have b1 := mod_bd c (b := 1999999913) (by decide)
  refine ⟨_, rfl, _, rfl, _, _, rfl, rfl, _, _, rfl, ?_⟩
  refine ⟨_, rfl, _, rfl, _, _, rfl, rfl, ⟨by decide, by decide, by decide⟩, _, _, rfl, rfl, .inr ⟨_, rfl, ?_⟩⟩
  refine ⟨_, rfl, _, _, rfl, rfl, by show (0:Int) < _; decide, by show 4 ≤ sizeLine; decide, fun d nd => ?_⟩
  refine q _ d (same_new nd) nd ⟨_, _, _, _, upd_same, ?_, by omega, by omega, by omega, by omega⟩
  by_cases e : 0 - c > c
  · rw [if_pos e]; omega
  · rw [if_neg e]; omega
theorem ok_draw (D : Top K mg "_law_draw" s_draw ["seed", "most"]) : Has P w K mg base CX0 1 "_law_draw" ["seed", "most"] (sp2 (pDrw 1)) := by
  refine D.ok2 sc_draw (fun f cdv A outer s H v1 v2 Q E hr h => ?_)
  obtain ⟨d, n, m, rfl, rfl, m0, m1, hD, hn, q⟩ := h
  refine ⟨_, (pss_cons (ps_asg (pe_op op_add (pe_ix ix_list (pv 0) pe_int (fun _ _ => rfl)) pe_int) (pg_sub (pv 0) pe_int set_list))
 (pss_cons (ps_if (PW.pt (pw_and (pt_cmpR op_eq (pe_ix ix_list (pv 0) pe_int (fun _ _ => rfl)) pe_int (nomark _)) (pw_and1 (pt_cmpR op_gt (pe_ix ix_list (pv 0) pe_int (fun _ _ => rfl)) pe_int (nomark _))))) (pss_cons (ps_set (i := 2) sc_draw.nd rfl (.inl rfl) (pe_op op_mod (pe_ix ix_list (pv 0) pe_int (fun _ _ => rfl)) (pv 1)))
 (pss_cons (ps_asg (pe_op op_fdivB (pe_ix ix_list (pv 0) pe_int (fun _ _ => rfl)) (pv 1)) (pg_sub (pv 0) pe_int set_list))
 (pss_one (ps_ret (pv 2))))) pss_nil)
 (pss_cons (ps_set (i := 3) sc_draw.nd rfl (.inl rfl) (pe_op op_mod (pe_op op_mulB (pe_op op_add (pe_op op_add (pe_ix ix_list (pv 0) pe_int (fun _ _ => rfl)) (pe_op op_mulB pe_int (pe_ix ix_list (pv 0) pe_int (fun _ _ => rfl)))) pe_int) pe_int) pe_int))
 (pss_cons (ps_set (i := 3) sc_draw.nd rfl (.inl rfl) (pe_op op_mod (pe_op op_mulB (pe_op op_mod (pe_op op_mulB (pv 3) (pv 3)) pe_int) pe_int) pe_int))
 (pss_one (ps_ret (pe_op op_mod (pe_op op_fdivB (pv 3) pe_int) (pv 1)))))))), ?_⟩
  have nh := hD.nohd
  obtain ⟨r, fl, k, c, hd, r0, k0, k1, c0, c1⟩ := hD
  refine ⟨_, rfl, d, _, 2, .int k, rfl, rfl, SqL.of hd, rfl, _, _, rfl, rfl, _, rfl, d, _, 2, 2, rfl, rfl, hd, rfl, ?_⟩
  have B1 : But d H (upd H d (.lst [.int r, .int fl, .int (k + 1), .int c])) := but_mut (But.refl d H) (fun c' hc => absurd hc (nh c'))
  have nh1 : ∀ c', ¬ At (upd H d (.lst [.int r, .int fl, .int (k + 1), .int c])) d c' := fun c' hc => by
    obtain ⟨_, e⟩ := hc
    rw [upd_same] at e
    cases e
  have mx : ∀ (v : Int), 0 ≤ v → v < m → Q (.int v) (upd H d (.lst [.int r, .int fl, .int (k + 1), .int c])) := fun v v0 v1 => q _ v B1 ⟨r, fl, k + 1, c, upd_same, r0, by omega, by omega, c0, c1⟩ v0 v1
  refine ⟨_, rfl, d, _, 1, .int fl, rfl, rfl, SqL.of upd_same, rfl, rfl, _, rfl, ifI (fun e1 => ⟨_, rfl, d, _, 0, .int r, rfl, rfl, SqL.of upd_same, rfl, _, _, rfl, rfl, _, rfl, ifD (fun e2 => ?great) (fun e2 => ?m1)⟩) (fun e1 => ?m2)⟩
  case great =>
    refine ⟨_, rfl, d, _, 0, .int r, rfl, rfl, SqL.of upd_same, rfl, _, rfl, _, _, rfl, rfl, m0, ?_⟩
    refine ⟨_, rfl, d, _, 0, .int r, rfl, rfl, SqL.of upd_same, rfl, _, rfl, _, _, rfl, rfl, ⟨m0, m1⟩, _, rfl, d, _, 0, 0, rfl, rfl, upd_same, rfl, ?_⟩
    have bv := mod_bd r m0
    exact ⟨_, rfl, q _ _ (but_mut B1 (fun c' hc => absurd hc (nh1 c'))) ⟨_, fl, k + 1, c, upd_same, Int.ediv_nonneg r0 (by omega), by omega, by omega, c0, c1⟩ bv.1 bv.2⟩
  all_goals
    refine ⟨_, rfl, d, _, 3, .int c, rfl, rfl, SqL.of upd_same, rfl, _, rfl, d, _, 2, .int (k + 1), rfl, rfl, SqL.of upd_same, rfl, _, _, rfl, rfl, ⟨by unfold Big; omega, by unfold Big; omega⟩, _, _, rfl, rfl, _, _, rfl, rfl, _, _, rfl, rfl, ⟨by unfold Big; omega, by unfold Big; omega⟩, _, _, rfl, rfl, by show (0:Int) < _; decide, ?_⟩
    generalize (c + 6997 * (k + 1) + 11) * 48271 = z1
    have b1 := mod_bd z1 (b := 2147483647) (by decide)
    refine ⟨_, rfl, _, rfl, _, _, rfl, rfl, ⟨by unfold Big; omega, by unfold Big; omega⟩, _, _, rfl, rfl, by show (0:Int) < _; decide, ?_⟩
    generalize z1 % 2147483647 * (z1 % 2147483647) = z2
    have b2 := mod_bd z2 (b := 2147483629) (by decide)
    refine ⟨_, _, rfl, rfl, ⟨by unfold Big; omega, by unfold Big; omega⟩, _, _, rfl, rfl, by show (0:Int) < _; decide, ?_⟩
    refine ⟨_, rfl, _, _, rfl, rfl, ⟨by decide, by decide⟩, _, rfl, _, _, rfl, rfl, m0, ?_⟩
    have b3 := mod_bd (z2 % 2147483629 * 40692 % 2147483399 / 7) m0
    exact mx _ b3.1 b3.2
theorem ok_below (D : Top K mg "_law_below" s_below ["seed", "bound"]) (h_draw : Has P w K mg base CX0 1 "_law_draw" ["seed", "most"] (sp2 (pDrw 1))) : Has P w K mg base CX0 2 "_law_below" ["seed", "bound"] (sp2 (pDrw 2)) := by
  refine D.ok2 sc_below (fun f cdv A outer s H v1 v2 Q E hr h => ?_)
  obtain ⟨d, n, m, rfl, rfl, m0, m1, hD, hn, q⟩ := h
  refine ⟨_, (pss_one (ps_ret (pe_op op_mod (pe_op op_add (pe_op op_mulB (pe_own h_draw (hr.mono (by decide)) pass0 (pa_cons (pv 0) (pa_cons (pe_op op_pow pe_int pe_int) pa_nil))) (pe_op op_pow pe_int pe_int)) (pe_own h_draw (hr.mono (by decide)) pass0 (pa_cons (pv 0) (pa_cons (pe_op op_pow pe_int pe_int) pa_nil)))) (pv 1)))), ?_⟩
  have z : (10 : Int) ^ (6 : Int).toNat = 1000000 := by decide
  refine ⟨_, rfl, _, _, rfl, rfl, ⟨by decide, by decide, by decide⟩, _, _, rfl, d, n, _, rfl, rfl, by decide, by decide, hD, by omega, fun H1 v B1 D1 v0 v1 => ?_⟩
  rw [z] at v1
  refine ⟨_, _, rfl, rfl, ⟨by decide, by decide, by decide⟩, _, _, rfl, rfl, ⟨by unfold Big; omega, show Big 1000000 from ⟨by decide, by decide⟩⟩, ?_⟩
  refine ⟨_, rfl, _, _, rfl, rfl, ⟨by decide, by decide, by decide⟩, _, _, rfl, d, n + 1, _, rfl, rfl, by decide, by decide, D1, by omega, fun H2 u B2 D2 u0 u1 => ?_⟩
  refine ⟨_, _, rfl, rfl, _, rfl, _, _, rfl, rfl, m0, ?_⟩
  have bv := mod_bd (v * 10 ^ (6 : Int).toNat + u) m0
  exact q _ _ (B1.trans B2) D2 bv.1 bv.2
end
end Tw


namespace Tw
open PySem PySem.Spec PyProof.Rows L2
abbrev s_bound : Stmt := topS 27
theorem sc_bound : FnScope ["seed", "kinds", "way"] ["seed", "kinds"] (defScope s_bound) := ⟨rfl, rfl, rfl, by decide +kernel, rfl, by decide +kernel, by decide +kernel⟩
abbrev s_any_rule : Stmt := topS 28
theorem sc_any_rule : FnScope ["seed", "bound", "times", "some", "plus"] ["seed", "bound"] (defScope s_any_rule) := ⟨rfl, rfl, rfl, by decide +kernel, rfl, by decide +kernel, by decide +kernel⟩
abbrev s_walk : Stmt := topS 29
theorem sc_walk : FnScope ["rule", "start", "many", "found"] ["rule", "start", "many"] (defScope s_walk) := ⟨rfl, rfl, rfl, by decide +kernel, rfl, by decide +kernel, by decide +kernel⟩
section
variable {P : Program} {w : World} {K : PySem.W.Frag} {mg : Str → Option Value} {base : Heap}
theorem ok_bound (D : Top K mg "_law_bound" s_bound ["seed", "kinds"]) (h_draw : Has P w K mg base CX0 1 "_law_draw" ["seed", "most"] (sp2 (pDrw 1))) (h_below : Has P w K mg base CX0 2 "_law_below" ["seed", "bound"] (sp2 (pDrw 2))) : Has P w K mg base CX0 3 "_law_bound" ["seed", "kinds"] (sp2 pBnd) := by
  refine D.ok2 sc_bound (fun f cdv A outer s H v1 v2 Q E hr h => ?_)
  obtain ⟨d, n, m, rfl, rfl, m0, m1, hD, hn, q⟩ := h
  refine ⟨_, (pss_cons (ps_set (i := 2) sc_bound.nd rfl (.inl rfl) (pe_own h_draw (hr.mono (by decide)) pass0 (pa_cons (pv 0) (pa_cons (pv 1) pa_nil))))
 (pss_cons (ps_if (pt_cmpR op_eq (pv 2) pe_int (nomark _)) (pss_one (ps_ret (pe_op op_add pe_int (pe_own h_draw (hr.mono (by decide)) pass0 (pa_cons (pv 0) (pa_cons pe_int pa_nil)))))) pss_nil)
 (pss_cons (ps_if (pt_cmpR op_eq (pv 2) pe_int (nomark _)) (pss_one (ps_ret (pe_ix ix_list (pe_lst (pa_cons pe_int (pa_cons pe_int (pa_cons pe_int (pa_cons pe_int (pa_cons pe_int (pa_cons pe_int (pa_cons pe_int (pa_cons pe_int pa_nil))))))))) (pe_own h_draw (hr.mono (by decide)) pass0 (pa_cons (pv 0) (pa_cons pe_int pa_nil))) (fun _ _ => rfl)))) pss_nil)
 (pss_cons (ps_if (pt_cmpR op_eq (pv 2) pe_int (nomark _)) (pss_one (ps_ret (pe_op op_add pe_int (pe_own h_draw (hr.mono (by decide)) pass0 (pa_cons (pv 0) (pa_cons pe_int pa_nil)))))) pss_nil)
 (pss_cons (ps_if (pt_cmpR op_eq (pv 2) pe_int (nomark _)) (pss_one (ps_ret (pe_op op_oneShl pe_int (pe_own h_draw (hr.mono (by decide)) pass0 (pa_cons (pv 0) (pa_cons pe_int pa_nil)))))) pss_nil)
 (pss_cons (ps_if (pt_cmpR op_eq (pv 2) pe_int (nomark _)) (pss_one (ps_ret (pe_op op_sub (pe_op op_pow pe_int pe_int) (pe_own h_draw (hr.mono (by decide)) pass0 (pa_cons (pv 0) (pa_cons pe_int pa_nil)))))) pss_nil)
 (pss_one (ps_ret (pe_op op_add pe_int (pe_own h_below (hr.mono (by decide)) pass0 (pa_cons (pv 0) (pa_cons (pe_op op_pow pe_int pe_int) pa_nil)))))))))))), ?_⟩
  refine ⟨_, rfl, _, rfl, _, _, rfl, d, n, _, rfl, rfl, m0, by omega, hD, by omega, fun H1 way B1 D1 w0 w1 => ?_⟩
  refine ⟨_, rfl, rfl, _, rfl, ifI (fun e => ?_) (fun e0 => ?_)⟩
  · refine ⟨_, rfl, _, _, rfl, d, n + 1, 12, rfl, rfl, by decide, by decide, D1, by omega, fun H2 v B2 D2 v0 v1 => ⟨_, _, rfl, rfl, ?_⟩⟩
    exact q _ _ (B1.trans B2) (D2.mono (by omega)) (by omega) (by omega) (fun _ => by omega)
  refine ⟨_, rfl, rfl, _, rfl, ifI (fun e => ?_) (fun e1 => ?_)⟩
  · refine ⟨by show 8 ≤ sizeLine; decide, fun l nl => ?_⟩
    have s1 := same_new (o := .lst [.int 60, .int 64, .int 243, .int 360, .int 720, .int 1260, .int 1999, .int 2000]) nl
    refine ⟨_, rfl, _, _, rfl, d, n + 1, 8, rfl, rfl, by decide, by decide, D1.same s1, by omega, fun H2 v B2 D2 v0 v1 => ?_⟩
    obtain ⟨x, hx, ex⟩ := at_ints (ns := [60, 64, 243, 360, 720, 1260, 1999, 2000]) v0 (by show v < 8; exact v1)
    have bx : 1 ≤ x ∧ x ≤ 2000 := (by decide : ∀ x ∈ ([60, 64, 243, 360, 720, 1260, 1999, 2000] : List Int), 1 ≤ x ∧ x ≤ 2000) x hx
    refine ⟨l, _, v, _, rfl, rfl, SqL.of (B2 _ _ (D1.ne nl) upd_same), ex, ?_⟩
    exact q _ _ ((B1.trans s1.but).trans B2) (D2.mono (by omega)) (by omega) (by omega) (fun _ => by omega)
  refine ⟨_, rfl, rfl, _, rfl, ifI (fun e => ?_) (fun e2 => ?_)⟩
  · refine ⟨_, rfl, _, _, rfl, d, n + 1, 2000, rfl, rfl, by decide, by decide, D1, by omega, fun H2 v B2 D2 v0 v1 => ⟨_, _, rfl, rfl, ?_⟩⟩
    exact q _ _ (B1.trans B2) (D2.mono (by omega)) (by omega) (by omega) (fun _ => by omega)
  refine ⟨_, rfl, rfl, _, rfl, ifI (fun e => ?_) (fun e3 => ?_)⟩
  · refine ⟨_, rfl, _, _, rfl, d, n + 1, 40, rfl, rfl, by decide, by decide, D1, by omega, fun H2 v B2 D2 v0 v1 => ?_⟩
    obtain ⟨j, rfl⟩ := Int.eq_ofNat_of_zero_le v0
    have j1 : j < 40 := by omega
    have jb : 1 ≤ (2 : Int) ^ j ∧ (2 : Int) ^ j ≤ 1000000000000 := (by decide : ∀ j, j < 40 → 1 ≤ (2 : Int) ^ j ∧ (2 : Int) ^ j ≤ 1000000000000) j j1
    refine ⟨j, rfl, rfl, by omega, ?_⟩
    exact q _ _ (B1.trans B2) (D2.mono (by omega)) jb.1 jb.2 (fun _ => by omega)
  have z : (10 : Int) ^ (12 : Int).toNat = 1000000000000 := by decide
  refine ⟨_, rfl, rfl, _, rfl, ifI (fun e => ?_) (fun e4 => ?_)⟩
  · refine ⟨_, _, rfl, rfl, ⟨by decide, by decide, by decide⟩, _, rfl, _, _, rfl, d, n + 1, 40, rfl, rfl, by decide, by decide, D1, by omega, fun H2 v B2 D2 v0 v1 => ⟨_, _, rfl, rfl, ?_⟩⟩
    rw [z]
    exact q _ _ (B1.trans B2) (D2.mono (by omega)) (by omega) (by omega) (fun _ => by omega)
  refine ⟨_, rfl, _, _, rfl, rfl, ⟨by decide, by decide, by decide⟩, _, _, rfl, d, n + 1, _, rfl, rfl, by decide, by decide, D1, by omega, fun H2 v B2 D2 v0 v1 => ⟨_, _, rfl, rfl, ?_⟩⟩
  rw [z] at v1
  exact q _ _ (B1.trans B2) (D2.mono (by omega)) (by omega) (by omega) (fun _ => by omega)
theorem ok_any_rule (D : Top K mg "_law_any_rule" s_any_rule ["seed", "bound"]) (h_draw : Has P w K mg base CX0 1 "_law_draw" ["seed", "most"] (sp2 (pDrw 1))) (h_below : Has P w K mg base CX0 2 "_law_below" ["seed", "bound"] (sp2 (pDrw 2))) : Has P w K mg base CX0 3 "_law_any_rule" ["seed", "bound"] (sp2 pAnyRule) := by
  refine D.ok2 sc_any_rule (fun f cdv A outer s H v1 v2 Q E hr h => ?_)
  obtain ⟨d, n, b, rfl, rfl, b0, b1, hD, hn, q⟩ := h
  refine ⟨_, (pss_cons (ps_set (i := 2) sc_any_rule.nd rfl (.inl rfl) (pe_own h_below (hr.mono (by decide)) pass0 (pa_cons (pv 0) (pa_cons (pv 1) pa_nil))))
 (pss_cons (ps_set (i := 3) sc_any_rule.nd rfl (.inl rfl) (pe_lst (pa_cons (pv 2) (pa_cons pe_int (pa_cons pe_int (pa_cons (pe_op op_sub (pv 1) pe_int) (pa_cons (pe_op op_mulB (pv 2) (pe_ix ix_list (pe_lst (pa_cons pe_int (pa_cons pe_int (pa_cons pe_int (pa_cons pe_int pa_nil))))) (pe_own h_draw (hr.mono (by decide)) pass0 (pa_cons (pv 0) (pa_cons pe_int pa_nil))) (fun _ _ => rfl))) (pa_cons (pe_op op_add (pe_op op_sub (pv 2) (pe_op op_mod (pv 2) pe_int)) pe_int) pa_nil))))))))
 (pss_cons (ps_set (i := 4) sc_any_rule.nd rfl (.inl rfl) (pe_ix ix_list (pe_lst (pa_cons (pe_own h_below (hr.mono (by decide)) pass0 (pa_cons (pv 0) (pa_cons (pv 1) pa_nil))) (pa_cons pe_int (pa_cons pe_int pa_nil)))) (pe_own h_draw (hr.mono (by decide)) pass0 (pa_cons (pv 0) (pa_cons pe_int pa_nil))) (fun _ _ => rfl)))
 (pss_one (ps_ret (pe_tup (pa_cons (pe_op op_mod (pe_ix ix_list (pv 3) (pe_own h_draw (hr.mono (by decide)) pass0 (pa_cons (pv 0) (pa_cons pe_int pa_nil))) (fun _ _ => rfl)) (pv 1)) (pa_cons (pe_op op_mod (pv 4) (pv 1)) (pa_cons (pv 1) pa_nil))))))))), ?_⟩
  refine ⟨_, rfl, _, rfl, _, _, rfl, d, n, b, rfl, rfl, by omega, by omega, hD, by omega, fun H1 t B1 D1 t0 t1 => ?_⟩
  refine ⟨_, rfl, _, rfl, _, _, rfl, rfl, _, rfl, by show 4 ≤ sizeLine; decide, fun l nl => ?_⟩
  have s1 := same_new (o := .lst [.int 2, .int 3, .int 6, .int 10]) nl
  refine ⟨_, rfl, _, _, rfl, d, n + 2, 4, rfl, rfl, by decide, by decide, D1.same s1, by omega, fun H2 v B2 D2 v0 v1 => ?_⟩
  obtain ⟨x, hx, ex⟩ := at_ints (ns := [2, 3, 6, 10]) v0 (by show v < 4; exact v1)
  have bx : 2 ≤ x ∧ x ≤ 10 := (by decide : ∀ x ∈ ([2, 3, 6, 10] : List Int), 2 ≤ x ∧ x ≤ 10) x hx
  refine ⟨l, _, v, _, rfl, rfl, SqL.of (B2 _ _ (D1.ne nl) upd_same), ex, _, _, rfl, rfl, ⟨by unfold Big; omega, by unfold Big; omega⟩, ?_⟩
  refine ⟨_, rfl, _, rfl, _, _, rfl, rfl, by show (0:Int) < _; decide, _, _, rfl, rfl, _, _, rfl, rfl, by show 6 ≤ sizeLine; decide, fun l2 nl2 => ?_⟩
  have s2 := same_new (o := .lst [.int t, .int 0, .int 1, .int (b - 1), .int (t * x), .int (t - t % 12 + 1)]) nl2
  have B3 : But d H _ := ((B1.trans s1.but).trans B2).trans s2.but
  refine ⟨_, rfl, _, rfl, _, _, rfl, d, n + 3, b, rfl, rfl, by omega, by omega, D2.same s2, by omega, fun H3 p B4 D3 p0 p1 => ?_⟩
  refine ⟨by show 3 ≤ sizeLine; decide, fun l3 nl3 => ?_⟩
  have s3 := same_new (o := .lst [.int p, .int 0, .int 1]) nl3
  refine ⟨_, rfl, _, _, rfl, d, n + 5, 3, rfl, rfl, by decide, by decide, D3.same s3, by omega, fun H4 u B5 D4 u0 u1 => ?_⟩
  obtain ⟨y, hy, ey⟩ := at_ints (ns := [p, 0, 1]) u0 (by show u < 3; exact u1)
  refine ⟨l3, _, u, _, rfl, rfl, SqL.of (B5 _ _ (D3.ne nl3) upd_same), ey, ?_⟩
  have hl2 : H4 l2 = some (.lst [.int t, .int 0, .int 1, .int (b - 1), .int (t * x), .int (t - t % 12 + 1)]) := by
    have n2 := D2.ne nl2
    exact B5 _ _ n2 (s3 _ _ (B4 _ _ n2 upd_same))
  refine ⟨_, rfl, _, rfl, _, _, rfl, d, n + 6, 6, rfl, rfl, by decide, by decide, D4, by omega, fun H5 o B6 D5 o0 o1 => ?_⟩
  obtain ⟨g, hg, eg⟩ := at_ints (ns := [t, 0, 1, b - 1, t * x, t - t % 12 + 1]) o0 (by show o < 6; exact o1)
  refine ⟨l2, _, o, _, rfl, rfl, SqL.of (B6 _ _ (D2.ne nl2) hl2), eg, _, rfl, _, _, rfl, rfl, (show (0:Int) < b by omega), ?_⟩
  refine ⟨_, rfl, _, rfl, _, _, rfl, rfl, (show (0:Int) < b by omega), _, rfl, by show 3 ≤ sizeLine; decide, fun r nr => ?_⟩
  have s4 := same_new (o := .tup [.int (g % b), .int (y % b), .int b]) nr
  have bg := mod_bd g (show 0 < b by omega)
  have by' := mod_bd y (show 0 < b by omega)
  have Bf : But d H H5 := (((B3.trans B4).trans s3.but).trans B5).trans B6
  exact q _ r _ _ (Bf.trans s4.but) (D5.same s4) (Bf.free (D5.ne nr) nr) upd_same ⟨b0, b1, bg.1, bg.2, by'.1, by'.2⟩
theorem ok_walk (D : Top K mg "_law_walk" s_walk ["rule", "start", "many"]) (z_len : mg "len" = none) : Has P w K mg base CX0 1 "_law_walk" ["rule", "start", "many"] (sp3 (pWalkF K)) := by
  refine D.ok3 sc_walk (fun f cdv A outer s H v1 v2 v3 Q E hr h => ?_)
  obtain ⟨r, t, p, m, s0, n, rfl, rfl, rfl, hr1, R, a0, a1, n0, n1, q⟩ := h
  refine ⟨_, (pss_cons (ps_set (i := 3) sc_walk.nd rfl (.inl rfl) (pe_lst (pa_cons (pv 1) pa_nil)))
 (pss_cons (ps_while PassesOwn.never (pt_cmpR op_lt (pe_callB (id := "len") call_len_seq (by rfl) z_len (by decide +kernel) (pa_cons (pv 3) pa_nil)) (pv 2) (nomark _)) (pss_one (ps_expr (pe_bm PySem.F.plainAttrs_list PySem.F.slot_list_append PySem.F.type_list_append mt_append (pv 3) (pa_cons (pe_op op_mod (pe_op op_add (pe_op op_mulB (pe_ix ix_tup (pv 0) pe_int (fun _ _ => rfl)) (pe_ix ix_list (pv 3) (pe_un un_neg pe_int) (fun _ _ => rfl))) (pe_ix ix_tup (pv 0) pe_int (fun _ _ => rfl))) (pe_ix ix_tup (pv 0) pe_int (fun _ _ => rfl))) pa_nil)))))
 (pss_one (ps_ret (pv 3))))), ?_⟩
  have m0 : 0 < m := by have := R.b1; omega
  have := R.b2
  have := R.t0
  have := R.t1
  refine ⟨_, rfl, by show 1 ≤ sizeLine; decide, fun l nl => ?_⟩
  have e1 : (.lst [.int s0] : HO) = .lst ((orb (stp t p m) 1 s0).map V.int) := rfl
  refine ⟨fun k σ H' => ∃ i : Nat, σ = [some (.ref r), some (.int s0), some (.int n), some (.ref l)] ∧ H' = upd H l (.lst ((orb (stp t p m) i s0).map V.int)) ∧ 1 ≤ i ∧ (i : Int) ≤ n ∧ k = n.toNat - i, ⟨n.toNat - 1, 1, rfl, by rw [e1], by omega, by omega, rfl⟩, ?_⟩
  rintro k σ H' ⟨i, rfl, rfl, i0, i1, rfl⟩
  have sm : Same H (upd H l (.lst ((orb (stp t p m) i s0).map V.int))) := same_new nl
  refine ⟨_, rfl, l, _, rfl, .inl (SqL.of upd_same), _, rfl, _, _, rfl, rfl, _, rfl, ifD (fun lt => ?_) (fun ge => ?_)⟩
  · rw [List.length_map, orb_len] at lt
    obtain ⟨j, rfl⟩ : ∃ j, i = j + 1 := ⟨i - 1, by omega⟩
    have ir := itr_rng (t := t) (p := p) m0 ⟨a0, a1⟩ j
    have ej : atI ((orb (stp t p m) (j + 1) s0).map V.int) (-1) = some (.int (itr (stp t p m) j s0)) := by
      rw [orb_succ, List.map_append]
      exact atI_last _ _
    refine ⟨fun σ' H1 => ∃ k', k' < n.toNat - (j + 1) ∧ ∃ i : Nat, σ' = [some (.ref r), some (.int s0), some (.int n), some (.ref l)] ∧ H1 = upd H l (.lst ((orb (stp t p m) i s0).map V.int)) ∧ 1 ≤ i ∧ (i : Int) ≤ n ∧ k' = n.toNat - i, fun _ _ z => z, ?_⟩
    refine ⟨_, rfl, .inl ⟨rfl, _, SqL.of upd_same⟩, _, rfl, r, _, 0, .int t, rfl, rfl, sm.tup hr1, rfl, _, rfl, _, rfl, l, _, -1, _, rfl, rfl, SqL.of upd_same, ej, _, _, rfl, rfl, ⟨by unfold Big; omega, by unfold Big; omega⟩, ?_⟩
    refine ⟨_, rfl, r, _, 1, .int p, rfl, rfl, sm.tup hr1, rfl, _, _, rfl, rfl, _, rfl, r, _, 2, .int m, rfl, rfl, sm.tup hr1, rfl, _, _, rfl, rfl, m0, l, _, _, rfl, rfl, upd_same, szl (by rw [List.length_map, orb_len]; omega), ?_⟩
    refine ⟨n.toNat - (j + 2), by omega, j + 2, rfl, ?_, by omega, by omega, rfl⟩
    rw [upd_upd, orb_succ _ (j + 1), List.map_append]
    rfl
  · rw [List.length_map, orb_len] at ge
    have e : i = n.toNat := by omega
    subst e
    exact ⟨_, rfl, q _ l sm nl upd_same⟩
end
end Tw


namespace Tw
open PySem PySem.Spec PyProof.Rows L2
abbrev s_row : Stmt := topS 30
theorem sc_row : FnScope ["seed", "bound", "most", "many", "found", "way", "few", "at", "other", "k"] ["seed", "bound", "most"] (defScope s_row) := ⟨rfl, rfl, rfl, by decide +kernel, rfl, by decide +kernel, by decide +kernel⟩
section
variable {P : Program} {w : World} {K : PySem.W.Frag} {mg : Str → Option Value} {base : Heap}
theorem ok_row (D : Top K mg "_law_row" s_row ["seed", "bound", "most"]) (h_draw : Has P w K mg base CX0 1 "_law_draw" ["seed", "most"] (sp2 (pDrw 1))) (h_below : Has P w K mg base CX0 2 "_law_below" ["seed", "bound"] (sp2 (pDrw 2)))
    (h_any_rule : Has P w K mg base CX0 3 "_law_any_rule" ["seed", "bound"] (sp2 pAnyRule)) (h_walk : Has P w K mg base CX0 1 "_law_walk" ["rule", "start", "many"] (sp3 (pWalkF K)))
    (z_len : mg "len" = none) (z_range : mg "range" = none) (z_tuple : mg "tuple" = none) : Has P w K mg base CX0 4 "_law_row" ["seed", "bound", "most"] (sp3 pRowS) := by
  refine D.ok3 sc_row (fun f cdv A outer s H v1 v2 v3 Q E hr h => ?_)
  obtain ⟨d, n, b, z, rfl, rfl, rfl, b0, b1, z0, z1, hD, hn, q⟩ := h
  refine ⟨_, (pss_cons (ps_set (i := 3) sc_row.nd rfl (.inl rfl) (pe_ix ix_list (pe_lst (pa_cons (pe_op op_add pe_int (pe_own h_draw (hr.mono (by decide)) pass0 (pa_cons (pv 0) (pa_cons pe_int pa_nil)))) (pa_cons (pe_op op_add pe_int (pe_own h_draw (hr.mono (by decide)) pass0 (pa_cons (pv 0) (pa_cons (pe_op op_sub (pv 2) pe_int) pa_nil)))) (pa_cons (pv 2) pa_nil)))) (pe_own h_draw (hr.mono (by decide)) pass0 (pa_cons (pv 0) (pa_cons pe_int pa_nil))) (fun _ _ => rfl)))
 (pss_cons (ps_set (i := 4) sc_row.nd rfl (.inl rfl) (pe_own h_walk (hr.mono (by decide)) pass0 (pa_cons (pe_own h_any_rule (hr.mono (by decide)) pass0 (pa_cons (pv 0) (pa_cons (pv 1) pa_nil))) (pa_cons (pe_own h_below (hr.mono (by decide)) pass0 (pa_cons (pv 0) (pa_cons (pv 1) pa_nil))) (pa_cons (pv 3) pa_nil)))))
 (pss_cons (ps_set (i := 5) sc_row.nd rfl (.inl rfl) (pe_own h_draw (hr.mono (by decide)) pass0 (pa_cons (pv 0) (pa_cons pe_int pa_nil))))
 (C8.pss_cut (ps_if (pt_cmpR op_eq (pv 5) pe_int (nomark _)) (pss_cons (ps_set (i := 6) sc_row.nd rfl (.inr rfl) (pe_lc (own := [("k", 9)]) (by rfl) sc_row.nd (pi_range1 (by rfl) z_range (pa_cons (pe_ix ix_list (pe_lst (pa_cons pe_int (pa_cons pe_int (pa_cons pe_int (pa_cons (pv 3) pa_nil))))) (pe_own h_draw (hr.mono (by decide)) pass0 (pa_cons (pv 0) (pa_cons pe_int pa_nil))) (fun _ _ => rfl)) pa_nil)) (blkOk_by (own := [("k", 9)]) (N := ["seed", "bound", "most", "many", "found", "way", "few", "at", "other", "k"]) (sc := defScope s_row) (by decide +kernel)) (fun _ _ _ _ _ => pg_name (i := 9) sc_row.nd rfl (Or.inl rfl)) (fun _ _ _ _ _ => pts_nil) (fun _ _ _ _ _ => (pe_own h_below (hr.mono (by decide)) pass0 (pa_cons (pv 0) (pa_cons (pv 1) pa_nil))))))
 (pss_one (ps_setLc (i := 4) (own := [("k", 9)]) (by rfl) sc_row.nd rfl rfl (sw_true rfl rfl rfl (by decide +kernel)) (pi_range1 (by rfl) z_range (pa_cons (pv 3) pa_nil)) (blkOk_by (own := [("k", 9)]) (N := ["seed", "bound", "most", "many", "found", "way", "few", "at", "other", "k"]) (sc := defScope s_row) (by decide +kernel)) (fun _ _ _ _ _ => pg_name (i := 9) sc_row.nd rfl (Or.inl rfl)) (fun _ _ _ _ _ => pts_nil) (fun _ _ _ _ _ => (pe_ix (ix_list : IxR _ (rIxL K)) (pv 6) (pe_own h_draw (hr.mono (by decide)) pass0 (pa_cons (pv 0) (pa_cons (pe_callB (id := "len") (r := rLenS K) call_lenS (by rfl) z_len (by decide +kernel) (pa_cons (pv 6) pa_nil)) pa_nil))) (fun _ _ => rfl)))))) pss_nil)
 (C8.pss_cut (ps_if (pt_cmpR op_gt (pv 5) pe_int (nomark _)) (pss_cons (ps_set (i := 7) sc_row.nd rfl (.inl rfl) (pe_own h_draw (hr.mono (by decide)) pass0 (pa_cons (pv 0) (pa_cons (pv 3) pa_nil))))
 (pss_cons (ps_set (i := 8) sc_row.nd rfl (.inl rfl) (pe_ix ix_list (pe_lst (pa_cons (pe_op op_add (pe_ix ix_list (pv 4) (pv 7) (fun _ _ => rfl)) pe_int) (pa_cons (pe_op op_add (pe_ix ix_list (pv 4) (pv 7) (fun _ _ => rfl)) (pe_op op_fdivB (pv 1) pe_int)) (pa_cons (pe_ix ix_list (pv 4) (pe_op op_sub (pv 7) pe_int) (fun _ _ => rfl)) (pa_cons (pe_own h_below (hr.mono (by decide)) pass0 (pa_cons (pv 0) (pa_cons (pv 1) pa_nil))) pa_nil))))) (pe_own h_draw (hr.mono (by decide)) pass0 (pa_cons (pv 0) (pa_cons pe_int pa_nil))) (fun _ _ => rfl)))
 (pss_one (ps_asg (pe_op op_mod (pv 8) (pv 1)) (pg_sub (pv 4) (pv 7) set_list))))) pss_nil)
 (pss_one (ps_ret (pe_callTy call_tuple_of (by rfl) z_tuple (by decide +kernel) (pa_cons (pv 4) pa_nil))))))))), ?_⟩
  refine ⟨_, rfl, _, _, rfl, d, n, 4, rfl, rfl, by decide, by decide, hD, by omega, fun H1 u1 B1 D1 u10 u11 => ⟨_, _, rfl, rfl, ?_⟩⟩
  refine ⟨_, rfl, _, rfl, _, _, rfl, rfl, _, _, rfl, d, n + 1, z - 1, rfl, rfl, by omega, by omega, D1, by omega, fun H2 u2 B2 D2 u20 u21 => ⟨_, _, rfl, rfl, ?_⟩⟩
  refine ⟨_, rfl, by show 3 ≤ sizeLine; decide, fun l nl => ?_⟩
  have s1 := same_new (o := .lst [.int (2 + u1), .int (2 + u2), .int z]) nl
  refine ⟨_, rfl, _, _, rfl, d, n + 2, 3, rfl, rfl, by decide, by decide, D2.same s1, by omega, fun H3 u3 B3 D3 u30 u31 => ?_⟩
  obtain ⟨mn, hmn, emn⟩ := at_ints (ns := [2 + u1, 2 + u2, z]) u30 (by show u3 < 3; exact u31)
  have bm : 2 ≤ mn ∧ mn ≤ z := by
    simp at hmn
    rcases hmn with rfl | rfl | rfl <;> omega
  clear hmn
  refine ⟨l, _, u3, _, rfl, rfl, SqL.of (B3 _ _ (D2.ne nl) upd_same), emn, ?_⟩
  have Ba : But d H H3 := ((B1.trans B2).trans s1.but).trans B3
  refine ⟨_, rfl, _, rfl, _, _, rfl, d, n + 3, b, rfl, rfl, b0, b1, D3, by omega, fun H4 r t p B4 D4 nr hr4 R => ?_⟩
  refine ⟨_, rfl, _, rfl, _, _, rfl, d, n + 10, b, rfl, rfl, by omega, by omega, D4, by omega, fun H5 st B5 D5 st0 st1 => ?_⟩
  have hr5 : H5 r = some (.tup [.int t, .int p, .int b]) := B5 _ _ (D3.ne nr) hr4
  refine ⟨_, rfl, _, _, _, rfl, r, t, p, b, st, mn, rfl, rfl, rfl, SqT.of hr5, R, st0, st1, by omega, by omega, fun H6 fo s6 nfo hfo => ?_⟩
  have Bb : But d H H6 := ((Ba.trans B4).trans B5).trans s6.but
  have D6 := D5.same s6
  have nfo0 : H fo = none := ((Ba.trans B4).trans B5).free (D5.ne nfo) nfo
  refine ⟨_, rfl, _, _, rfl, d, n + 12, 6, rfl, rfl, by decide, by decide, D6, by omega, fun H7 way B7 D7 w0 w1 => ?_⟩
  have Bc : But d H H7 := Bb.trans B7
  have nfd : fo ≠ d := D5.ne nfo
  have hfo7 := B7 _ _ nfd hfo
  have or0 : Rng b (orb (stp t p b) mn.toNat st) := orb_rng (by omega) st0 st1 _
  generalize hxs : orb (stp t p b) mn.toNat st = xs at hfo hfo7 or0
  have lx : xs.length = mn.toNat := by rw [← hxs, orb_len]
  clear hxs
  -- if way == 0
  refine ⟨fun σ' H' => ∃ (fo : Addr) (xs : List Int) (y1 y2 : Option V), σ' = [some (.ref d), some (.int b), some (.int z), some (.int mn), some (.ref fo), some (.int way), y1, none, none, y2] ∧ But d H H' ∧ Seed H' d (n + 200) ∧ H fo = none ∧ fo ≠ d ∧ H' fo = some (.lst (xs.map V.int)) ∧ xs.length = mn.toNat ∧ Rng b xs, ?_, ?_⟩
  · refine ⟨_, rfl, rfl, _, rfl, ifI (fun e => ?_) (fun e => ?_)⟩
    · refine ⟨_, rfl, by show 4 ≤ sizeLine; decide, fun l2 nl2 => ?_⟩
      have s2 := same_new (o := .lst [.int 3, .int 3, .int 6, .int mn]) nl2
      refine ⟨_, rfl, _, _, rfl, d, n + 13, 4, rfl, rfl, by decide, by decide, D7.same s2, by omega, fun H8 u4 B8 D8 u40 u41 => ?_⟩
      obtain ⟨fn, hfn, efn⟩ := at_ints (ns := [3, 3, 6, mn]) u40 (by show u4 < 4; exact u41)
      have bf : 2 ≤ fn ∧ fn ≤ 60 := by
        simp at hfn
        rcases hfn with rfl | rfl | rfl <;> omega
      clear hfn
      refine ⟨l2, _, u4, _, rfl, rfl, SqL.of (B8 _ _ (D7.ne nl2) upd_same), efn, fn, rfl, by omega, by omega, fun L nL => ?_⟩
      have Bd : But d H H8 := (Bc.trans s2.but).trans B8
      refine lc_range (lo := 0) (n := fn.toNat) (fun j H' => ∃ ys : List Int, H' L = some (.lst (ys.map V.int)) ∧ ys.length = j ∧ Rng b ys ∧ But d H H' ∧ Seed H' d (n + 14 + 2 * j) ∧ j ≤ fn.toNat) ⟨[], upd_same, rfl, (fun x hx => by cases hx), but_mut2 Bd (Bd.free (D8.ne nL) nL), D8.mut (D8.ne nL), by omega⟩ ?_ ?_
      · rintro j H' hj ⟨ys, e1, e2, e3, B, D', _⟩
        refine ⟨rfl, yesX ?_⟩
        refine ⟨_, rfl, _, rfl, _, _, rfl, d, n + 14 + 2 * j, b, rfl, rfl, by omega, by omega, D', by omega, fun H9 v B9 D9 v0 v1 => ?_⟩
        have nLd := D8.ne nL
        refine ⟨ys.map V.int, B9 _ _ nLd e1, szl (by rw [List.length_map, e2]; omega), ys ++ [v], ?_, ?_, rng_snoc e3 ⟨v0, v1⟩, ?_, ?_, by omega⟩
        · rw [upd_same, List.map_append]
          rfl
        · rw [List.length_append, e2]
          rfl
        · exact but_mut2 (B.trans B9) (Bd.free nLd nL)
        · exact D9.mut nLd
      · rintro H' ⟨few, e1, e2, e3, B, D', _⟩
        have nLd := D8.ne nL
        refine ⟨_, rfl, mn, rfl, by omega, by omega, fun M nM => ?_⟩
        have nMd := D'.ne nM
        have nML : L ≠ M := ne_of_none e1 nM
        refine lc_range (lo := 0) (n := mn.toNat) (fun j H' => ∃ ys : List Int, H' M = some (.lst (ys.map V.int)) ∧ ys.length = j ∧ Rng b ys ∧ But d H H' ∧ H' L = some (.lst (few.map V.int)) ∧ Seed H' d (n + 14 + 2 * fn.toNat + j) ∧ j ≤ mn.toNat) ⟨[], upd_same, rfl, (fun x hx => by cases hx), but_mut2 B (B.free nMd nM), by rw [upd_ne nML]; exact e1, D'.mut nMd, by omega⟩ ?_ ?_
        · rintro j H2' hj ⟨ys, f1, f2, f3, B', f4, D2', _⟩
          refine ⟨rfl, yesX ?_⟩
          refine ⟨_, rfl, _, rfl, _, rfl, L, _, rfl, .inl (SqL.of f4), _, _, rfl, d, n + 14 + 2 * fn.toNat + j, _, rfl, rfl, by rw [List.length_map, e2]; omega, by rw [List.length_map, e2]; omega, D2', by omega, fun H9 v B9 D9 v0 v1 => ?_⟩
          rw [List.length_map] at v1
          obtain ⟨x, hx, ex⟩ := at_ints (ns := few) v0 v1
          refine ⟨L, _, v, _, rfl, rfl, SqL.of (B9 _ _ nLd f4), ex, ys.map V.int, B9 _ _ nMd f1, szl (by rw [List.length_map, f2]; omega), ys ++ [x], ?_, ?_, rng_snoc f3 (e3 x hx), ?_, ?_, ?_, by omega⟩
          · rw [upd_same, List.map_append]
            rfl
          · rw [List.length_append, f2]
            rfl
          · exact but_mut2 (B'.trans B9) (B.free nMd nM)
          · rw [upd_ne nML]
            exact B9 _ _ nLd f4
          · exact D9.mut nMd
        · rintro H2' ⟨ys, f1, f2, f3, B', f4, D2', _⟩
          exact ⟨M, ys, _, _, rfl, B', D2'.mono (by omega), B.free nMd nM, nMd, f1, f2, f3⟩
    · exact ⟨fo, xs, _, _, rfl, Bc, D7.mono (by omega), nfo0, nfd, hfo7, lx, or0⟩
  rintro σ' H8 ⟨fo, xs, y1, y2, rfl, B8, D8, nfo0, nfd, hfo8, lx, rg⟩
  -- if way > 3
  refine ⟨fun σ' H' => ∃ (xs : List Int) (y3 y4 : Option V), σ' = [some (.ref d), some (.int b), some (.int z), some (.int mn), some (.ref fo), some (.int way), y1, y3, y4, y2] ∧ But d H H' ∧ Seed H' d (n + 300) ∧ H' fo = some (.lst (xs.map V.int)) ∧ xs.length = mn.toNat ∧ Rng b xs, ?_, ?_⟩
  · refine ⟨_, rfl, _, _, rfl, rfl, _, rfl, ifD (fun e => ?_) (fun e => ?_)⟩
    · refine ⟨_, rfl, _, rfl, _, _, rfl, d, n + 200, mn, rfl, rfl, by omega, by omega, D8, by omega, fun H9 at' B9 D9 at0 at1 => ?_⟩
      have h9 := B9 _ _ nfd hfo8
      obtain ⟨x, hx, ex⟩ := at_ints (ns := xs) at0 (by omega)
      obtain ⟨x2, hx2, ex2⟩ : ∃ x2, x2 ∈ xs ∧ atI (xs.map V.int) (at' - 1) = some (.int x2) := by
        by_cases e0 : at' = 0
        · subst e0
          have : xs ≠ [] := fun z => by rw [z] at lx; have : (0:Nat) = mn.toNat := lx; omega
          refine ⟨xs.getLast this, List.getLast_mem this, ?_⟩
          have es : xs.map V.int = (xs.dropLast.map V.int) ++ [.int (xs.getLast this)] := by
            conv => lhs; rw [← List.dropLast_concat_getLast this]
            rw [List.map_append]
            rfl
          rw [es]
          exact atI_last _ _
        · exact at_ints (ns := xs) (by omega) (by omega)
      refine ⟨_, rfl, _, rfl, fo, _, at', _, rfl, rfl, SqL.of h9, ex, _, _, rfl, rfl, ?_⟩
      refine ⟨_, rfl, _, rfl, fo, _, at', _, rfl, rfl, SqL.of h9, ex, _, rfl, _, _, rfl, rfl, ⟨by decide, by decide⟩, _, _, rfl, rfl, ?_⟩
      refine ⟨_, rfl, _, rfl, _, _, rfl, rfl, fo, _, at' - 1, _, rfl, rfl, SqL.of h9, ex2, ?_⟩
      refine ⟨_, rfl, _, rfl, _, _, rfl, d, n + 201, b, rfl, rfl, by omega, by omega, D9, by omega, fun H10 u B10 D10 u0 u1' => ?_⟩
      refine ⟨by show 4 ≤ sizeLine; decide, fun l2 nl2 => ?_⟩
      have s2 := same_new (o := .lst [.int (x + 1), .int (x + b / 2), .int x2, .int u]) nl2
      refine ⟨_, rfl, _, _, rfl, d, n + 203, 4, rfl, rfl, by decide, by decide, D10.same s2, by omega, fun H11 v B11 D11 v0 v1 => ?_⟩
      obtain ⟨ot, hot, eot⟩ := at_ints (ns := [x + 1, x + b / 2, x2, u]) v0 (by show v < 4; exact v1)
      have bo := mod_bd ot (show 0 < b by omega)
      refine ⟨l2, _, v, _, rfl, rfl, SqL.of (B11 _ _ (D10.ne nl2) upd_same), eot, ?_⟩
      have h11 : H11 fo = some (.lst (xs.map V.int)) := B11 _ _ nfd (s2 _ _ (B10 _ _ nfd h9))
      obtain ⟨j, rfl⟩ := Int.eq_ofNat_of_zero_le at0
      refine ⟨_, rfl, _, rfl, _, _, rfl, rfl, (show (0:Int) < b by omega), _, rfl, _, rfl, fo, _, j, j, rfl, rfl, h11, ?_, ?_⟩
      · rw [List.length_map]
        exact ixN_nat (by omega)
      · refine ⟨xs.set j (ot % b), _, _, rfl, ?_, (D11.mono (by omega)).mut nfd, ?_, ?_, ?_⟩
        · exact but_mut2 ((((B8.trans B9).trans B10).trans s2.but).trans B11) nfo0
        · rw [upd_same, List.map_set]
        · rw [List.length_set, lx]
        · intro y hy
          rcases List.mem_or_eq_of_mem_set hy with hy | rfl
          · exact rg y hy
          · exact bo
    · exact ⟨xs, _, _, rfl, B8, D8.mono (by omega), hfo8, lx, rg⟩
  rintro σ' H9 ⟨xs, y3, y4, rfl, B9, D9, h9, lx, rg⟩
  refine ⟨_, rfl, fo, _, rfl, .inl ⟨SqL.of h9, fun u nu => ?_⟩⟩
  have s3 := same_new (o := .tup (xs.map V.int)) nu
  exact q _ u xs (B9.trans s3.but) ((D9.same s3).mono (by omega)) (B9.free (D9.ne nu) nu) upd_same (by omega) (by omega) rg
end
end Tw


namespace Tw
open PySem PySem.Spec PyProof.Rows L2
abbrev s_init : Stmt := inClass (topS 3) 0
theorem sc_init : FnScope ["self", "number"] ["self", "number"] (defScope s_init) := ⟨rfl, rfl, rfl, by decide +kernel, rfl, by decide +kernel, by decide +kernel⟩
abbrev s_is_whole : Stmt := topS 5
theorem sc_is_whole : FnScope ["thing"] ["thing"] (defScope s_is_whole) := ⟨rfl, rfl, rfl, by decide +kernel, rfl, by decide +kernel, by decide +kernel⟩
abbrev s_is_number : Stmt := topS 6
theorem sc_is_number : FnScope ["thing", "bound"] ["thing", "bound"] (defScope s_is_number) := ⟨rfl, rfl, rfl, by decide +kernel, rfl, by decide +kernel, by decide +kernel⟩
abbrev s_check_number : Stmt := topS 7
theorem sc_check_number : FnScope ["number", "bound"] ["number", "bound"] (defScope s_check_number) := ⟨rfl, rfl, rfl, by decide +kernel, rfl, by decide +kernel, by decide +kernel⟩
section
variable {P : Program} {w : World} {K : PySem.W.Frag} {mg : Str → Option Value} {base : Heap}
theorem ok_init {f CR : Addr} {fd : FuncData} (F : Fun K "__init__" "NoNumber.__init__" s_init f fd) (g_RowError : mg "RowError" = some (.ref CR)) (r_RowError : ClX.CRead K CR (.type "type"))
    (i_RowError : PySem.W.findCls K (.ref CR) (.type "type") "__init__" = some (.val (.builtin "ValueError.__init__"))) : FnOk P w K mg base CX0 1 f fd ["self", "number"] (spInit K) := by
  refine F.ok sc_init (fun vs H Q E h => ?_) (fun cdv A outer s H vs Q E hr h => ?_)
  · obtain ⟨_, _, rfl, _⟩ := h; rfl
  obtain ⟨_, v, rfl, a, C, rfl, T, nf, ha, q⟩ := h
  refine ⟨_, pss_cons (ps_expr (pe_ownInit (by rfl) g_RowError r_RowError i_RowError (pa_cons (pv 0) (pa_cons pe_str pa_nil)))) (pss_one (ps_ost (pv 0) (pv 1))), ?_⟩
  refine ⟨_, rfl, a, C, _, rfl, by show 1 ≤ 1000; decide, T, ha, ?_⟩
  exact ⟨_, rfl, _, rfl, a, C, rfl, T, nf, .inl ⟨ha, fun d nd ne => q d nd ne⟩⟩
theorem ok_is_whole (D : Top K mg "is_whole" s_is_whole ["thing"]) (z_isinstance : mg "isinstance" = none) (z_int : mg "int" = none) (z_bool : mg "bool" = none) : Has P w K mg base CX0 1 "is_whole" ["thing"] (sp1 pWhole) := by
  refine D.ok1 sc_is_whole (fun f cdv A outer s H v1 Q E hr h => ?_)
  obtain ⟨n, rfl, q⟩ := h
  refine ⟨_, (pss_one (ps_ret (pe_and (pe_callB (id := "isinstance") call_isA (by rfl) z_isinstance (by decide +kernel) (pa_cons (pv 0) (pa_cons (pe_bltn (v := .ty "int") (by rfl) z_int (by decide +kernel) rfl) pa_nil))) (pe_one (pe_not (pe_callB (id := "isinstance") call_isA (by rfl) z_isinstance (by decide +kernel) (pa_cons (pv 0) (pa_cons (pe_bltn (v := .ty "bool") (by rfl) z_bool (by decide +kernel) rfl) pa_nil)))))))), ?_⟩
  refine ⟨_, rfl, .inr ⟨_, _, _, _, true, rfl, .ty _, .base (.int n), kit_ty (by decide +kernel), _, rfl, ifT rfl ?_⟩⟩
  exact ⟨_, rfl, .inr ⟨_, _, _, _, false, rfl, .ty _, .base (.int n), kit_ty (by decide +kernel), _, rfl, q⟩⟩
theorem ok_is_number (D : Top K mg "is_number" s_is_number ["thing", "bound"]) (h_is_whole : Has P w K mg base CX0 1 "is_whole" ["thing"] (sp1 pWhole)) : Has P w K mg base CX0 2 "is_number" ["thing", "bound"] (sp2 pIsNum) := by
  refine D.ok2 sc_is_number (fun f cdv A outer s H v1 v2 Q E hr h => ?_)
  obtain ⟨n, m, rfl, rfl, q⟩ := h
  refine ⟨_, (pss_one (ps_ret (pe_and (pe_own h_is_whole (hr.mono (by decide)) pass0 (pa_cons (pv 0) pa_nil)) (pe_one (pe_chain op_le op_lt pe_int (pv 0) (pv 1)))))), ?_⟩
  refine ⟨_, rfl, _, rfl, n, rfl, _, rfl, ifT rfl ?_⟩
  refine ⟨_, rfl, _, _, rfl, rfl, _, rfl, ifD (fun l => ⟨_, rfl, _, _, rfl, rfl, ?_⟩) (fun l => ?_)⟩
  · have e : decide (0 ≤ n ∧ n < m) = decide (n < m) := by
      by_cases h : n < m <;> simp [h, l]
    rw [e] at q
    exact q
  · have e : decide (0 ≤ n ∧ n < m) = false := decide_eq_false fun z => l z.1
    rw [e] at q
    exact q
theorem ok_check_number {CN fI : Addr} {fdI : FuncData} (D : Top K mg "check_number" s_check_number ["number", "bound"]) (h_is_number : Has P w K mg base CX0 2 "is_number" ["thing", "bound"] (sp2 pIsNum)) (oex_NoNumber : OexC K CN)
    (n_NoNumber : PySem.W.findIn K (.ref CN) "__init__" = some (some (.ref fI))) (t_NoNumber : PySem.W.typeIn K (.ref fI) = some (.type "function")) (F_NoNumber : FnOk P w K mg base CX0 1 fI fdI ["self", "number"] (spInit K)) (b_NoNumber : Binds K fdI ["self", "number"] [])
    (g_NoNumber : mg "NoNumber" = some (.ref CN)) (nf : PySem.W.findIn K (.ref CN) "number" = some none) : Has P w K mg base (L2.CX P w) 3 "check_number" ["number", "bound"] (sp2 (pCheck CN)) := by
  refine D.ok2X sc_check_number (fun f cdv A outer s H v1 v2 Q E hr h => ?_)
  obtain ⟨n, m, rfl, rfl, q, e⟩ := h
  refine ⟨_, (pss_one (ps_if (pt_not (pt_val (pe_own h_is_number (hr.mono (by decide)) pass0 (pa_cons (pv 0) (pa_cons (pv 1) pa_nil))))) (pss_one (ps_raise rfl (takes_of rfl rfl rfl rfl) (pmk_oex oex_NoNumber n_NoNumber t_NoNumber F_NoNumber (hr.mono (by decide)) b_NoNumber .nil pass0 (by rfl) g_NoNumber (pa_cons (pv 0) pa_nil)))) pss_nil)), ?_⟩
  have bad : ¬ (0 ≤ n ∧ n < m) → _ := fun hn => e hn
  refine ⟨_, rfl, _, rfl, _, _, rfl, n, m, rfl, rfl, _, rfl, ifN (fun l => ?_) (fun l => q l.1 l.2)⟩
  refine ⟨_, rfl, by show 1 ≤ 1000; decide, fun a na => ⟨_, _, rfl, a, CN, rfl, oex_NoNumber, nf, upd_same, fun d nd ne => ⟨rfl, d, [("number", .int n)], upd_same, ?_, ?_, ?_⟩⟩⟩
  · rw [upd_ne ne, upd_same]
  · rw [upd_ne ne] at nd; exact nd
  · rw [made_eq na ne]
    rw [upd_ne ne] at nd
    exact bad l d nd
end
end Tw


namespace Tw
open PySem PySem.Spec PyProof.Rows L2
abbrev s_next_of : Stmt := topS 11
theorem sc_next_of : FnScope ["rule", "number", "times", "plus", "bound"] ["rule", "number"] (defScope s_next_of) := ⟨rfl, rfl, rfl, by decide +kernel, rfl, by decide +kernel, by decide +kernel⟩
section
variable {P : Program} {w : World} {K : PySem.W.Frag} {mg : Str → Option Value} {base : Heap}
theorem ok_next_of {CN : Addr} (D : Top K mg "next_of" s_next_of ["rule", "number"]) (h_check_number : Has P w K mg base (L2.CX P w) 3 "check_number" ["number", "bound"] (sp2 (pCheck CN))) :
    Has P w K mg base (L2.CX P w) 4 "next_of" ["rule", "number"] (sp2 (pNextOf K CN)) := by
  refine D.ok2X sc_next_of (fun f cdv A outer s H v1 v2 Q E hr h => ?_)
  obtain ⟨r, t, p, m, n, rfl, rfl, hr1, R, q, e⟩ := h
  refine ⟨_, (pss_cons (ps_asg (pv 0) (pg_tup rfl (pgs_cons (pg_name (i := 2) sc_next_of.nd rfl (.inl rfl)) (pgs_cons (pg_name (i := 3) sc_next_of.nd rfl (.inl rfl)) (pgs_cons (pg_name (i := 4) sc_next_of.nd rfl (.inl rfl)) pgs_nil)))))
 (pss_cons (ps_expr (pe_own h_check_number (hr.mono (by decide)) (passes_call (takes_of rfl rfl rfl rfl) (fun _ _ _ _ z => z)) (pa_cons (pv 1) (pa_cons (pv 4) pa_nil))))
 (pss_one (ps_ret (pe_op op_mod (pe_op op_add (pe_op op_mulB (pv 2) (pv 1)) (pv 3)) (pv 4)))))), ?_⟩
  refine ⟨_, rfl, r, _, rfl, hr1, rfl, _, _, rfl, _, _, rfl, _, _, rfl, rfl, ?_⟩
  refine ⟨_, rfl, _, rfl, _, _, rfl, n, m, rfl, rfl, fun n0 n1 => ?_, e⟩
  have := R.b2
  have := R.t0
  have := R.t1
  have := R.b1
  exact ⟨_, rfl, _, rfl, _, _, rfl, rfl, ⟨by unfold Big; omega, by unfold Big; omega⟩, _, rfl, _, _, rfl, rfl, _, rfl, _, _, rfl, rfl, (show (0 : Int) < m by omega), q n0 n1⟩
end
end Tw


namespace Tw
open PySem PySem.Spec PyProof.Rows L2
abbrev s_common_divisor : Stmt := topS 8
theorem sc_common_divisor : FnScope ["one", "other"] ["one", "other"] (defScope s_common_divisor) := ⟨rfl, rfl, rfl, by decide +kernel, rfl, by decide +kernel, by decide +kernel⟩
section
variable {P : Program} {w : World} {K : PySem.W.Frag} {mg : Str → Option Value} {base : Heap}
theorem ok_common_divisor (D : Top K mg "common_divisor" s_common_divisor ["one", "other"]) : Has P w K mg base CX0 1 "common_divisor" ["one", "other"] (sp2 pGcd) := by
  refine D.ok2 sc_common_divisor (fun f cdv A outer s H v1 v2 Q E hr h => ?_)
  obtain ⟨x, y, rfl, rfl, x0, y0, q⟩ := h
  refine ⟨_, (pss_cons (ps_while PassesOwn.never (pt_cmpR op_ne (pv 1) pe_int (nomark _)) (pss_one (ps_par (i := 0) (j := 1) (by rfl) sc_common_divisor.nd rfl rfl (by decide) rfl rfl (pa_cons (pv 1) (pa_cons (pe_op op_mod (pv 0) (pv 1)) pa_nil)) (by rfl))))
 (pss_one (ps_ret (pv 0)))), ?_⟩
  refine ⟨fun k σ H' => ∃ a b : Int, σ = [some (.int a), some (.int b)] ∧ H' = H ∧ 0 ≤ a ∧ 0 ≤ b ∧ b.toNat = k ∧ Int.gcd a b = Int.gcd x y, ⟨y.toNat, x, y, rfl, rfl, x0, y0, rfl, rfl⟩, ?_⟩
  rintro k σ H' ⟨a, b, rfl, rfl, a0, b0, hk, hg⟩
  refine ⟨_, rfl, rfl, _, rfl, ifNI (fun nb => ?_) (fun nb => ?_)⟩
  · have bp : 0 < b := by omega
    have mr := mod_bd a bp
    refine ⟨fun σ' H1 => ∃ k', k' < k ∧ ∃ a b : Int, σ' = [some (.int a), some (.int b)] ∧ H1 = H' ∧ 0 ≤ a ∧ 0 ≤ b ∧ b.toNat = k' ∧ Int.gcd a b = Int.gcd x y, fun _ _ z => z, ?_⟩
    refine ⟨_, rfl, _, rfl, _, rfl, _, _, rfl, rfl, bp, _, _, rfl, (a % b).toNat, by omega, b, a % b, rfl, rfl, b0, mr.1, rfl, (gcd_step a0 bp).trans hg⟩
  · subst nb
    refine ⟨_, rfl, ?_⟩
    have e : ((Int.gcd x y : Nat) : Int) = a := by
      rw [← hg, Int.gcd_zero_right]
      omega
    rw [e] at q
    exact q
end
end Tw


namespace Tw
open PySem PySem.Spec PyProof.Rows L2
abbrev s_inverse : Stmt := topS 9
theorem sc_inverse : FnScope ["number", "bound", "high", "low", "high_factor", "low_factor", "goes_in"] ["number", "bound"] (defScope s_inverse) := ⟨rfl, rfl, rfl, by decide +kernel, rfl, by decide +kernel, by decide +kernel⟩
section
variable {P : Program} {w : World} {K : PySem.W.Frag} {mg : Str → Option Value} {base : Heap}
theorem ok_inverse (D : Top K mg "inverse" s_inverse ["number", "bound"]) : Has P w K mg base CX0 1 "inverse" ["number", "bound"] (sp2 pInv) := by
  refine D.ok2 sc_inverse (fun f cdv A outer s H v1 v2 Q E hr h => ?_)
  obtain ⟨x, m, rfl, rfl, x0, m0, m1, hg, q⟩ := h
  refine ⟨_, (pss_cons (ps_par (i := 2) (j := 3) (by rfl) sc_inverse.nd rfl rfl (by decide) rfl rfl (pa_cons (pv 1) (pa_cons (pe_op op_mod (pv 0) (pv 1)) pa_nil)) (by rfl))
 (pss_cons (ps_asg (pe_tup (pa_cons pe_int (pa_cons pe_int pa_nil))) (pg_tup rfl (pgs_cons (pg_name (i := 4) sc_inverse.nd rfl (.inl rfl)) (pgs_cons (pg_name (i := 5) sc_inverse.nd rfl (.inl rfl)) pgs_nil))))
 (pss_cons (ps_while PassesOwn.never (pt_cmpR op_ne (pv 3) pe_int (nomark _)) (pss_cons (ps_set (i := 6) sc_inverse.nd rfl (.inl rfl) (pe_op op_fdivB (pv 2) (pv 3)))
 (pss_cons (ps_par (i := 2) (j := 3) (by rfl) sc_inverse.nd rfl rfl (by decide) rfl rfl (pa_cons (pv 3) (pa_cons (pe_op op_sub (pv 2) (pe_op op_mulB (pv 6) (pv 3))) pa_nil)) (by rfl))
 (pss_one (ps_par (i := 4) (j := 5) (by rfl) sc_inverse.nd rfl rfl (by decide) rfl rfl (pa_cons (pv 5) (pa_cons (pe_op op_sub (pv 4) (pe_op op_mulB (pv 6) (pv 5))) pa_nil)) (by rfl))))))
 (pss_one (ps_ret (pe_op op_mod (pv 4) (pv 1))))))), ?_⟩
  have xr := mod_bd x m0
  refine ⟨_, rfl, _, rfl, _, rfl, _, _, rfl, rfl, m0, _, _, rfl, ?_⟩
  refine ⟨by show 2 ≤ sizeLine; decide, fun z nz => ⟨z, _, rfl, SqT.of upd_same, rfl, _, _, rfl, _, _, rfl, rfl, ?_⟩⟩
  refine ⟨fun k σ H' => ∃ (hi lo hf lf A B : Int) (y : Option V), σ = [some (.int x), some (.int m), some (.int hi), some (.int lo), some (.int hf), some (.int lf), y] ∧ H' = upd H z (.tup [.int 0, .int 1]) ∧ 0 ≤ lo ∧ 0 < hi ∧ lo.toNat = k ∧ Int.gcd hi lo = 1 ∧ m ∣ hf * x - hi ∧ m ∣ lf * x - lo ∧
    -A ≤ hf ∧ hf ≤ A ∧ -B ≤ lf ∧ lf ≤ B ∧ 0 ≤ A ∧ 0 ≤ B ∧ A * lo + B * hi = m ∧ hi ≤ m ∧ lo ≤ m, ⟨(x % m).toNat, m, x % m, 0, 1, 0, 1, none, rfl, rfl, xr.1, m0, rfl, ?_, ⟨-1, by omega⟩, ⟨x / m, ?_⟩, by omega, by omega, by omega, by omega, by omega, by omega, by omega, by omega, by omega⟩, ?_⟩
  · rw [gcd_step x0 m0]; exact hg
  · have := Int.mul_ediv_add_emod x m
    omega
  rintro k σ H' ⟨hi, lo, hf, lf, A, B, y, rfl, rfl, l0, h0, hk, gg, d1, d2, a1, a2, b1, b2, A0, B0, hm, him, lm⟩
  refine ⟨_, rfl, rfl, _, rfl, ifNI (fun nb => ?_) (fun nb => ?_)⟩
  · have lp : 0 < lo := by omega
    have mr := mod_bd hi lp
    have dv := Int.mul_ediv_add_emod hi lo
    have q0 : 0 ≤ hi / lo := Int.ediv_nonneg (by omega) l0
    have qh : hi / lo ≤ hi := Int.ediv_le_self _ (by omega)
    obtain ⟨qq, eqq⟩ : ∃ qq, qq = hi / lo := ⟨_, rfl⟩
    rw [← eqq] at dv q0 qh
    have e3 : hi - qq * lo = hi % lo := by rw [Int.mul_comm qq lo]; omega
    have Bm : B ≤ m := by
      have h1 := mul_bd B0 (Int.le_refl B) (show (0:Int) ≤ 1 by decide) (show (1:Int) ≤ hi by omega)
      have h2 := Int.mul_nonneg A0 l0
      have h3 := Int.mul_le_mul_of_nonneg_left (show (1:Int) ≤ hi by omega) B0
      omega
    refine ⟨fun σ' H1 => ∃ k', k' < k ∧ ∃ (hi lo hf lf A B : Int) (y : Option V), σ' = [some (.int x), some (.int m), some (.int hi), some (.int lo), some (.int hf), some (.int lf), y] ∧ H1 = upd H z (.tup [.int 0, .int 1]) ∧ 0 ≤ lo ∧ 0 < hi ∧ lo.toNat = k' ∧ Int.gcd hi lo = 1 ∧ m ∣ hf * x - hi ∧ m ∣ lf * x - lo ∧
      -A ≤ hf ∧ hf ≤ A ∧ -B ≤ lf ∧ lf ≤ B ∧ 0 ≤ A ∧ 0 ≤ B ∧ A * lo + B * hi = m ∧ hi ≤ m ∧ lo ≤ m, fun _ _ z => z, ?_⟩
    have qB := Int.mul_nonneg q0 B0
    have ab1 : -(qq * B) ≤ qq * lf := by have := Int.mul_le_mul_of_nonneg_left b1 q0; rw [Int.mul_neg] at this; exact this
    have ab2 : qq * lf ≤ qq * B := Int.mul_le_mul_of_nonneg_left b2 q0
    have f1 : m ∣ (hf - qq * lf) * x - (hi - qq * lo) := by
      obtain ⟨c1, e1⟩ := d1
      obtain ⟨c2, e2⟩ := d2
      exact ⟨c1 - qq * c2, by grind⟩
    have f2 : B * (hi - qq * lo) + (A + qq * B) * lo = m := by rw [← hm]; grind
    have f3 : Int.gcd lo (hi - qq * lo) = 1 := by rw [e3, gcd_step (by omega) lp]; exact gg
    have g1 : 0 ≤ hi - qq * lo ∧ hi - qq * lo < lo := by omega
    have g2 : -(A + qq * B) ≤ hf - qq * lf ∧ hf - qq * lf ≤ A + qq * B ∧ 0 ≤ A + qq * B := by omega
    have g3 : Big qq ∧ Big lo ∧ Big lf := by unfold Big; omega
    subst eqq
    refine ⟨_, rfl, _, rfl, _, _, rfl, rfl, ⟨lp, by omega⟩, ?_⟩
    refine ⟨_, rfl, _, rfl, _, rfl, _, rfl, _, _, rfl, rfl, ⟨g3.1, g3.2.1⟩, _, _, rfl, rfl, _, _, rfl, ?_⟩
    refine ⟨_, rfl, _, rfl, _, rfl, _, rfl, _, _, rfl, rfl, ⟨g3.1, g3.2.2⟩, _, _, rfl, rfl, _, _, rfl, ?_⟩
    refine ⟨(hi - hi / lo * lo).toNat, by omega, lo, hi - hi / lo * lo, lf, hf - hi / lo * lf, B, A + hi / lo * B, some (.int (hi / lo)), rfl, rfl, g1.1, lp, rfl, f3, d2, f1, b1, b2, g2.1, g2.2.1, B0, g2.2.2, f2, lm, by omega⟩
  · subst nb
    rw [Int.gcd_zero_right] at gg
    have h1 : hi = 1 := by omega
    subst h1
    have vr := mod_bd hf m0
    refine ⟨_, rfl, _, rfl, _, _, rfl, rfl, m0, q _ _ (same_new nz) vr.1 vr.2 ?_⟩
    rw [Int.mul_emod, Int.emod_emod, ← Int.mul_emod]
    obtain ⟨c1, e1⟩ := d1
    rw [show x * hf = 1 + m * c1 by grind, Int.add_mul_emod_self_left]
end
end Tw


namespace Tw
open PySem PySem.Spec PyProof.Rows L2
abbrev s_before : Stmt := topS 12
theorem sc_before : FnScope ["rule", "number", "times", "plus", "bound", "shared", "apart", "least"] ["rule", "number"] (defScope s_before) := ⟨rfl, rfl, rfl, by decide +kernel, rfl, by decide +kernel, by decide +kernel⟩
section
variable {P : Program} {w : World} {K : PySem.W.Frag} {mg : Str → Option Value} {base : Heap}
theorem ok_before {CN : Addr} (D : Top K mg "before" s_before ["rule", "number"]) (h_check_number : Has P w K mg base (L2.CX P w) 3 "check_number" ["number", "bound"] (sp2 (pCheck CN))) (h_common_divisor : Has P w K mg base CX0 1 "common_divisor" ["one", "other"] (sp2 pGcd)) (h_inverse : Has P w K mg base CX0 1 "inverse" ["number", "bound"] (sp2 pInv)) :
    Has P w K mg base (L2.CX P w) 4 "before" ["rule", "number"] (sp2 (pBefore K CN)) := by
  refine D.ok2X sc_before (fun f cdv A outer s H v1 v2 Q E hr h => ?_)
  obtain ⟨r, t, p, m, n, rfl, rfl, h1, R, eN, q0, q1⟩ := h
  refine ⟨_, (pss_cons (ps_asg (pv 0) (pg_tup rfl (pgs_cons (pg_name (i := 2) sc_before.nd rfl (.inl rfl)) (pgs_cons (pg_name (i := 3) sc_before.nd rfl (.inl rfl)) (pgs_cons (pg_name (i := 4) sc_before.nd rfl (.inl rfl)) pgs_nil)))))
 (pss_cons (ps_expr (pe_own h_check_number (hr.mono (by decide)) (passes_call (takes_of rfl rfl rfl rfl) (fun _ _ _ _ z => z)) (pa_cons (pv 1) (pa_cons (pv 4) pa_nil))))
 (pss_cons (ps_set (i := 5) sc_before.nd rfl (.inl rfl) (pe_own h_common_divisor (hr.mono (by decide)) pass0 (pa_cons (pv 2) (pa_cons (pv 4) pa_nil))))
 (pss_cons (ps_if (pt_cmpR op_ne (pe_op op_mod (pe_op op_sub (pv 1) (pv 3)) (pv 5)) pe_int (nomark _)) (pss_one (ps_ret (pe_tup (pa_cons pe_int (pa_cons pe_non pa_nil))))) pss_nil)
 (pss_cons (ps_set (i := 6) sc_before.nd rfl (.inl rfl) (pe_op op_fdivB (pv 4) (pv 5)))
 (pss_cons (ps_set (i := 7) sc_before.nd rfl (.inl rfl) (pe_op op_mod (pe_op op_mulB (pe_op op_fdivB (pe_op op_sub (pv 1) (pv 3)) (pv 5)) (pe_own h_inverse (hr.mono (by decide)) pass0 (pa_cons (pe_op op_fdivB (pv 2) (pv 5)) (pa_cons (pv 6) pa_nil)))) (pv 6)))
 (pss_one (ps_ret (pe_tup (pa_cons (pv 5) (pa_cons (pv 7) pa_nil))))))))))), ?_⟩
  have m0 : 0 < m := by have := R.b1; omega
  have t0 := R.t0
  have t1 := R.t1
  have p0 := R.p0
  have p1 := R.p1
  have b2 := R.b2
  have g0 := gcd_pos (t := t) m0
  obtain ⟨e1, e2, e3, e4⟩ := gcd_parts (t := t) m0
  have gm : (Int.gcd t m : Int) ≤ m := Int.le_of_dvd m0 (Int.gcd_dvd_right ..)
  refine ⟨_, rfl, r, _, rfl, h1, rfl, _, _, rfl, _, _, rfl, _, _, rfl, rfl, ?_⟩
  refine ⟨_, rfl, _, rfl, _, _, rfl, n, m, rfl, rfl, fun a0 a1 => ?_, eN⟩
  refine ⟨_, rfl, _, rfl, _, _, rfl, t, m, rfl, rfl, t0, by omega, ?_⟩
  refine ⟨_, rfl, _, rfl, _, _, rfl, rfl, _, rfl, _, _, rfl, rfl, g0, rfl, _, rfl, ifNI (fun nz => ?_) (fun z => ?_)⟩
  · exact ⟨by show 2 ≤ sizeLine; decide, fun u nu => q0 ⟨a0, a1⟩ nz _ u (same_new nu) nu upd_same⟩
  · have me : m / (Int.gcd t m : Nat) ≤ m := Int.ediv_le_self _ (by omega)
    have cb : -1000000000000 ≤ (n - p) / (Int.gcd t m : Nat) ∧ (n - p) / (Int.gcd t m : Nat) ≤ 1000000000000 := by
      constructor
      · rw [Int.le_ediv_iff_mul_le g0]
        have := mul_bd (show (0:Int) ≤ 1000000000000 by decide) (Int.le_refl _) (show (0:Int) ≤ 1 by decide) (show (1:Int) ≤ (Int.gcd t m : Nat) by omega)
        omega
      · exact Int.le_trans (Int.ediv_le_ediv g0 (show n - p ≤ 1000000000000 by omega)) (Int.ediv_le_self _ (by decide))
    have tp : 0 ≤ t / (Int.gcd t m : Nat) := Int.ediv_nonneg t0 (by omega)
    refine ⟨_, rfl, _, rfl, _, _, rfl, rfl, ⟨g0, by omega⟩, ?_⟩
    refine ⟨_, rfl, _, rfl, _, _, rfl, rfl, _, rfl, _, _, rfl, rfl, ⟨g0, by omega⟩, ?_⟩
    refine ⟨_, rfl, _, rfl, _, _, rfl, rfl, ⟨g0, by omega⟩, _, rfl, _, _, rfl, _, _, rfl, rfl, tp, e3, by omega, e4, fun H1 v s1 v0 v1 hv => ?_⟩
    refine ⟨_, _, rfl, rfl, ⟨by unfold Big; omega, by unfold Big; omega⟩, _, rfl, _, _, rfl, rfl, e3, ?_⟩
    refine ⟨_, rfl, _, rfl, by show 2 ≤ sizeLine; decide, fun u nu => ?_⟩
    exact q1 ⟨a0, a1⟩ z _ u _ (s1.trans (same_new nu)) (s1.free nu) (bef_of m0 a0 a1 z hv) upd_same
end
end Tw


namespace Tw
open PySem PySem.Spec PyProof.Rows L2
abbrev s_gaps_of : Stmt := topS 18
theorem sc_gaps_of : FnScope ["row", "number", "later"] ["row"] (defScope s_gaps_of) := ⟨rfl, rfl, rfl, by decide +kernel, rfl, by decide +kernel, by decide +kernel⟩
section
variable {P : Program} {w : World} {K : PySem.W.Frag} {mg : Str → Option Value} {base : Heap}
theorem ok_gaps_of (D : Top K mg "gaps_of" s_gaps_of ["row"]) (z_zip : mg "zip" = none) : Has P w K mg base CX0 1 "gaps_of" ["row"] (sp1 (pGapsOf K)) := by
  refine D.ok1 sc_gaps_of (fun f cdv A outer s H v1 Q E hr h => ?_)
  obtain ⟨r, xs, rfl, hS, hl, q⟩ := h
  refine ⟨_, (pss_one (ps_ret (pe_lc (own := [("number", 1), ("later", 2)]) (by rfl) sc_gaps_of.nd (pi_x2 (by rfl) z_zip (pa_cons (pv 0) (pa_cons (pe_slice sl_tupX (pv 0) (po_some pe_int) po_none) pa_nil))) (blkOk_by (own := [("number", 1), ("later", 2)]) (N := ["row", "number", "later"]) (sc := defScope s_gaps_of) (by decide +kernel)) (fun _ _ _ _ _ => tup_in (K := K) (n := 2) rfl rfl (pgs_cons (pg_name (i := 1) sc_gaps_of.nd rfl (Or.inl rfl)) (pgs_cons (pg_name (i := 2) sc_gaps_of.nd rfl (Or.inl rfl)) pgs_nil))) (fun _ _ _ _ _ => pts_nil) (fun _ _ _ _ _ => (pe_op op_sub (pv 2) (pv 1)))))), ?_⟩
  refine ⟨_, rfl, _, rfl, _, rfl, r, _, rfl, hS, fun H1 u s1 hu => ?_⟩
  rw [show (some (1 : Int)) = some ((1 : Nat) : Int) from rfl, cut_dropI] at hu
  refine ⟨true, true, r, u, _, _, rfl, s1.tup hS, hu, fun L nL => ?_⟩
  refine lc_it (walk_x2 (K := K) (t1 := true) (t2 := true) (a1 := r) (a2 := u) (l1 := xs.map V.int) (l2 := (xs.drop 1).map V.int) (n := xs.length - 1) (by rw [List.length_map, List.length_map, List.length_drop]; omega)) (fun j H' => ∃ H0, Same H1 H0 ∧ H0 L = none ∧ H' = upd H0 L (.lst (((List.range j).map (gat xs)).map V.int))) ⟨H1, fun _ _ z => z, nL, rfl⟩ ?_ ?_ ?_
  · rintro i H' _ ⟨H0, s0, n0, rfl⟩
    have s2 : Same H1 (upd H0 L (.lst (((List.range i).map (gat xs)).map V.int))) := s0.trans (same_new n0)
    exact ⟨s2.tup (s1.tup hS), s2.tup hu⟩
  · rintro i x H' H'' hi ⟨H0, s0, n0, rfl⟩ ⟨T, x1, x2, rfl, nT, rfl, g1, g2⟩
    obtain ⟨rfl, l1⟩ := vget g1
    obtain ⟨rfl, l2⟩ := vgetd g2
    have neT : L ≠ T := fun z => by rw [← z, upd_same] at nT; cases nT
    have nT0 : H0 T = none := by rw [upd_ne (Ne.symm neT)] at nT; exact nT
    refine ⟨T, _, rfl, SqT.of upd_same, rfl, _, _, rfl, _, _, rfl, rfl, rfl, yesX ?_⟩
    refine ⟨_, rfl, _, rfl, _, _, rfl, rfl, _, by rw [upd_ne neT, upd_same], szl (by rw [List.length_map, List.length_map, List.length_range]; omega), ?_⟩
    refine ⟨upd H0 T (.tup [.int (xs.getD i 0), .int (xs.getD (1 + i) 0)]), s0.trans (same_new nT0), by rw [upd_ne neT]; exact n0, ?_⟩
    rw [upd_swap neT, upd_upd, List.range_succ, List.map_append, List.map_append, show 1 + i = i + 1 by omega]
    rfl
  · rintro H' ⟨H0, s0, n0, rfl⟩
    exact q _ L (s1.trans (s0.trans (same_new n0))) (s1.free nL) upd_same
end
end Tw


namespace Tw
open PySem PySem.Spec PyProof.Rows L2
abbrev s_narrowed : Stmt := topS 19
theorem sc_narrowed : FnScope ["fit", "gap", "later", "bound", "least", "step", "many", "count"] ["fit", "gap", "later", "bound"] (defScope s_narrowed) := ⟨rfl, rfl, rfl, by decide +kernel, rfl, by decide +kernel, by decide +kernel⟩
abbrev s_fits_on_the_way : Stmt := topS 17
theorem sc_fits_on_the_way : FnScope ["row", "bound", "number", "gaps", "fits", "gap", "later"] ["row", "bound"] (defScope s_fits_on_the_way) := ⟨rfl, rfl, rfl, by decide +kernel, rfl, by decide +kernel, by decide +kernel⟩
abbrev s_times_that_fit : Stmt := topS 14
theorem sc_times_that_fit : FnScope ["row", "bound"] ["row", "bound"] (defScope s_times_that_fit) := ⟨rfl, rfl, rfl, by decide +kernel, rfl, by decide +kernel, by decide +kernel⟩
section
variable {P : Program} {w : World} {K : PySem.W.Frag} {mg : Str → Option Value} {base : Heap}
theorem ok_narrowed {CN : Addr} (D : Top K mg "narrowed" s_narrowed ["fit", "gap", "later", "bound"]) (h_before : Has P w K mg base (L2.CX P w) 4 "before" ["rule", "number"] (sp2 (pBefore K CN))) : Has P w K mg base CX0 5 "narrowed" ["fit", "gap", "later", "bound"] (sp4 pNarrow) := by
  refine D.ok4q sc_narrowed (fun f cdv A outer s H v1 v2 v3 v4 Q E hr h => ?_)
  obtain ⟨v, xs, k, m, rfl, rfl, rfl, rfl, hF, m1, m2, rg, q⟩ := h
  refine ⟨_, (pss_cons (ps_if (pt_cmpR op_isN (pv 0) pe_non (nomark _)) (pss_one (ps_ret pe_non)) pss_nil)
 (pss_cons (ps_asg (pv 0) (pg_tup rfl (pgs_cons (pg_name (i := 4) sc_narrowed.nd rfl (.inl rfl)) (pgs_cons (pg_name (i := 5) sc_narrowed.nd rfl (.inl rfl)) pgs_nil))))
 (pss_cons (ps_asg (pe_own h_before (hr.mono (by decide)) passL (pa_cons (pe_tup (pa_cons (pe_op op_mod (pe_op op_mulB (pv 5) (pv 1)) (pv 3)) (pa_cons (pe_op op_mod (pe_op op_mulB (pv 4) (pv 1)) (pv 3)) (pa_cons (pv 3) pa_nil)))) (pa_cons (pe_op op_mod (pv 2) (pv 3)) pa_nil))) (pg_tup rfl (pgs_cons (pg_name (i := 6) sc_narrowed.nd rfl (.inl rfl)) (pgs_cons (pg_name (i := 7) sc_narrowed.nd rfl (.inl rfl)) pgs_nil))))
 (pss_cons (ps_if (pt_cmpR op_eq (pv 6) pe_int (nomark _)) (pss_one (ps_ret pe_non)) pss_nil)
 (pss_one (ps_ret (pe_tup (pa_cons (pe_op op_add (pv 4) (pe_op op_mulB (pv 7) (pv 5))) (pa_cons (pe_op op_mulB (pe_op op_fdivB (pv 3) (pv 6)) (pv 5)) pa_nil))))))))), ?_⟩
  have m0 : 0 < m := by omega
  rcases hF with ⟨rfl, hF⟩ | ⟨a, l, st, rfl, ha, hF⟩
  · refine ⟨_, rfl, rfl, _, rfl, ifT rfl ?_⟩
    exact q H .non (fun _ _ z => z) (.inl ⟨rfl, fitR_none_mono hF (Nat.le_succ k)⟩) (fun q e => by cases e)
  have hF' := hF
  obtain ⟨s0, sd, l0, l1, _⟩ := hF'
  have sm : st ≤ m := Int.le_of_dvd m0 sd
  have g1 := gat_rng m0 rg k
  have g2 := gat_rng m0 rg (k + 1)
  have t1 := mod_bd (st * gat xs k) m0
  have p1 := mod_bd (l * gat xs k) m0
  have n1 := mod_bd (gat xs (k + 1)) m0
  refine ⟨_, rfl, rfl, _, rfl, ifF rfl ?_⟩
  refine ⟨_, rfl, a, _, rfl, SqT.of ha, rfl, _, _, rfl, _, _, rfl, rfl, ?_⟩
  refine ⟨_, rfl, _, rfl, _, _, rfl, rfl, ⟨by unfold Big; omega, by unfold Big; omega⟩, _, rfl, _, _, rfl, rfl, m0, ?_⟩
  refine ⟨_, rfl, _, rfl, _, _, rfl, rfl, ⟨by unfold Big; omega, by unfold Big; omega⟩, _, rfl, _, _, rfl, rfl, m0, _, rfl, by show 3 ≤ sizeLine; decide, fun u nu => ?_⟩
  have su := same_new (o := .tup [.int (st * gat xs k % m), .int (l * gat xs k % m), .int m]) nu
  refine ⟨_, rfl, _, rfl, _, _, rfl, rfl, m0, _, _, rfl, u, st * gat xs k % m, l * gat xs k % m, m, gat xs (k + 1) % m, rfl, rfl, SqT.of upd_same, ⟨m1, m2, t1.1, t1.2, p1.1, p1.2⟩, fun z => absurd n1 z, fun _ hz => ?_, fun _ hz => ?_⟩
  · intro H1 z s1 nz hz1
    refine ⟨z, _, rfl, SqT.of hz1, rfl, _, _, rfl, _, _, rfl, rfl, ?_⟩
    refine ⟨_, rfl, rfl, _, rfl, ifI (fun _ => ?_) (fun e => absurd rfl e)⟩
    exact q H1 .non (su.trans s1) (.inl ⟨rfl, fit_none m0 hF hz⟩) (fun q e => by cases e)
  · intro H1 z x s1 nz hB hz1
    have gp := gcd_pos (t := st * gat xs k % m) m0
    have gm : (Int.gcd (st * gat xs k % m) m : Int) ≤ m := Int.le_of_dvd m0 (Int.gcd_dvd_right ..)
    have B0 := hB.1
    have B1 := hB.2.1
    have dm : m / (Int.gcd (st * gat xs k % m) m : Nat) ≤ m := Int.ediv_le_self _ (by omega)
    have d0 : 0 ≤ m / (Int.gcd (st * gat xs k % m) m : Nat) := Int.ediv_nonneg (by omega) (by omega)
    refine ⟨z, _, rfl, SqT.of hz1, rfl, _, _, rfl, _, _, rfl, rfl, ?_⟩
    refine ⟨_, rfl, rfl, _, rfl, ifI (fun e => by omega) (fun e => ?_)⟩
    refine ⟨_, rfl, _, rfl, _, rfl, _, _, rfl, rfl, ⟨by unfold Big; omega, by unfold Big; omega⟩, _, _, rfl, rfl, ?_⟩
    refine ⟨_, rfl, _, rfl, _, _, rfl, rfl, ⟨gp, by omega⟩, _, rfl, _, _, rfl, rfl, ⟨by unfold Big; omega, by unfold Big; omega⟩, by show 2 ≤ sizeLine; decide, fun y ny => ?_⟩
    have s2 := su.trans s1
    refine q _ (.ref y) (s2.trans (same_new ny)) (.inr ⟨y, _, _, rfl, upd_same, fit_some m0 hF hB⟩) (fun q e => by cases e; exact s2.free ny)
theorem ok_fits_on_the_way {CN : Addr} (D : Top K mg "fits_on_the_way" s_fits_on_the_way ["row", "bound"]) (h_check_number : Has P w K mg base (L2.CX P w) 3 "check_number" ["number", "bound"] (sp2 (pCheck CN))) (h_gaps_of : Has P w K mg base CX0 1 "gaps_of" ["row"] (sp1 (pGapsOf K))) (h_narrowed : Has P w K mg base CX0 5 "narrowed" ["fit", "gap", "later", "bound"] (sp4 pNarrow)) (z_zip : mg "zip" = none) :
    Has P w K mg base (L2.CX P w) 6 "fits_on_the_way" ["row", "bound"] (sp2 (pFits K CN)) := by
  refine D.ok2X sc_fits_on_the_way (fun f cdv A outer s H v1 v2 Q E hr h => ?_)
  obtain ⟨r, xs, m, rfl, rfl, hS, m1, m2, hl, q, eB⟩ := h
  refine ⟨_, (pss_cons (ps_for (passes_of rfl) rfl (pi_tup (pv 0)) (pg_name (i := 2) sc_fits_on_the_way.nd rfl (.inl rfl)) (pss_one (ps_expr (pe_own h_check_number (hr.mono (by decide)) (passes_call (takes_of rfl rfl rfl rfl) (fun _ _ _ _ z => z)) (pa_cons (pv 2) (pa_cons (pv 1) pa_nil))))))
 (pss_cons (ps_set (i := 3) sc_fits_on_the_way.nd rfl (.inl rfl) (pe_own h_gaps_of (hr.mono (by decide)) pass0 (pa_cons (pv 0) pa_nil)))
 (pss_cons (ps_set (i := 4) sc_fits_on_the_way.nd rfl (.inl rfl) (pe_lst (pa_cons (pe_tup (pa_cons pe_int (pa_cons pe_int pa_nil))) pa_nil)))
 (pss_cons (ps_for (passes_of rfl) rfl (pi_x2 (by rfl) z_zip (pa_cons (pv 3) (pa_cons (pe_slice sl_list (pv 3) (po_some pe_int) po_none) pa_nil))) (pg_tup rfl (pgs_cons (pg_name (i := 5) sc_fits_on_the_way.nd rfl (.inl rfl)) (pgs_cons (pg_name (i := 6) sc_fits_on_the_way.nd rfl (.inl rfl)) pgs_nil))) (pss_one (ps_expr (pe_bm PySem.F.plainAttrs_list PySem.F.slot_list_append PySem.F.type_list_append mt_append (pv 4) (pa_cons (pe_own h_narrowed (hr.mono (by decide)) pass0 (pa_cons (pe_ix ix_list (pv 4) (pe_un un_neg pe_int) (fun _ _ => rfl)) (pa_cons (pv 5) (pa_cons (pv 6) (pa_cons (pv 1) pa_nil))))) pa_nil)))))
 (pss_one (ps_ret (pv 4))))))), ?_⟩
  have m0 : 0 < m := by omega
  refine ⟨_, rfl, r, rfl, ⟨_, hS⟩, ?_⟩
  refine for_it (walk_tup (K := K) (a := r) (xs := xs.map V.int)) (fun i σ H' => ∃ (y : Option V), σ = [some (.ref r), some (.int m), y, none, none, none, none] ∧ H' = H ∧ ∀ j, j < i → 0 ≤ xs.getD j 0 ∧ xs.getD j 0 < m) ⟨none, rfl, rfl, fun j hj => absurd hj (Nat.not_lt_zero _)⟩ ?_ ?_ ?_
  · rintro i σ H' _ ⟨y, rfl, rfl, _⟩
    exact hS
  · rintro i x σ H' H'' hi ⟨y, rfl, rfl, ih⟩ ⟨rfl, hx⟩
    obtain ⟨rfl, li⟩ := vget hx
    refine ⟨_, rfl, _, rfl, _, _, rfl, xs.getD i 0, m, rfl, rfl, fun a0 a1 => ?_, fun nb => eB i ⟨li, nb, ih⟩⟩
    refine ⟨_, rfl, rfl, fun j hj => ?_⟩
    by_cases e : j = i
    · rw [e]; exact ⟨a0, a1⟩
    · exact ih j (by omega)
  rintro σ H' ⟨y, rfl, rfl, ih⟩
  rw [List.length_map] at ih
  have rg : Rng m xs := by
    rcases rng_or_bad m xs with h | ⟨i, h⟩
    · exact h
    · exact absurd (ih i h.1) h.2.1
  refine ⟨_, rfl, _, rfl, r, xs, rfl, hS, hl, fun H1 l s1 nl h1 => ?_⟩
  refine ⟨by show 2 ≤ sizeLine; decide, fun p np => ?_⟩
  have s2 := same_new (o := .tup [.int 0, .int 1]) np
  refine ⟨by show 1 ≤ sizeLine; decide, fun fi nfi => ?_⟩
  have s3 := same_new (o := .lst [.ref p]) nfi
  refine ⟨_, rfl, _, rfl, _, rfl, l, _, rfl, SqL.of (s3 _ _ (s2 _ _ h1)), fun l2 nl2 => ?_⟩
  rw [show (some (1 : Int)) = some ((1 : Nat) : Int) from rfl, cut_dropI]
  have s4 := same_new (o := .lst (((gp xs).drop 1).map V.int)) nl2
  have hp4 : (upd (upd (upd H1 p (.tup [.int 0, .int 1])) fi (.lst [.ref p])) l2 (.lst (((gp xs).drop 1).map V.int))) p = some (.tup [.int 0, .int 1]) := s4 _ _ (s3 _ _ upd_same)
  have hf4 : (upd (upd (upd H1 p (.tup [.int 0, .int 1])) fi (.lst [.ref p])) l2 (.lst (((gp xs).drop 1).map V.int))) fi = some (.lst [.ref p]) := s4 _ _ upd_same
  have hl4 := s4 _ _ (s3 _ _ (s2 _ _ h1))
  have hm4 : (upd (upd (upd H1 p (.tup [.int 0, .int 1])) fi (.lst [.ref p])) l2 (.lst (((gp xs).drop 1).map V.int))) l2 = some (.lst (((gp xs).drop 1).map V.int)) := upd_same
  have sA : Same H1 (upd (upd (upd H1 p (.tup [.int 0, .int 1])) fi (.lst [.ref p])) l2 (.lst (((gp xs).drop 1).map V.int))) := s2.trans (s3.trans s4)
  have nfi1 : H1 fi = none := s2.free nfi
  have nfil2' : fi ≠ l2 := ne_of_none (upd_same (H := upd H1 p (.tup [.int 0, .int 1])) (a := fi) (o := .lst [.ref p])) nl2
  generalize upd (upd (upd H1 p (.tup [.int 0, .int 1])) fi (.lst [.ref p])) l2 (.lst (((gp xs).drop 1).map V.int)) = H4 at hp4 hf4 hl4 hm4 sA
  have gl := gp_len xs
  have nfil : l ≠ fi := ne_of_none h1 nfi1
  have nfil2 : l2 ≠ fi := Ne.symm nfil2'
  refine ⟨false, false, l, l2, _, _, rfl, SqL.of hl4, SqL.of hm4, ?_⟩
  refine for_it (walk_x2 (K := K) (t1 := false) (t2 := false) (a1 := l) (a2 := l2) (l1 := (gp xs).map V.int) (l2 := ((gp xs).drop 1).map V.int) (n := xs.length - 2) (by simp only [List.length_map, List.length_drop, gl]; omega))
    (fun i σ H' => ∃ (y1 y2 : Option V) (vs : List V), σ = [some (.ref r), some (.int m), y, some (.ref l), some (.ref fi), y1, y2] ∧ (∀ b o, b ≠ fi → H4 b = some o → H' b = some o) ∧ H' fi = some (.lst vs) ∧ vs.length = i + 1 ∧ i ≤ xs.length - 2 ∧ FitsV m xs H' vs ∧ ∀ z, .ref z ∈ vs → H1 z = none) ?_ ?_ ?_ ?_
  · refine ⟨none, none, [.ref p], rfl, fun _ _ _ z => z, hf4, rfl, by omega, fun j v hv => ?_, fun z hz => ?_⟩
    · cases j with
      | zero =>
        cases hv
        exact .inr ⟨p, 0, 1, rfl, hp4, fitR_zero m0 xs⟩
      | succ j => cases hv
    · cases (List.mem_singleton.mp hz)
      exact np
  · rintro i σ H' _ ⟨y1, y2, vs, rfl, sm, hfi, _⟩
    exact ⟨SqL.of (sm _ _ nfil hl4), SqL.of (sm _ _ nfil2 hm4)⟩
  · rintro i x σ H' H'' hi ⟨y1, y2, vs, rfl, sm, hfi, lv, _, fv, nv⟩ ⟨T, x1, x2, rfl, nT, rfl, k1, k2⟩
    obtain ⟨rfl, b1⟩ := vget k1
    obtain ⟨rfl, b2⟩ := vgetd k2
    rw [gp_D (by omega), gp_D (by omega)]
    have sT := same_new (o := .tup [.int (gat xs i), .int (gat xs (1 + i))]) nT
    obtain ⟨vt, vl, rfl⟩ : ∃ vt vl, vs = vt ++ [vl] := by
      have : vs ≠ [] := fun z => by rw [z] at lv; exact absurd lv (by simp)
      exact ⟨vs.dropLast, vs.getLast this, (List.dropLast_concat_getLast this).symm⟩
    have lvt : vt.length = i := by rw [List.length_append] at lv; simp at lv; exact lv
    have fvl : FitV m xs i H' vl := fv i vl (by rw [List.getElem?_append_right (by omega), lvt, Nat.sub_self]; rfl)
    have hfiT := sT _ _ hfi
    refine ⟨T, _, rfl, SqT.of upd_same, rfl, _, _, rfl, _, _, rfl, rfl, ?_⟩
    refine ⟨_, rfl, .inl ⟨rfl, _, SqL.of hfiT⟩, _, rfl, _, rfl, fi, _, -1, _, rfl, rfl, SqL.of hfiT, atI_last _ _, _, rfl, _, rfl, _, rfl, _, _, _, _, rfl, vl, xs, i, m, rfl, rfl, by rw [show i + 1 = 1 + i by omega], rfl, fvl.same sT, m1, m2, rg, fun H2 v' s5 fv' nv' => ?_⟩
    have hfi2 := s5 _ _ hfiT
    refine ⟨fi, _, v', rfl, rfl, hfi2, szl (by rw [lv]; omega), ?_⟩
    have nfr : ∀ q, v' = .ref q → q ≠ fi := fun q e z => by
      have := nv' q e
      rw [z, hfiT] at this
      cases this
    refine ⟨_, _, vt ++ [vl] ++ [v'], rfl, fun b o nb hb => ?_, upd_same, ?_, by omega, fun j v hv => ?_, fun z hz => ?_⟩
    · rw [upd_ne nb]
      exact s5 _ _ (sT _ _ (sm _ _ nb hb))
    · rw [List.length_append, lv]
      rfl
    · have keep : ∀ v j, FitV m xs j H2 v → (∀ q, v = .ref q → q ≠ fi) → FitV m xs j (upd H2 fi (.lst (vt ++ [vl] ++ [v']))) v := fun v j h hn => by
        rcases h with h | ⟨q, l0, st, e, hq, rr⟩
        · exact .inl h
        · exact .inr ⟨q, l0, st, e, by rw [upd_ne (hn q e)]; exact hq, rr⟩
      by_cases e : j < (vt ++ [vl]).length
      · rw [List.getElem?_append_left e] at hv
        refine keep v j ((fv j v hv).same (sT.trans s5)) (fun q eq z => ?_)
        have h1 := nv q (by rw [← eq]; exact List.mem_of_getElem? hv)
        rw [z, nfi1] at h1
        subst z
        rcases fv j v hv with ⟨e1, _⟩ | ⟨q', _, _, e1, hq', _⟩
        · rw [eq] at e1; cases e1
        · rw [eq] at e1
          cases e1
          rw [hfi] at hq'
          cases hq'
      · have ej : j = i + 1 := by
          have := (List.getElem?_eq_some_iff.mp hv).1
          rw [List.length_append, lv] at this
          simp at this
          omega
        subst ej
        rw [List.getElem?_append_right (by omega), lv, Nat.sub_self] at hv
        cases hv
        exact keep v' (i + 1) fv' nfr
    · rcases List.mem_append.mp hz with hz | hz
      · exact nv z hz
      · have ez := List.mem_singleton.mp hz
        have h2 := nv' z ez.symm
        have h3 : H' z = none := sT.free h2
        cases e4 : H1 z with
        | none => rfl
        | some o =>
          have nz : z ≠ fi := nfr z ez.symm
          have := sm z o nz (sA _ _ e4)
          rw [h3] at this
          cases this
  · rintro σ H' ⟨y1, y2, vs, rfl, sm, hfi, lv, _, fv, nv⟩
    have sf : Same H1 H' := fun b o hb => sm b o (ne_of_none hb nfi1) (sA _ _ hb)
    exact ⟨_, rfl, q rg _ fi vs (s1.trans sf) (s1.free nfi1) hfi lv fv (fun z hz => s1.free (nv z hz))⟩
theorem ok_times_that_fit {CN : Addr} (D : Top K mg "times_that_fit" s_times_that_fit ["row", "bound"]) (h_fits_on_the_way : Has P w K mg base (L2.CX P w) 6 "fits_on_the_way" ["row", "bound"] (sp2 (pFits K CN))) :
    Has P w K mg base (L2.CX P w) 7 "times_that_fit" ["row", "bound"] (sp2 (pTimes K CN)) := by
  refine D.ok2X sc_times_that_fit (fun f cdv A outer s H v1 v2 Q E hr h => ?_)
  obtain ⟨r, xs, m, rfl, rfl, hS, m1, m2, hl, q, eB⟩ := h
  refine ⟨_, (pss_one (ps_ret (pe_ix ix_list (pe_own h_fits_on_the_way (hr.mono (by decide)) (passes_call (takes_of rfl rfl rfl rfl) (fun _ _ _ _ z => z)) (pa_cons (pv 0) (pa_cons (pv 1) pa_nil))) (pe_un un_neg pe_int) (fun _ _ => rfl)))), ?_⟩
  refine ⟨_, rfl, _, rfl, _, _, rfl, r, xs, m, rfl, rfl, hS, m1, m2, hl, fun rg H1 l vs s1 nl h1 lv fv nv => ?_, eB⟩
  obtain ⟨vt, vl, rfl⟩ : ∃ vt vl, vs = vt ++ [vl] := by
    have : vs ≠ [] := fun z => by rw [z] at lv; exact absurd lv (by simp)
    exact ⟨vs.dropLast, vs.getLast this, (List.dropLast_concat_getLast this).symm⟩
  have lvt : vt.length = xs.length - 2 := by rw [List.length_append] at lv; simp at lv; exact lv
  refine ⟨_, rfl, l, _, -1, _, rfl, rfl, SqL.of h1, atI_last _ _, ?_⟩
  exact q rg _ vl s1 (fv _ vl (by rw [List.getElem?_append_right (by omega), lvt, Nat.sub_self]; rfl)) (fun z e => nv z (by rw [e]; simp))
end
end Tw


namespace Tw
open PySem PySem.Spec PyProof.Rows L2
abbrev s_rules_that_fit : Stmt := topS 15
theorem sc_rules_that_fit : FnScope ["row", "bound", "many", "fit", "least", "step", "end", "place", "times"] ["row", "bound", "many"] (defScope s_rules_that_fit) := ⟨rfl, rfl, rfl, by decide +kernel, rfl, by decide +kernel, by decide +kernel⟩
section
variable {P : Program} {w : World} {K : PySem.W.Frag} {mg : Str → Option Value} {base : Heap}
theorem ok_rules_that_fit {CN : Addr} (D : Top K mg "rules_that_fit" s_rules_that_fit ["row", "bound", "many"]) (h_times_that_fit : Has P w K mg base (L2.CX P w) 7 "times_that_fit" ["row", "bound"] (sp2 (pTimes K CN))) (z_len : mg "len" = none) (z_min : mg "min" = none) (z_range : mg "range" = none) :
    Has P w K mg base (L2.CX P w) 8 "rules_that_fit" ["row", "bound", "many"] (sp3 (pRules K CN)) := by
  refine D.ok3X sc_rules_that_fit (fun f cdv A outer s H v1 v2 v3 Q E hr h => ?_)
  obtain ⟨r, xs, m, n, rfl, rfl, rfl, hS, m1, m2, n0, n1, x2, hl, q, eB⟩ := h
  refine ⟨_, (pss_cons (ps_set (i := 3) sc_rules_that_fit.nd rfl (.inl rfl) (pe_own h_times_that_fit (hr.mono (by decide)) (passes_call (takes_of rfl rfl rfl rfl) (fun _ _ _ _ z => z)) (pa_cons (pv 0) (pa_cons (pv 1) pa_nil))))
 (pss_cons (ps_if (pt_cmpR op_isN (pv 3) pe_non (nomark _)) (pss_one (ps_ret (pe_lst pa_nil))) pss_nil)
 (pss_cons (ps_if (pt_cmpR op_lt (pe_callB (id := "len") call_len_seq (by rfl) z_len (by decide +kernel) (pa_cons (pv 0) pa_nil)) pe_int (nomark _)) (pss_one (ps_ret (pe_lc (own := [("place", 7)]) (by rfl) sc_rules_that_fit.nd (pi_range1 (by rfl) z_range (pa_cons (pe_callB (id := "min") (call_min2 rfl) (by rfl) z_min (by decide +kernel) (pa_cons (pv 2) (pa_cons (pe_op op_mulB (pv 1) (pv 1)) pa_nil))) pa_nil)) (blkOk_by (own := [("place", 7)]) (N := ["row", "bound", "many", "fit", "least", "step", "end", "place", "times"]) (sc := defScope s_rules_that_fit) (by decide +kernel)) (fun _ _ _ _ _ => pg_name (i := 7) sc_rules_that_fit.nd rfl (Or.inl rfl)) (fun _ _ _ _ _ => pts_nil) (fun _ _ _ _ _ => (pe_tup (pa_cons (pe_op op_fdivB (pv 7) (pv 1)) (pa_cons (pe_op op_mod (pv 7) (pv 1)) (pa_cons (pv 1) pa_nil)))))))) pss_nil)
 (pss_cons (ps_asg (pv 3) (pg_tup rfl (pgs_cons (pg_name (i := 4) sc_rules_that_fit.nd rfl (.inl rfl)) (pgs_cons (pg_name (i := 5) sc_rules_that_fit.nd rfl (.inl rfl)) pgs_nil))))
 (pss_cons (ps_set (i := 6) sc_rules_that_fit.nd rfl (.inl rfl) (pe_callB (id := "min") (call_min2 rfl) (by rfl) z_min (by decide +kernel) (pa_cons (pv 1) (pa_cons (pe_op op_add (pv 4) (pe_op op_mulB (pv 5) (pv 2))) pa_nil))))
 (pss_one (ps_ret (pe_lc (own := [("times", 8)]) (by rfl) sc_rules_that_fit.nd (pi_rangeS (by rfl) z_range (pa_cons (pv 4) (pa_cons (pv 6) (pa_cons (pv 5) pa_nil)))) (blkOk_by (own := [("times", 8)]) (N := ["row", "bound", "many", "fit", "least", "step", "end", "place", "times"]) (sc := defScope s_rules_that_fit) (by decide +kernel)) (fun _ _ _ _ _ => pg_name (i := 8) sc_rules_that_fit.nd rfl (Or.inl rfl)) (fun _ _ _ _ _ => pts_nil) (fun _ _ _ _ _ => (pe_tup (pa_cons (pv 8) (pa_cons (pe_op op_mod (pe_op op_sub (pe_ix (ix_tup : IxR _ (rIxT K)) (pv 0) pe_int (fun _ _ => rfl)) (pe_op op_mulB (pv 8) (pe_ix (ix_tup : IxR _ (rIxT K)) (pv 0) pe_int (fun _ _ => rfl)))) (pv 1)) (pa_cons (pv 1) pa_nil))))))))))))), ?_⟩
  have m0 : 0 < m := by omega
  refine ⟨_, rfl, _, rfl, _, _, rfl, r, xs, m, rfl, rfl, hS, m1, m2, hl, fun rg H1 v s1 fv _ => ?_, eB⟩
  have hr1 := s1.tup hS
  rcases fv with ⟨rfl, fo⟩ | ⟨a, l, st, rfl, ha, fo⟩
  · refine ⟨_, rfl, rfl, _, rfl, ifT rfl ?_⟩
    refine ⟨by show 0 ≤ sizeLine; decide, fun L nL => ?_⟩
    exact q rg _ L [] none (s1.trans (same_new nL)) (s1.free nL) upd_same (TRows.nil _) fo
  have fo' := fo
  obtain ⟨s0, sd, l0, l1, _⟩ := fo'
  have sm : st ≤ m := Int.le_of_dvd m0 sd
  refine ⟨_, rfl, rfl, _, rfl, ifF rfl ?_⟩
  refine ⟨_, rfl, r, _, rfl, .inr hr1, _, _, rfl, rfl, _, rfl, ifD (fun z => absurd z (by rw [List.length_map]; omega)) (fun _ => ?_)⟩
  refine ⟨_, rfl, a, _, rfl, SqT.of ha, rfl, _, _, rfl, _, _, rfl, rfl, ?_⟩
  have mb := mul_bd (show 0 ≤ st by omega) sm n0 n1
  refine ⟨_, rfl, _, rfl, _, rfl, _, rfl, _, _, rfl, rfl, ⟨by unfold Big; omega, by unfold Big; omega⟩, _, _, rfl, rfl, _, _, rfl, ?_⟩
  have hc := rg_count m0 s0 sd l0 l1 n0
  have mm : m / st ≤ m := Int.ediv_le_self _ (by omega)
  refine ⟨_, rfl, _, rfl, _, rfl, _, _, _, rfl, ⟨s0, by omega, by omega, by omega, ?_, ?_⟩, fun L nL => ?_⟩
  · split <;> omega
  · split <;> omega
  rw [hc]
  have cn : ((min n (m / st)).toNat : Int) ≤ 3000 := by omega
  generalize hN : (min n (m / st)).toNat = N at cn
  have g0 := getD_rng m0 rg 0
  have g1 := getD_rng m0 rg 1
  refine lc_it (walk_rangeC (lo := l) (c := st) (n := N)) (fun j H' => ∃ ps : List Addr, H' L = some (.lst (ps.map V.ref)) ∧ TRows H' ps (rulesN m xs l st j) ∧ Same H1 H' ∧ j ≤ N) ⟨[], upd_same, TRows.nil _, same_new nL, by omega⟩ (fun _ _ _ _ => trivial) ?_ ?_
  · rintro j x H' H'' hj ⟨ps, hL, T, sm', _⟩ ⟨rfl, rfl⟩
    have js : (j : Int) * st ≤ 3000 * 1000000000000 := (mul_bd (show (0:Int) ≤ (j : Int) by omega) (show (j : Int) ≤ 3000 by omega) (show 0 ≤ st by omega) (show st ≤ 1000000000000 by omega)).2
    have js0 := Int.mul_nonneg (show (0:Int) ≤ (j : Int) by omega) (show 0 ≤ st by omega)
    refine ⟨rfl, yesX ?_⟩
    have hr2 := sm'.tup hr1
    refine ⟨_, rfl, _, rfl, r, _, 1, _, rfl, rfl, hr2, atD (n := 1) rfl (by omega), _, rfl, _, rfl, r, _, 0, _, rfl, rfl, hr2, atD (n := 0) rfl (by omega), _, _, rfl, rfl, ⟨by unfold Big; omega, by unfold Big; omega⟩, _, _, rfl, rfl, _, rfl, _, _, rfl, rfl, m0, _, rfl, by show 3 ≤ sizeLine; decide, fun p np => ?_⟩
    have sp := same_new (o := .tup [.int (l + (j : Int) * st), .int ((xs.getD 1 0 - (l + (j : Int) * st) * xs.getD 0 0) % m), .int m]) np
    have hL2 := sp _ _ hL
    have lp : ps.length = j := T.1.trans (rulesN_len ..)
    refine ⟨_, hL2, szl (by rw [List.length_map, lp]; omega), ps ++ [p], ?_, ?_, ?_, by omega⟩
    · rw [upd_same, List.map_append]
      rfl
    · rw [rulesN_succ]
      exact ((T.same sp).snoc (p := p) (r := ruleOf m xs (l + (j : Int) * st)) upd_same).mut hL2
    · exact fun b o hb => by
        rw [upd_ne (ne_of_none hb nL)]
        exact sp _ _ (sm' _ _ hb)
  · rintro H' ⟨ps, hL, T, sm', _⟩
    refine q rg _ L ps (some (l, st)) (s1.trans sm') (s1.free nL) hL ?_ fo
    show TRows H' ps (rulesN m xs l st (min n (m / st)).toNat)
    rw [hN]
    exact T
end
end Tw


namespace Tw
open PySem PySem.Spec PyProof.Rows L2
abbrev s_number_behind : Stmt := topS 16
theorem sc_number_behind : FnScope ["row", "bound", "rules", "behind", "rule"] ["row", "bound"] (defScope s_number_behind) := ⟨rfl, rfl, rfl, by decide +kernel, rfl, by decide +kernel, by decide +kernel⟩
section
variable {P : Program} {w : World} {K : PySem.W.Frag} {mg : Str → Option Value} {base : Heap}
theorem ok_number_behind {CN CF : Addr} (D : Top K mg "number_behind" s_number_behind ["row", "bound"]) (h_rules_that_fit : Has P w K mg base (L2.CX P w) 8 "rules_that_fit" ["row", "bound", "many"] (sp3 (pRules K CN))) (h_next_of : Has P w K mg base (L2.CX P w) 4 "next_of" ["rule", "number"] (sp2 (pNextOf K CN))) (z_len : mg "len" = none)
    (x_NoFit : PySem.W.excIn K CF [.type "ValueError", .type "Exception", .type "BaseException", .type "object"] "ValueError.__new__" = true) (g_NoFit : mg "NoFit" = some (.ref CF)) (k_NoFit : PySem.W.keepIn K (.ref CF) = true) (e_NoFit : PySem.W.subIn K (.ref CF) (.type "BaseException") = some true) (y_NoFit : PySem.W.typeIn K (.ref CF) = some (.type "type")) :
    Has P w K mg base (L2.CX P w) 9 "number_behind" ["row", "bound"] (sp2 (pBehind K CN CF)) := by
  refine D.ok2X sc_number_behind (fun f cdv A outer s H v1 v2 Q E hr h => ?_)
  obtain ⟨r, xs, m, rfl, rfl, hS, m1, m2, x2, hl, q, qn, eB⟩ := h
  refine ⟨_, (pss_cons (ps_set (i := 2) sc_number_behind.nd rfl (.inl rfl) (pe_own h_rules_that_fit (hr.mono (by decide)) (passes_call (takes_of rfl rfl rfl rfl) (fun _ _ _ _ z => z)) (pa_cons (pv 0) (pa_cons (pv 1) (pa_cons pe_int pa_nil)))))
 (pss_cons (ps_if (pt_cmpR op_eq (pe_callB (id := "len") call_len_seq (by rfl) z_len (by decide +kernel) (pa_cons (pv 2) pa_nil)) pe_int (nomark _)) (pss_one (ps_raise rfl (takes_of rfl rfl rfl rfl) (pmk_own PySem.F.excBase_ValueError x_NoFit g_NoFit k_NoFit (raises_own e_NoFit y_NoFit) (by rfl)))) pss_nil)
 (pss_cons (ps_if (pt_cmpR op_lt (pe_callB (id := "len") call_len_seq (by rfl) z_len (by decide +kernel) (pa_cons (pv 0) pa_nil)) pe_int (nomark _)) (pss_one (ps_ret pe_non)) pss_nil)
 (pss_cons (ps_setLc (i := 3) (own := [("rule", 4)]) (by rfl) sc_number_behind.nd rfl rfl (sw_true rfl rfl rfl (by decide +kernel)) (pi_list (pv 2)) (blkOk_by (own := [("rule", 4)]) (N := ["row", "bound", "rules", "behind", "rule"]) (sc := defScope s_number_behind) (by decide +kernel)) (fun _ _ _ _ _ => pg_name (i := 4) sc_number_behind.nd rfl (Or.inl rfl)) (fun _ _ _ _ _ => pts_nil) (fun _ _ _ _ _ => (pe_own h_next_of (hr.mono (by decide)) passL (pa_cons (pv 4) (pa_cons (pe_ix (ix_tup : IxR _ (rIxT K)) (pv 0) (pe_un un_neg pe_int) (fun _ _ => rfl)) pa_nil)))))
 (pss_one (ps_ret (pe_ifExp (pt_cmpR op_eq (pe_ix ix_list (pv 3) pe_int (fun _ _ => rfl)) (pe_ix ix_list (pv 3) (pe_un un_neg pe_int) (fun _ _ => rfl)) (nomark _)) (pe_ix ix_list (pv 3) pe_int (fun _ _ => rfl)) pe_non))))))), ?_⟩
  have m0 : 0 < m := by omega
  refine ⟨_, rfl, _, rfl, _, _, _, rfl, r, xs, m, 2, rfl, rfl, rfl, hS, m1, m2, by decide, by decide, x2, hl, fun rg H1 l ps o s1 nl h1 T fo => ?_, eB⟩
  refine ⟨_, rfl, l, _, rfl, .inl (SqL.of h1), rfl, _, rfl, ?_⟩
  rw [List.length_map, T.1]
  cases o with
  | none => exact ifI (fun _ => qn rg _ s1 fo) (fun z => absurd rfl z)
  | some p =>
    obtain ⟨l0, st⟩ := p
    have fo' := fo
    obtain ⟨s0, sd, a0, a1, _⟩ := fo'
    have sm : st ≤ m := Int.le_of_dvd m0 sd
    have d1 : 1 ≤ m / st := by
      have := Int.ediv_le_ediv s0 sm
      rw [Int.ediv_self (by omega)] at this
      exact this
    have T' : TRows H1 ps (rulesN m xs l0 st (min 2 (m / st)).toNat) := T
    have lR : (rulesR m xs 2 (some (l0, st))).length = (min 2 (m / st)).toNat := rulesN_len ..
    rw [lR]
    have lp : ps.length = (min 2 (m / st)).toNat := T.1.trans lR
    refine ifI (fun z => by omega) (fun _ => ?_)
    refine ⟨_, rfl, r, _, rfl, .inr (s1.tup hS), _, _, rfl, rfl, _, rfl, ifD (fun z => absurd z (by rw [List.length_map]; omega)) (fun _ => ?_)⟩
    refine ⟨_, rfl, l, rfl, ⟨_, SqL.of h1⟩, fun L nL => ?_⟩
    have lst := getD_rng m0 rg (xs.length - 1)
    refine lc_list (K := K) (a := l) (xs := ps.map V.ref) (fun j H' => H' = upd H1 L (.lst (((List.range j).map fun (i : Nat) => nxB m xs (l0 + (i : Int) * st)).map V.int))) rfl ?_ ?_ ?_
    · rintro j H' _ rfl
      exact SqL.of ((same_new nL) _ _ h1)
    · rintro j v H' hj rfl
      obtain ⟨p, rr, rfl, hrr, hp⟩ := T'.get hj
      have sL := same_new (o := .lst (((List.range j).map fun (i : Nat) => nxB m xs (l0 + (i : Int) * st)).map V.int)) nL
      have lj : j < (min 2 (m / st)).toNat := by
        have := (List.getElem?_eq_some_iff.mp hrr).1
        rw [rulesN_len] at this
        exact this
      have err : rr = ruleOf m xs (l0 + (j : Int) * st) := by
        unfold rulesN at hrr
        rw [List.getElem?_map, List.getElem?_range lj] at hrr
        exact (Option.some.inj hrr).symm
      subst err
      have tb : 0 ≤ l0 + (j : Int) * st ∧ l0 + (j : Int) * st < m := by
        have j2 : (j : Int) < m / st := by omega
        have h2 := Int.mul_le_mul_of_nonneg_right (show (j : Int) + 1 ≤ m / st by omega) (show 0 ≤ st by omega)
        have h3 := Int.ediv_mul_cancel sd
        have h4 : ((j : Int) + 1) * st = (j : Int) * st + st := by grind
        have h5 := Int.mul_nonneg (show (0:Int) ≤ (j : Int) by omega) (show 0 ≤ st by omega)
        omega
      have pb := mod_bd (xs.getD 1 0 - (l0 + (j : Int) * st) * xs.getD 0 0) m0
      have eL : atI (xs.map V.int) (-1) = some (.int (xs.getD (xs.length - 1) 0)) := by
        have ne : xs ≠ [] := fun z => by rw [z] at x2; exact absurd x2 (by simp)
        have e1 : xs.getD (xs.length - 1) 0 = xs.getLast ne := by
          rw [get_D (List.getElem?_eq_getElem (show xs.length - 1 < xs.length by omega)), List.getLast_eq_getElem]
        rw [e1]
        conv => lhs; rw [← List.dropLast_concat_getLast ne]
        rw [List.map_append]
        exact atI_last _ _
      refine ⟨rfl, yesX ?_⟩
      refine ⟨_, rfl, _, rfl, _, rfl, r, _, -1, _, rfl, rfl, (s1.trans sL).tup hS, eL, _, _, rfl, p, l0 + (j : Int) * st, plusOf m xs (l0 + (j : Int) * st), m, xs.getD (xs.length - 1) 0, rfl, rfl, SqT.of (sL _ _ hp), ⟨m1, m2, tb.1, tb.2, pb.1, pb.2⟩, fun _ _ => ?_, fun z => absurd lst z⟩
      refine ⟨_, upd_same, szl (by rw [List.length_map, List.length_map, List.length_range]; omega), ?_⟩
      rw [upd_upd, List.range_succ, List.map_append, List.map_append]
      rfl
    · rintro H' rfl
      rw [List.length_map, lp]
      have sL := same_new (o := .lst (((List.range (min 2 (m / st)).toNat).map fun (i : Nat) => nxB m xs (l0 + (i : Int) * st)).map V.int)) nL
      have hL : (upd H1 L (.lst (((List.range (min 2 (m / st)).toNat).map fun (i : Nat) => nxB m xs (l0 + (i : Int) * st)).map V.int))) L = some (.lst (((List.range (min 2 (m / st)).toNat).map fun (i : Nat) => nxB m xs (l0 + (i : Int) * st)).map V.int)) := upd_same
      have sA := s1.trans sL
      generalize upd H1 L (.lst (((List.range (min 2 (m / st)).toNat).map fun (i : Nat) => nxB m xs (l0 + (i : Int) * st)).map V.int)) = H2 at sA hL
      have n0 : nxB m xs (l0 + ((0 : Nat) : Int) * st) = nxB m xs l0 := by rw [show l0 + ((0 : Nat) : Int) * st = l0 by simp]
      have n1 : nxB m xs (l0 + ((1 : Nat) : Int) * st) = nxB m xs (l0 + st) := by rw [show l0 + ((1 : Nat) : Int) * st = l0 + st by simp]
      obtain ⟨z, e1, e2, e3⟩ : ∃ z, atI (((List.range (min 2 (m / st)).toNat).map fun (i : Nat) => nxB m xs (l0 + (i : Int) * st)).map V.int) (-1) = some (.int z) ∧ z = nxB m xs (l0 + st) ∧ atI (((List.range (min 2 (m / st)).toNat).map fun (i : Nat) => nxB m xs (l0 + (i : Int) * st)).map V.int) 0 = some (.int (nxB m xs l0)) := by
        by_cases two : 2 ≤ m / st
        · have e2 : (min 2 (m / st)).toNat = 2 := by omega
          refine ⟨nxB m xs (l0 + st), ?_, rfl, ?_⟩
          · rw [e2, ← n1]
            exact atI_last [V.int (nxB m xs (l0 + ((0 : Nat) : Int) * st))] _
          · rw [e2, ← n0]
            exact atI_nat (j := 0) rfl
        · have e1 : (min 2 (m / st)).toNat = 1 := by omega
          have es : st = m := by
            have h3 := Int.ediv_mul_cancel sd
            rw [show m / st = 1 by omega, Int.one_mul] at h3
            exact h3
          refine ⟨nxB m xs l0, ?_, ?_, ?_⟩
          · rw [e1, ← n0]
            exact atI_last [] _
          · rw [es, nxB_m]
          · rw [e1, ← n0]
            exact atI_nat (j := 0) rfl
      · subst e2
        refine ⟨_, rfl, L, _, 0, _, rfl, rfl, SqL.of hL, e3, _, rfl, _, rfl, L, _, -1, _, rfl, rfl, SqL.of hL, e1, rfl, _, rfl, ifI (fun e => ?_) (fun e => ?_)⟩
        · refine ⟨_, rfl, L, _, 0, _, rfl, rfl, SqL.of hL, e3, ?_⟩
          have := q rg H2 l0 st sA fo
          unfold behV at this
          rw [if_pos e] at this
          exact this
        · have := q rg H2 l0 st sA fo
          unfold behV at this
          rw [if_neg e] at this
          exact this
end
end Tw


namespace Tw
open PySem PySem.Spec PyProof.Rows L2
abbrev s_kinit : Stmt := inClass (topS 21) 0
theorem sc_kinit : FnScope ["self", "bound"] ["self", "bound"] (defScope s_kinit) := ⟨rfl, rfl, rfl, by decide +kernel, rfl, by decide +kernel, by decide +kernel⟩
abbrev s_row_now : Stmt := inClass (topS 21) 3
theorem sc_row_now : FnScope ["self"] ["self"] (defScope s_row_now) := ⟨rfl, rfl, rfl, by decide +kernel, rfl, by decide +kernel, by decide +kernel⟩
abbrev s_see : Stmt := inClass (topS 21) 1
theorem sc_see : FnScope ["self", "number"] ["self", "number"] (defScope s_see) := ⟨rfl, rfl, rfl, by decide +kernel, rfl, by decide +kernel, by decide +kernel⟩
abbrev s_take_back : Stmt := inClass (topS 21) 2
theorem sc_take_back : FnScope ["self"] ["self"] (defScope s_take_back) := ⟨rfl, rfl, rfl, by decide +kernel, rfl, by decide +kernel, by decide +kernel⟩
abbrev s_fit_now : Stmt := inClass (topS 21) 4
theorem sc_fit_now : FnScope ["self"] ["self"] (defScope s_fit_now) := ⟨rfl, rfl, rfl, by decide +kernel, rfl, by decide +kernel, by decide +kernel⟩
abbrev s_guess_now : Stmt := inClass (topS 21) 5
theorem sc_guess_now : FnScope ["self"] ["self"] (defScope s_guess_now) := ⟨rfl, rfl, rfl, by decide +kernel, rfl, by decide +kernel, by decide +kernel⟩
section
variable {P : Program} {w : World} {K : PySem.W.Frag} {mg : Str → Option Value} {base : Heap}
theorem ok_kinit {C f : Addr} {fd : FuncData} (F : Fun K "__init__" "KeptRow.__init__" s_kinit f fd) (T : KTx K mg C) (M : Mk K C f) (b : Binds K fd ["self", "bound"] []) : HasI P w K mg base CX0 1 C ["self", "bound"] (sp2 (pKinit C)) := by
  refine ⟨f, fd, F.ok sc_kinit (fun vs H Q E h => by obtain ⟨_, _, rfl, _⟩ := h; rfl) (fun cdv A outer s H vs Q E hr h => ?_), M, b⟩
  obtain ⟨v1, v2, rfl, H0, p, dx, m, rfl, rfl, s0, np, hp, q⟩ := h
  refine ⟨_, (pss_cons (ps_fld (pv 0) (pv 1) rfl)
 (pss_one (ps_fld (pv 0) (pe_lst pa_nil) rfl))), ?_⟩
  refine ⟨_, rfl, _, rfl, p, C, dx, _, rfl, hp, T.cl, T.nb, by show 0 < 1000; decide, ?_⟩
  refine ⟨by show 0 ≤ sizeLine; decide, fun l nl => ?_⟩
  have npl : p ≠ l := fun z => by rw [← z, upd_same] at nl; cases nl
  refine ⟨_, rfl, p, C, dx, _, rfl, by rw [upd_ne npl, upd_same], T.cl, T.nn, by show 1 < 1000; decide, ?_⟩
  have nl0 : H l = none := by rw [upd_ne (Ne.symm npl)] at nl; exact nl
  refine q _ l (fun b o e => ?_) (s0.free nl0) npl ⟨⟨dx, upd_same⟩, by rw [upd_ne (Ne.symm npl), upd_same]; rfl⟩
  have nbp : b ≠ p := fun z => by rw [z, np] at e; cases e
  have nbl : b ≠ l := fun z => by rw [z, s0.free nl0] at e; cases e
  rw [upd_ne nbp, upd_ne nbl, upd_ne nbp]
  exact s0 _ _ e
theorem ok_row_now {C : Addr} (D : TopM K C "row_now" "KeptRow.row_now" s_row_now ["self"]) (T : KTx K mg C) (z_tuple : mg "tuple" = none) : HasM P w K mg base CX0 1 C "row_now" ["self"] (sp1 (pRowNow C)) := by
  refine D.ok sc_row_now (fun vs H Q E h => by obtain ⟨_, rfl, _⟩ := h; rfl) (fun f cdv A outer s H vs Q E hr h => ?_)
  obtain ⟨v1, rfl, p, l, m, xs, rfl, ⟨⟨dx, hp⟩, hl⟩, q⟩ := h
  refine ⟨_, (pss_one (ps_ret (pe_callTy call_tuple_of (by rfl) z_tuple (by decide +kernel) (pa_cons (pe_fld (pv 0) rfl) pa_nil)))), ?_⟩
  refine ⟨_, rfl, p, C, dx, _, _, rfl, hp, T.cl, T.nn, kf_numbers m l, l, _, rfl, .inl ⟨SqL.of hl, fun z nz => ?_⟩⟩
  exact q _ z (same_new nz) nz upd_same
theorem ok_see {C CN CF : Addr} (D : TopM K C "see" "KeptRow.see" s_see ["self", "number"]) (T : KTx K mg C) (h_check_number : Has P w K mg base (L2.CX P w) 3 "check_number" ["number", "bound"] (sp2 (pCheck CN))) (h_times_that_fit : Has P w K mg base (L2.CX P w) 7 "times_that_fit" ["row", "bound"] (sp2 (pTimes K CN))) (h_row_now : HasM P w K mg base CX0 1 C "row_now" ["self"] (sp1 (pRowNow C)))
    (x_NoFit : PySem.W.excIn K CF [.type "ValueError", .type "Exception", .type "BaseException", .type "object"] "ValueError.__new__" = true) (g_NoFit : mg "NoFit" = some (.ref CF)) (k_NoFit : PySem.W.keepIn K (.ref CF) = true) (e_NoFit : PySem.W.subIn K (.ref CF) (.type "BaseException") = some true) (y_NoFit : PySem.W.typeIn K (.ref CF) = some (.type "type")) :
    HasM P w K mg base (L2.CX P w) 8 C "see" ["self", "number"] (sp2 (pSee C CN CF)) := by
  refine D.okX sc_see (fun vs H Q E h => by obtain ⟨_, _, rfl, _⟩ := h; rfl) (fun f cdv A outer s H vs Q E hr h => ?_)
  obtain ⟨v1, v2, rfl, p, l, m, n, xs, rfl, rfl, hk, m1, m2, hl, rg, e1, e2, q⟩ := h
  have c_KeptRow := T.cl
  obtain ⟨⟨dx, hp⟩, hL⟩ := id hk
  have npl : p ≠ l := fun z => by rw [z, hL] at hp; cases hp
  refine ⟨_, (pss_cons (ps_expr (pe_own h_check_number (hr.mono (by decide)) (passes_call (takes_of rfl rfl rfl rfl) (fun _ _ _ _ z => z)) (pa_cons (pv 1) (pa_cons (pe_fld (pv 0) rfl) pa_nil))))
 (pss_cons (ps_if (pt_cmpR op_isN (pe_own h_times_that_fit (hr.mono (by decide)) (passes_call (takes_of rfl rfl rfl rfl) (fun _ _ _ _ z => z)) (pa_cons (pe_op op_catX (pe_mth0 (pv 0) c_KeptRow h_row_now (hr.mono (by decide)) pass0) (pe_tup (pa_cons (pv 1) pa_nil))) (pa_cons (pe_fld (pv 0) rfl) pa_nil))) pe_non (nomark _)) (pss_one (ps_raise rfl (takes_of rfl rfl rfl rfl) (pmk_own PySem.F.excBase_ValueError x_NoFit g_NoFit k_NoFit (raises_own e_NoFit y_NoFit) (by rfl)))) pss_nil)
 (pss_one (ps_expr (pe_bm PySem.F.plainAttrs_list PySem.F.slot_list_append PySem.F.type_list_append mt_append (pe_fld (pv 0) rfl) (pa_cons (pv 1) pa_nil)))))), ?_⟩
  refine ⟨_, rfl, _, rfl, p, C, dx, _, _, rfl, hp, T.cl, T.nb, kf_bound m l, _, _, rfl, n, m, rfl, rfl, fun a0 a1 => ?_, e1⟩
  refine ⟨_, rfl, p, dx, _, rfl, hp, kf_no m l (by decide +kernel) (by decide +kernel), _, rfl, p, l, m, xs, rfl, hk, fun H1 q1 s1 nq1 hq1 => ?_⟩
  have hk1 := hk.same s1
  obtain ⟨⟨dx1, hp1⟩, hL1⟩ := id hk1
  refine ⟨_, rfl, by show 1 ≤ sizeLine; decide, fun t nt => ?_⟩
  have st := same_new (o := .tup [.int n]) nt
  refine ⟨q1, t, _, _, rfl, rfl, SqT.of (st _ _ hq1), SqT.of upd_same, szl (by rw [List.length_map]; show _ + 1 ≤ _; omega), fun H3 u s3 hu => ?_⟩
  have s13 := s1.trans (st.trans s3)
  have hk3 := hk.same s13
  obtain ⟨⟨dx3, hp3⟩, hL3⟩ := id hk3
  have hu : SqT K H3 u ((xs ++ [n]).map V.int) := by rw [List.map_append]; exact hu
  have rgn : Rng m (xs ++ [n]) := fun y hy => by
    rcases List.mem_append.mp hy with hy | hy
    · exact rg y hy
    · rw [List.mem_singleton.mp hy]; exact ⟨a0, a1⟩
  refine ⟨_, rfl, p, C, dx3, _, _, rfl, hp3, T.cl, T.nb, kf_bound m l, _, _, rfl, u, xs ++ [n], m, rfl, rfl, hu, m1, m2, by rw [List.length_append]; show _ + 1 ≤ _; omega, fun _ H4 v s4 fv _ => ?_, fun i bad => (bad.no rgn).elim⟩
  have s14 := s13.trans s4
  have hk4 := hk3.same s4
  rcases fv with ⟨rfl, fo⟩ | ⟨a, ll, sl, rfl, ha, fo⟩
  · exact ⟨rfl, _, rfl, ifT rfl (e2 ⟨a0, a1⟩ (fun z => z fo) _ s14)⟩
  · obtain ⟨⟨dx4, hp4⟩, hL4⟩ := id hk4
    refine ⟨rfl, _, rfl, ifF rfl ?_⟩
    refine ⟨_, rfl, p, C, dx4, _, _, rfl, hp4, T.cl, T.nn, kf_numbers m l, .inl ⟨rfl, _, SqL.of hL4⟩, _, rfl, l, _, _, rfl, rfl, hL4, szl (by rw [List.length_map]; omega), ?_⟩
    refine q ⟨a0, a1⟩ (fun z => by cases fo.uniq z) _ (fun b o nb e => by rw [upd_ne nb]; exact s14 _ _ e) ⟨⟨dx4, by rw [upd_ne npl]; exact hp4⟩, ?_⟩
    rw [upd_same, List.map_append]
    rfl
theorem ok_take_back {C CF : Addr} (D : TopM K C "take_back" "KeptRow.take_back" s_take_back ["self"]) (T : KTx K mg C) (z_len : mg "len" = none)
    (x_NoFit : PySem.W.excIn K CF [.type "ValueError", .type "Exception", .type "BaseException", .type "object"] "ValueError.__new__" = true) (g_NoFit : mg "NoFit" = some (.ref CF)) (k_NoFit : PySem.W.keepIn K (.ref CF) = true) (e_NoFit : PySem.W.subIn K (.ref CF) (.type "BaseException") = some true) (y_NoFit : PySem.W.typeIn K (.ref CF) = some (.type "type")) :
    HasM P w K mg base (L2.CX P w) 1 C "take_back" ["self"] (sp1 (pTake C CF)) := by
  refine D.okX sc_take_back (fun vs H Q E h => by obtain ⟨_, rfl, _⟩ := h; rfl) (fun f cdv A outer s H vs Q E hr h => ?_)
  obtain ⟨v1, rfl, p, l, m, xs, rfl, hk, hl, e1, q⟩ := h
  obtain ⟨⟨dx, hp⟩, hL⟩ := id hk
  have npl : p ≠ l := fun z => by rw [z, hL] at hp; cases hp
  refine ⟨_, (pss_cons (ps_if (pt_cmpR op_eq (pe_callB (id := "len") call_len_seq (by rfl) z_len (by decide +kernel) (pa_cons (pe_fld (pv 0) rfl) pa_nil)) pe_int (nomark _)) (pss_one (ps_raise rfl (takes_of rfl rfl rfl rfl) (pmk_own PySem.F.excBase_ValueError x_NoFit g_NoFit k_NoFit (raises_own e_NoFit y_NoFit) (by rfl)))) pss_nil)
 (pss_one (ps_expr (pe_bm0 PySem.F.plainAttrs_list PySem.F.slot_list_pop PySem.F.type_list_pop mt_pop (pe_fld (pv 0) rfl))))), ?_⟩
  refine ⟨_, rfl, p, C, dx, _, _, rfl, hp, T.cl, T.nn, kf_numbers m l, l, _, rfl, .inl (SqL.of hL), rfl, _, rfl, ifD (fun e => ?_) (fun e => ?_)⟩
  · have e0 := V.int.inj e
    rw [List.length_map] at e0
    exact e1 (List.eq_nil_of_length_eq_zero (by omega))
  · have ne : xs ≠ [] := fun z => e (by rw [z]; rfl)
    have hlast : (xs.map V.int)[(xs.map V.int).length - 1]? = some (V.int (xs.getLast ne)) := by
      rw [List.length_map, List.getElem?_map, ← List.getLast?_eq_getElem?, List.getLast?_eq_some_getLast ne]
      rfl
    refine ⟨_, rfl, p, C, dx, _, _, rfl, hp, T.cl, T.nn, kf_numbers m l, .inl ⟨rfl, _, SqL.of hL⟩, l, _, _, rfl, rfl, hL, hlast, ?_⟩
    refine q ne _ (fun b o nb e => by rw [upd_ne nb]; exact e) ⟨⟨dx, by rw [upd_ne npl]; exact hp⟩, ?_⟩
    rw [upd_same, List.map_dropLast]
theorem ok_fit_now {C CN : Addr} (D : TopM K C "fit_now" "KeptRow.fit_now" s_fit_now ["self"]) (T : KTx K mg C) (h_times_that_fit : Has P w K mg base (L2.CX P w) 7 "times_that_fit" ["row", "bound"] (sp2 (pTimes K CN))) (h_row_now : HasM P w K mg base CX0 1 C "row_now" ["self"] (sp1 (pRowNow C))) (z_len : mg "len" = none) :
    HasM P w K mg base (L2.CX P w) 8 C "fit_now" ["self"] (sp1 (pFitNow C)) := by
  refine D.okX sc_fit_now (fun vs H Q E h => by obtain ⟨_, rfl, _⟩ := h; rfl) (fun f cdv A outer s H vs Q E hr h => ?_)
  obtain ⟨v1, rfl, p, l, m, xs, rfl, hk, m1, m2, hl, rg, q⟩ := h
  have c_KeptRow := T.cl
  obtain ⟨⟨dx, hp⟩, hL⟩ := id hk
  refine ⟨_, (pss_cons (ps_if (pt_cmpR op_lt (pe_callB (id := "len") call_len_seq (by rfl) z_len (by decide +kernel) (pa_cons (pe_fld (pv 0) rfl) pa_nil)) pe_int (nomark _)) (pss_one (ps_ret pe_non)) pss_nil)
 (pss_one (ps_ret (pe_own h_times_that_fit (hr.mono (by decide)) (passes_call (takes_of rfl rfl rfl rfl) (fun _ _ _ _ z => z)) (pa_cons (pe_mth0 (pv 0) c_KeptRow h_row_now (hr.mono (by decide)) pass0) (pa_cons (pe_fld (pv 0) rfl) pa_nil)))))), ?_⟩
  refine ⟨_, rfl, p, C, dx, _, _, rfl, hp, T.cl, T.nn, kf_numbers m l, l, _, rfl, .inl (SqL.of hL), _, _, rfl, rfl, _, rfl, ifD (fun e => ?_) (fun e => ?_)⟩
  · rw [List.length_map] at e
    exact q H .non (fun _ _ z => z) (.inl ⟨by omega, rfl⟩) (fun _ z => by cases z)
  · rw [List.length_map] at e
    refine ⟨_, rfl, p, dx, _, rfl, hp, kf_no m l (by decide +kernel) (by decide +kernel), _, rfl, p, l, m, xs, rfl, hk, fun H1 q1 s1 nq1 hq1 => ?_⟩
    obtain ⟨⟨dx1, hp1⟩, _⟩ := hk.same s1
    refine ⟨_, rfl, p, C, dx1, _, _, rfl, hp1, T.cl, T.nb, kf_bound m l, _, _, rfl, q1, xs, m, rfl, rfl, SqT.of hq1, m1, m2, hl, fun _ H4 v s4 fv nv => ?_, fun i bad => (bad.no rg).elim⟩
    exact q _ v (s1.trans s4) (.inr ⟨by omega, fv⟩) (fun z e => s1.free (nv z e))
theorem ok_guess_now {C CN CF : Addr} (D : TopM K C "guess_now" "KeptRow.guess_now" s_guess_now ["self"]) (T : KTx K mg C) (h_number_behind : Has P w K mg base (L2.CX P w) 9 "number_behind" ["row", "bound"] (sp2 (pBehind K CN CF))) (h_row_now : HasM P w K mg base CX0 1 C "row_now" ["self"] (sp1 (pRowNow C))) (z_len : mg "len" = none) :
    HasM P w K mg base (L2.CX P w) 10 C "guess_now" ["self"] (sp1 (pGuess C)) := by
  refine D.okX sc_guess_now (fun vs H Q E h => by obtain ⟨_, rfl, _⟩ := h; rfl) (fun f cdv A outer s H vs Q E hr h => ?_)
  obtain ⟨v1, rfl, p, l, m, xs, rfl, hk, m1, m2, hl, rg, ft, q⟩ := h
  have c_KeptRow := T.cl
  obtain ⟨⟨dx, hp⟩, hL⟩ := id hk
  refine ⟨_, (pss_cons (ps_if (pt_cmpR op_lt (pe_callB (id := "len") call_len_seq (by rfl) z_len (by decide +kernel) (pa_cons (pe_fld (pv 0) rfl) pa_nil)) pe_int (nomark _)) (pss_one (ps_ret pe_non)) pss_nil)
 (pss_one (ps_ret (pe_own h_number_behind (hr.mono (by decide)) (passes_call (takes_of rfl rfl rfl rfl) (fun _ _ _ _ z => z)) (pa_cons (pe_mth0 (pv 0) c_KeptRow h_row_now (hr.mono (by decide)) pass0) (pa_cons (pe_fld (pv 0) rfl) pa_nil)))))), ?_⟩
  refine ⟨_, rfl, p, C, dx, _, _, rfl, hp, T.cl, T.nn, kf_numbers m l, l, _, rfl, .inl (SqL.of hL), _, _, rfl, rfl, _, rfl, ifD (fun e => ?_) (fun e => ?_)⟩
  · rw [List.length_map] at e
    exact q H .non (fun _ _ z => z) (.inl ⟨by omega, rfl⟩)
  · rw [List.length_map] at e
    refine ⟨_, rfl, p, dx, _, rfl, hp, kf_no m l (by decide +kernel) (by decide +kernel), _, rfl, p, l, m, xs, rfl, hk, fun H1 q1 s1 nq1 hq1 => ?_⟩
    obtain ⟨⟨dx1, hp1⟩, _⟩ := hk.same s1
    refine ⟨_, rfl, p, C, dx1, _, _, rfl, hp1, T.cl, T.nb, kf_bound m l, _, _, rfl, q1, xs, m, rfl, rfl, SqT.of hq1, m1, m2, by omega, hl, fun _ H4 ll ss s4 fo => ?_, fun _ H4 _ fo => absurd fo ft, fun i bad => (bad.no rg).elim⟩
    exact q _ _ (s1.trans s4) (.inr ⟨by omega, ll, ss, fo, rfl⟩)
end
end Tw


namespace Tw
open PySem PySem.Spec PyProof.Rows L2
abbrev s_told : Stmt := topS 31
theorem sc_told : FnScope ["kept"] ["kept"] (defScope s_told) := ⟨rfl, rfl, rfl, by decide +kernel, rfl, by decide +kernel, by decide +kernel⟩
section
variable {P : Program} {w : World} {K : PySem.W.Frag} {mg : Str → Option Value} {base : Heap}
theorem ok_told {C : Addr} (D : Top K mg "_law_told" s_told ["kept"]) (T : KTx K mg C) (h_row_now : HasM P w K mg base CX0 1 C "row_now" ["self"] (sp1 (pRowNow C))) (h_fit_now : HasM P w K mg base (L2.CX P w) 8 C "fit_now" ["self"] (sp1 (pFitNow C))) (h_guess_now : HasM P w K mg base (L2.CX P w) 10 C "guess_now" ["self"] (sp1 (pGuess C))) : Has P w K mg base CX0 11 "_law_told" ["kept"] (sp1 (pTold34 C)) := by
  refine D.ok1 sc_told (fun f cdv A outer s H v1 Q E hr h => ?_)
  have c_KeptRow := T.cl
  have g_KeptRow := T.g
  refine ⟨_, (pss_one (ps_ret (pe_lst (pa_cons (pe_mth0 (pv 0) c_KeptRow h_row_now (hr.mono (by decide)) pass0) (pa_cons (pe_mth0 (pv 0) c_KeptRow h_fit_now (hr.mono (by decide)) passL) (pa_cons (pe_mth0 (pv 0) c_KeptRow h_guess_now (hr.mono (by decide)) passL) pa_nil)))))), ?_⟩
  obtain ⟨p, l, m, xs, rfl, hk, m1, m2, hl, rg, ft, q⟩ := h
  obtain ⟨dx, hp⟩ := hk.1
  refine ⟨_, rfl, p, dx, _, rfl, hp, kf_no m l (by decide +kernel) (by decide +kernel), _, rfl, p, l, m, _, rfl, hk, fun H1 a s1 na ha => ?_⟩
  refine ⟨_, rfl, p, dx, _, rfl, s1 _ _ hp, kf_no m l (by decide +kernel) (by decide +kernel), _, rfl, p, l, m, _, rfl, hk.same s1, m1, m2, by omega, rg, fun H2 f s2 hf _ => ?_⟩
  have s12 := s1.trans s2
  refine ⟨_, rfl, p, dx, _, rfl, s12 _ _ hp, kf_no m l (by decide +kernel) (by decide +kernel), _, rfl, p, l, m, _, rfl, hk.same s12, m1, m2, by omega, rg, ft, fun H3 g s3 hg => ?_⟩
  have s13 := s12.trans s3
  refine ⟨by show 3 ≤ sizeLine; decide, fun q1 nq1 => ?_⟩
  have sq := same_new (o := .lst [.ref a, f, g]) nq1
  exact q _ q1 _ (s13.trans sq) (s13.free nq1) upd_same ⟨a, f, g, rfl, sq _ _ (s3 _ _ (s2 _ _ ha)), (hf.same s3).same sq, hg⟩
end
end Tw


namespace Tw
open PySem PySem.Spec PyProof.Rows L2
abbrev s_afresh : Stmt := topS 32
theorem sc_afresh : FnScope ["row", "bound", "kept", "number"] ["row", "bound"] (defScope s_afresh) := ⟨rfl, rfl, rfl, by decide +kernel, rfl, by decide +kernel, by decide +kernel⟩
section
variable {P : Program} {w : World} {K : PySem.W.Frag} {mg : Str → Option Value} {base : Heap}
theorem ok_afresh {C CN CF : Addr} (D : Top K mg "_law_afresh" s_afresh ["row", "bound"]) (T : KTx K mg C) (h_kinit : HasI P w K mg base CX0 1 C ["self", "bound"] (sp2 (pKinit C))) (h_see : HasM P w K mg base (L2.CX P w) 8 C "see" ["self", "number"] (sp2 (pSee C CN CF))) : Has P w K mg base CX0 9 "_law_afresh" ["row", "bound"] (sp2 (pAfresh C)) := by
  refine D.ok2 sc_afresh (fun f cdv A outer s H v1 v2 Q E hr h => ?_)
  have c_KeptRow := T.cl
  have g_KeptRow := T.g
  refine ⟨_, (pss_cons (ps_set (i := 2) sc_afresh.nd rfl (.inl rfl) (pe_mkO h_kinit (hr.mono (by decide)) g_KeptRow pass0 (pa_cons (pv 1) pa_nil)))
 (pss_cons (ps_for PassesOwn.never rfl (pi_list (pv 0)) (pg_name (i := 3) sc_afresh.nd rfl (.inl rfl)) (pss_one (ps_expr (pe_mth (pv 2) c_KeptRow h_see (hr.mono (by decide)) passL (pa_cons (pv 3) pa_nil)))))
 (pss_one (ps_ret (pv 2))))), ?_⟩
  obtain ⟨r, m, xs, rfl, rfl, hR, m1, m2, hl, rg, ft, q⟩ := h
  refine ⟨_, rfl, fun p dx np ndx nep => ?_⟩
  have sp : Same H (upd (upd H dx (.own p)) p (.ins C dx [])) := (same_new ndx).trans (same_new (by rw [upd_ne (Ne.symm nep)]; exact np))
  refine ⟨_, _, rfl, H, p, dx, m, rfl, rfl, sp, np, upd_same, fun H1 l s1 nl npl K1 => ⟨rfl, ?_⟩⟩
  refine ⟨_, rfl, r, rfl, ⟨_, SqL.of (s1 _ _ hR)⟩, for_list (K := K) (a := r) (xs := xs.map V.int) (fun i σ H' => ∃ y3 : Option V, σ = [some (.ref r), some (.int m), some (.ref p), y3] ∧ KeptAt C H' p l m (xs.take i) ∧ Same H H') ⟨_, rfl, K1, s1⟩ ?_ ?_ ?_⟩
  · rintro i σ H' _ ⟨y1, rfl, _, s⟩
    exact SqL.of (s _ _ hR)
  · rintro i x σ H' hi ⟨y1, rfl, k, s⟩
    obtain ⟨rfl, li⟩ := vget hi
    obtain ⟨dx', hp⟩ := k.1
    have gx : 0 ≤ xs.getD i 0 ∧ xs.getD i 0 < m := rg _ (by rw [List.getD_eq_getElem?_getD, List.getElem?_eq_getElem li]; exact List.getElem_mem li)
    have lk1 : (xs.take i).length = i := by rw [List.length_take]; omega
    refine ⟨_, rfl, p, dx', _, rfl, hp, kf_no _ _ (by decide +kernel) (by decide +kernel), _, rfl, _, _, rfl, p, l, m, _, _, rfl, rfl, k, m1, m2, by omega, rng_take rg i, (fun nb => absurd gx nb), (fun _ nf => absurd (by rw [← take_snoc li]; exact fits_take (by omega) ft (by omega)) nf), fun _ _ H3 f3 k3 => ?_⟩
    rw [← take_snoc li] at k3
    exact ⟨_, rfl, k3, same_frm s nl f3⟩
  rintro σ H3 ⟨y1, rfl, k3, s3⟩
  rw [List.length_map, List.take_length] at k3
  exact ⟨_, rfl, q H3 p l s3 k3⟩
end
end Tw


namespace Tw
open PySem PySem.Spec PyProof.Rows L2
abbrev s_is_let : Stmt := topS 33
theorem sc_is_let : FnScope ["kept", "number"] ["kept", "number"] (defScope s_is_let) := ⟨rfl, rfl, rfl, by decide +kernel, rfl, by decide +kernel, by decide +kernel⟩
section
variable {P : Program} {w : World} {K : PySem.W.Frag} {mg : Str → Option Value} {base : Heap}
theorem ok_is_let {C CN CF : Addr} (D : Top K mg "_law_is_let" s_is_let ["kept", "number"]) (T : KTx K mg C) (h_see : HasM P w K mg base (L2.CX P w) 8 C "see" ["self", "number"] (sp2 (pSee C CN CF))) (g_NoFit : mg "NoFit" = some (.ref CF)) (xf : PySem.W.exmOne K (.ref CF) (.ref CF) = some true) : Has P w K mg base CX0 9 "_law_is_let" ["kept", "number"] (sp2 (pIsLet C)) := by
  refine D.ok2 sc_is_let (fun f cdv A outer s H v1 v2 Q E hr h => ?_)
  have c_KeptRow := T.cl
  have g_KeptRow := T.g
  refine ⟨_, (pss_cons (ps_try_none rfl rfl ⟨rfl, by decide, .inl g_NoFit⟩ (fun W pn xe tk po => (pss_one (ps_expr (pe_mthS (pv 0) c_KeptRow h_see (hr.mono (by decide)) (fun σ => passAt tk σ) (pa_cons (pv 1) pa_nil))))) (fun a pn => (pss_one (ps_ret pe_bl))))
 (pss_one (ps_ret pe_bl))), ?_⟩
  obtain ⟨p, l, m, n, xs, rfl, rfl, hk, m1, m2, hl, rg, n0, n1, q0, q1⟩ := h
  obtain ⟨dx, hp⟩ := hk.1
  refine ⟨_, rfl, p, dx, _, rfl, hp, kf_no _ _ (by decide +kernel) (by decide +kernel), _, rfl, _, _, rfl, p, l, m, _, _, rfl, rfl, hk, m1, m2, by omega, rg, (fun nb => absurd ⟨n0, n1⟩ nb), (fun _ nf H1 s1 => ?_), fun _ ft H3 f3 k3 => q1 ft H3 f3 k3⟩
  exact ⟨true, xf, (fun _ a na => q0 nf H1 s1), fun z => by cases z⟩
end
end Tw


namespace Tw
open PySem PySem.Spec PyProof.Rows L2
abbrev s_deed : Stmt := topS 34
theorem sc_deed : FnScope ["seed", "kept", "row", "bound", "way", "number", "rules", "times", "plus", "whole"] ["seed", "kept", "row", "bound"] (defScope s_deed) := ⟨rfl, rfl, rfl, by decide +kernel, rfl, by decide +kernel, by decide +kernel⟩
section
variable {P : Program} {w : World} {K : PySem.W.Frag} {mg : Str → Option Value} {base : Heap}
theorem ok_deed {C CN CF : Addr} (D : Top K mg "_law_deed" s_deed ["seed", "kept", "row", "bound"]) (T : KTx K mg C) (h_draw : Has P w K mg base CX0 1 "_law_draw" ["seed", "most"] (sp2 (pDrw 1))) (h_below : Has P w K mg base CX0 2 "_law_below" ["seed", "bound"] (sp2 (pDrw 2))) (h_take_back : HasM P w K mg base (L2.CX P w) 1 C "take_back" ["self"] (sp1 (pTake C CF))) (h_is_let : Has P w K mg base CX0 9 "_law_is_let" ["kept", "number"] (sp2 (pIsLet C))) (h_rules_that_fit : Has P w K mg base (L2.CX P w) 8 "rules_that_fit" ["row", "bound", "many"] (sp3 (pRules K CN))) (z_len : mg "len" = none) (z_tuple : mg "tuple" = none) : Has P w K mg base CX0 10 "_law_deed" ["seed", "kept", "row", "bound"] (sp4 (pDeed34 C)) := by
  refine D.ok4q sc_deed (fun f cdv A outer s H v1 v2 v3 v4 Q E hr h => ?_)
  have c_KeptRow := T.cl
  have g_KeptRow := T.g
  refine ⟨_, (pss_cons (ps_set (i := 4) sc_deed.nd rfl (.inl rfl) (pe_own h_draw (hr.mono (by decide)) pass0 (pa_cons (pv 0) (pa_cons pe_int pa_nil))))
 (C8.pss_cut (ps_if (PW.pt (pw_and (pt_cmpR (op_neD hr.units) (pv 2) (pe_lst pa_nil) (nomark _)) (pw_and1 (PW.pt (pw_or (pt_cmpR op_eq (pv 4) pe_int (nomark _)) (pw_or1 (pt_cmpR op_gt (pe_callB (id := "len") call_len_seq (by rfl) z_len (by decide +kernel) (pa_cons (pv 2) pa_nil)) pe_int (nomark _)))))))) (pss_cons (ps_expr (pe_mth0 (pv 1) c_KeptRow h_take_back (hr.mono (by decide)) passL))
 (pss_cons (ps_expr (pe_bm0 PySem.F.plainAttrs_list PySem.F.slot_list_pop PySem.F.type_list_pop mt_pop (pv 2)))
 (pss_one (ps_ret pe_non)))) pss_nil)
 (pss_cons (ps_set (i := 5) sc_deed.nd rfl (.inl rfl) (pe_own h_below (hr.mono (by decide)) pass0 (pa_cons (pv 0) (pa_cons (pv 3) pa_nil))))
 (C8.pss_cut (ps_if (PW.pt (pw_and (pt_cmpR op_gt (pe_callB (id := "len") call_len_seq (by rfl) z_len (by decide +kernel) (pa_cons (pv 2) pa_nil)) pe_int (nomark _)) (pw_and1 (pt_cmpR op_gt (pv 4) pe_int (nomark _))))) (pss_cons (ps_set (i := 6) sc_deed.nd rfl (.inl rfl) (pe_own h_rules_that_fit (hr.mono (by decide)) passL (pa_cons (pe_callTy call_tuple_of (by rfl) z_tuple (by decide +kernel) (pa_cons (pv 2) pa_nil)) (pa_cons (pv 3) (pa_cons pe_int pa_nil)))))
 (pss_cons (ps_asg (pe_ix ix_list (pv 6) (pe_own h_draw (hr.mono (by decide)) pass0 (pa_cons (pv 0) (pa_cons (pe_callB (id := "len") call_len_seq (by rfl) z_len (by decide +kernel) (pa_cons (pv 6) pa_nil)) pa_nil))) (fun _ _ => rfl)) (pg_tup rfl (pgs_cons (pg_name (i := 7) sc_deed.nd rfl (.inl rfl)) (pgs_cons (pg_name (i := 8) sc_deed.nd rfl (.inl rfl)) (pgs_cons (pg_name (i := 9) sc_deed.nd rfl (.inl rfl)) pgs_nil)))))
 (pss_one (ps_set (i := 5) sc_deed.nd rfl (.inl rfl) (pe_op op_mod (pe_op op_add (pe_op op_mulB (pv 7) (pe_ix ix_list (pv 2) (pe_un un_neg pe_int) (fun _ _ => rfl))) (pv 8)) (pv 3)))))) pss_nil)
 (C8.pss_cut (ps_if (pt_val (pe_own h_is_let (hr.mono (by decide)) pass0 (pa_cons (pv 1) (pa_cons (pv 5) pa_nil)))) (pss_one (ps_expr (pe_bm PySem.F.plainAttrs_list PySem.F.slot_list_append PySem.F.type_list_append mt_append (pv 2) (pa_cons (pv 5) pa_nil)))) pss_nil)
 (pss_one (ps_ret pe_non))))))), ?_⟩
  obtain ⟨d, p, l, r, n, m, xs, rfl, rfl, rfl, rfl, hD, hn, ndl, ndr, nlr, hk, hR, m1, m2, rg, hl, ft, q⟩ := h
  have nrd : r ≠ d := Ne.symm ndr
  have nld : l ≠ d := Ne.symm ndl
  have m0 : 0 < m := by omega
  have npd : p ≠ d := by
    obtain ⟨dx, hp⟩ := hk.1
    obtain ⟨_, _, _, _, hd, _⟩ := hD
    exact fun z => by rw [z, hd] at hp; cases hp
  refine ⟨_, rfl, _, _, rfl, d, n, 5, rfl, rfl, by decide, by decide, hD, by omega, fun H1 wy B1 D1 w0 w1 => ?_⟩
  refine ⟨fun σ' H' => σ' = [some (.ref d), some (.ref p), some (.ref r), some (.int m), some (.int wy), none, none, none, none, none] ∧ But d H H' ∧ Seed H' d (n + 1), ?_, ?_⟩
  · refine ⟨_, rfl, by show 0 ≤ sizeLine; decide, fun E0 nE => ?_⟩
    have sE := same_new (o := .lst []) nE
    have hR1 := B1 _ _ nrd hR
    refine ⟨.list (xs.map PyData.int), .list (([] : List Int).map PyData.int), .lst (SqL.of (sE _ _ hR1)) (dp_ints xs), .lst (SqL.of upd_same) (dp_ints []), shp_lints xs, shp_lints [], ?_⟩
    have B2 := B1.trans sE.but
    have D2 := D1.same sE
    have hR2 := sE _ _ hR1
    generalize upd H1 E0 (.lst []) = H2 at B2 D2 hR2 ⊢
    rw [eqv_lints]
    refine ⟨_, rfl, ?_⟩
    by_cases e : xs = []
    · refine ifF (by rw [decide_eq_true e]; rfl) (ifF rfl ?_)
      exact ⟨rfl, B2, D2⟩
    refine ifT (by rw [decide_eq_false e]; rfl) ?_
    have k0 : 0 < xs.length := List.length_pos_iff.mpr e
    have hk2 := hk.but B2 npd nld
    obtain ⟨dx, hp2⟩ := hk2.1
    by_cases c : wy = 0 ∨ (58 : Int) < ((xs.map V.int).length : Int)
    · refine tOr_true (fun hh => ?_) (ifT rfl ?_)
      · refine ⟨_, rfl, rfl, _, rfl, ifI (fun _ => hh) (fun e1 => ?_)⟩
        refine ⟨_, rfl, r, _, rfl, .inl (SqL.of hR2), _, _, rfl, rfl, _, rfl, ifT (decide_eq_true ?_) hh⟩
        rcases c with c | c
        · exact absurd c e1
        · exact c
      refine ⟨_, rfl, p, dx, _, rfl, hp2, kf_no _ _ (by decide +kernel) (by decide +kernel), _, rfl, p, l, m, _, rfl, hk2, by omega, (fun z => absurd z e), fun _ H5 f5 k5 => ?_⟩
      have hr5 := f5 _ _ (Ne.symm nlr) hR2
      refine ⟨_, rfl, .inl ⟨rfl, _, SqL.of hr5⟩, r, _, _, rfl, rfl, hr5, List.getElem?_eq_getElem (by rw [List.length_map]; omega), ?_⟩
      rw [← List.map_dropLast]
      have D5 : Seed (upd H5 r (.lst (xs.dropLast.map V.int))) d (n + 1) := by
        obtain ⟨a, f', k, c, z, rest⟩ := D2
        exact ⟨a, f', k, c, by rw [upd_ne ndr]; exact f5 _ _ ndl z, rest⟩
      refine q _ xs.dropLast (D5.mono (by omega)) (fun b o n1 n2 n3 z => by rw [upd_ne n3]; exact f5 _ _ n2 (B2 _ _ n1 z)) ?_ upd_same (rng_drop rg) (fits_drop m0 ft) (by rw [List.length_dropLast]; omega)
      obtain ⟨⟨dx5, hp5⟩, hl5⟩ := k5
      exact ⟨⟨dx5, by rw [upd_ne (fun z => by rw [z, hr5] at hp5; cases hp5)]; exact hp5⟩, by rw [upd_ne nlr]; exact hl5⟩
    · refine tOr_false (fun hh => ?_) (ifF rfl ?_)
      · refine ⟨_, rfl, rfl, _, rfl, ifI (fun e1 => absurd (.inl e1) c) (fun e1 => ?_)⟩
        exact ⟨_, rfl, r, _, rfl, .inl (SqL.of hR2), _, _, rfl, rfl, _, rfl, ifF (decide_eq_false fun z => c (.inr z)) hh⟩
      exact ⟨rfl, B2, D2⟩
  · rintro σ' H2 ⟨rfl, B2, D2⟩
    have hR2 := B2 _ _ nrd hR
    have hk2 := hk.but B2 npd nld
    refine ⟨_, rfl, _, rfl, _, _, rfl, d, n + 1, m, rfl, rfl, m0, by omega, D2, by omega, fun H3 v B3 D3 v0 v1 => ?_⟩
    have hR3 := B3 _ _ nrd hR2
    refine ⟨fun σ' H' => ∃ (nu : Int) (y6 y7 y8 y9 : Option V), σ' = [some (.ref d), some (.ref p), some (.ref r), some (.int m), some (.int wy), some (.int nu), y6, y7, y8, y9] ∧ 0 ≤ nu ∧ nu < m ∧ But d H H' ∧ Seed H' d (n + 4), ?_, ?_⟩
    · have sk : ∀ H', But d H H' → Seed H' d (n + 4) → ∃ (nu : Int) (y6 y7 y8 y9 : Option V), ([some (.ref d), some (.ref p), some (.ref r), some (.int m), some (.int wy), some (.int v), none, none, none, none] : L2.St) = [some (.ref d), some (.ref p), some (.ref r), some (.int m), some (.int wy), some (.int nu), y6, y7, y8, y9] ∧ 0 ≤ nu ∧ nu < m ∧ But d H H' ∧ Seed H' d (n + 4) := fun H' b s => ⟨v, _, _, _, _, rfl, v0, v1, b, s⟩
      refine ⟨_, rfl, r, _, rfl, .inl (SqL.of hR3), _, _, rfl, rfl, _, rfl, ifD (fun e1 => ?_) (fun e1 => ifF rfl (sk _ (B2.trans B3) (D3.mono (by omega))))⟩
      rw [List.length_map] at e1
      refine ⟨_, rfl, _, _, rfl, rfl, _, rfl, ifD (fun e2 => ?_) (fun e2 => sk _ (B2.trans B3) (D3.mono (by omega)))⟩
      have n2 : 2 ≤ xs.length := by omega
      refine ⟨_, rfl, r, _, rfl, .inl ⟨SqL.of hR3, fun z nz => ?_⟩⟩
      have sz := same_new (o := .tup (xs.map V.int)) nz
      have zd : z ≠ d := D3.ne nz
      refine ⟨_, rfl, _, _, _, rfl, z, xs, m, 2, rfl, rfl, rfl, SqT.of upd_same, m1, m2, by decide, by decide, n2, by omega, (fun _ H5 L ps o s5 nL hL T F => ?_), (fun i fb => (fb.no rg).elim)⟩
      cases o with
      | none => exact absurd F ft
      | some o =>
        obtain ⟨l0, s0⟩ := o
        have nLd := D3.ne (sz.free nL)
        have D5 := (D3.same sz).same s5
        have B5 : But d H H5 := (B2.trans B3).trans (sz.but.trans s5.but)
        have lp := rulesR_two m1 F
        have lp3 := rulesR_len (m := m) (n := 2) (xs := xs) (o := some (l0, s0)) (by decide) (by decide)
        have hrl := T.1
        refine ⟨_, rfl, _, rfl, _, rfl, L, _, rfl, .inl (SqL.of hL), _, _, rfl, d, n + 3, _, rfl, rfl, by rw [List.length_map]; omega, by rw [List.length_map]; omega, D5, by omega, fun H6 w6 B6 D6 w60 w61 => ?_⟩
        rw [List.length_map] at w61
        obtain ⟨jj, rfl⟩ := Int.eq_ofNat_of_zero_le w60
        have lj : jj < ps.length := by omega
        have lj2 : jj < (rulesR m xs 2 (some (l0, s0))).length := by omega
        obtain ⟨t, et, t0, t1⟩ := rulesR_mem m1 F (List.getElem_mem lj2)
        have hpj := T.2 jj _ _ (List.getElem?_eq_getElem lj) (List.getElem?_eq_getElem lj2)
        rw [et] at hpj
        have hpj6 := B6 _ _ (D5.ne_tup hpj) hpj
        refine ⟨L, _, (jj : Int), _, rfl, rfl, SqL.of (B6 _ _ nLd hL), atI_nat (j := jj) (by rw [List.getElem?_map, List.getElem?_eq_getElem lj]; rfl), ?_⟩
        refine ⟨_, _, rfl, SqT.of hpj6, rfl, ?_⟩
        refine ⟨_, _, rfl, _, _, rfl, _, _, rfl, rfl, ?_⟩
        have hR6 := B6 _ _ nrd (B5 _ _ nrd hR)
        have gl := getD_rng m0 rg (xs.length - 1)
        have pb := mod_bd (xs.getD 1 0 - t * xs.getD 0 0) m0
        refine ⟨_, rfl, _, rfl, _, rfl, r, _, -1, _, rfl, rfl, SqL.of hR6, at_last (by omega), _, _, rfl, rfl, ⟨by unfold Big; omega, by unfold Big; omega⟩, _, rfl, _, _, rfl, rfl, _, rfl, _, _, rfl, rfl, m0, ?_⟩
        have nb := mod_bd (t * xs.getD (xs.length - 1) 0 + plusOf m xs t) m0
        exact ⟨_, _, _, _, _, rfl, nb.1, nb.2, B5.trans B6, D6⟩
    · rintro σ' H4 ⟨nu, y6, y7, y8, y9, rfl, nu0, nu1, B4, D4⟩
      have hR4 := B4 _ _ nrd hR
      have hk4 := hk.but B4 npd nld
      refine ⟨fun _ H' => Q .non H', ?_, fun _ H' h => h⟩
      refine ⟨_, rfl, _, rfl, _, _, rfl, p, l, m, nu, xs, rfl, rfl, hk4, m1, m2, by omega, rg, nu0, nu1, (fun nf H5 s5 => ?_), (fun fs H5 f5 k5 => ?_)⟩
      · refine ⟨_, rfl, ifF rfl ?_⟩
        exact q _ xs (D4.same s5) (fun b o n1 n2 n3 z => s5 _ _ (B4 _ _ n1 z)) (hk4.same s5) (s5 _ _ hR4) rg ft (by omega)
      · refine ⟨_, rfl, ifT rfl ?_⟩
        have hr5 := f5 _ _ (Ne.symm nlr) hR4
        refine ⟨_, rfl, .inl ⟨rfl, _, SqL.of hr5⟩, _, rfl, r, _, _, rfl, rfl, hr5, szl (by rw [List.length_map]; omega), ?_⟩
        have eq : xs.map V.int ++ [V.int nu] = (xs ++ [nu]).map V.int := by rw [List.map_append]; rfl
        rw [eq]
        have D5 : Seed (upd H5 r (.lst ((xs ++ [nu]).map V.int))) d (n + 4) := by
          obtain ⟨a, f', k, c, z, rest⟩ := D4
          exact ⟨a, f', k, c, by rw [upd_ne ndr]; exact f5 _ _ ndl z, rest⟩
        refine q _ (xs ++ [nu]) D5 (fun b o n1 n2 n3 z => by rw [upd_ne n3]; exact f5 _ _ n2 (B4 _ _ n1 z)) ?_ upd_same (rng_snoc1 rg nu0 nu1) fs (by rw [List.length_append]; exact Nat.le_refl _)
        obtain ⟨⟨dx5, hp5⟩, hl5⟩ := k5
        exact ⟨⟨dx5, by rw [upd_ne (fun z => by rw [z, hr5] at hp5; cases hp5)]; exact hp5⟩, by rw [upd_ne nlr]; exact hl5⟩
end
end Tw


namespace Tw
open PySem PySem.Spec PyProof.Rows L2
abbrev s_beneath_right : Stmt := topS 35
theorem sc_beneath_right : FnScope ["kept", "bound", "row"] ["kept", "bound"] (defScope s_beneath_right) := ⟨rfl, rfl, rfl, by decide +kernel, rfl, by decide +kernel, by decide +kernel⟩
section
variable {P : Program} {w : World} {K : PySem.W.Frag} {mg : Str → Option Value} {base : Heap}
theorem ok_beneath {C CN CF : Addr} (D : Top K mg "_law_beneath_right" s_beneath_right ["kept", "bound"]) (T : KTx K mg C) (h_row_now : HasM P w K mg base CX0 1 C "row_now" ["self"] (sp1 (pRowNow C))) (h_fit_now : HasM P w K mg base (L2.CX P w) 8 C "fit_now" ["self"] (sp1 (pFitNow C))) (h_guess_now : HasM P w K mg base (L2.CX P w) 10 C "guess_now" ["self"] (sp1 (pGuess C))) (h_times_that_fit : Has P w K mg base (L2.CX P w) 7 "times_that_fit" ["row", "bound"] (sp2 (pTimes K CN))) (h_number_behind : Has P w K mg base (L2.CX P w) 9 "number_behind" ["row", "bound"] (sp2 (pBehind K CN CF))) (z_len : mg "len" = none) : Has P w K mg base CX0 11 "_law_beneath_right" ["kept", "bound"] (sp2 (pBeneath C)) := by
  refine D.ok2 sc_beneath_right (fun f cdv A outer s H v1 v2 Q E hr h => ?_)
  have c_KeptRow := T.cl
  have g_KeptRow := T.g
  refine ⟨_, (pss_cons (ps_set (i := 2) sc_beneath_right.nd rfl (.inl rfl) (pe_mth0 (pv 0) c_KeptRow h_row_now (hr.mono (by decide)) pass0))
 (pss_cons (ps_if (pt_cmpR op_lt (pe_callB (id := "len") call_len_seq (by rfl) z_len (by decide +kernel) (pa_cons (pv 2) pa_nil)) pe_int (nomark _)) (pss_one (ps_ret (pe_and (pe_cmpR op_isN (pe_mth0 (pv 0) c_KeptRow h_fit_now (hr.mono (by decide)) passL) pe_non (nomark _)) (pe_one (pe_cmpR op_isN (pe_mth0 (pv 0) c_KeptRow h_guess_now (hr.mono (by decide)) passL) pe_non (nomark _)))))) pss_nil)
 (pss_one (ps_ret (pe_and (pe_cmpR (op_eqD hr.units) (pe_mth0 (pv 0) c_KeptRow h_fit_now (hr.mono (by decide)) passL) (pe_own h_times_that_fit (hr.mono (by decide)) passL (pa_cons (pv 2) (pa_cons (pv 1) pa_nil))) (nomark _)) (pe_one (pe_cmpR (op_eqD hr.units) (pe_mth0 (pv 0) c_KeptRow h_guess_now (hr.mono (by decide)) passL) (pe_own h_number_behind (hr.mono (by decide)) passL (pa_cons (pv 2) (pa_cons (pv 1) pa_nil))) (nomark _)))))))), ?_⟩
  obtain ⟨p, l, m, xs, rfl, rfl, hk, m1, m2, hl, rg, ft, q⟩ := h
  obtain ⟨dx, hp⟩ := hk.1
  refine ⟨_, rfl, p, dx, _, rfl, hp, kf_no m l (by decide +kernel) (by decide +kernel), _, rfl, p, l, m, _, rfl, hk, fun H1 a s1 na ha => ?_⟩
  have hk1 := hk.same s1
  refine ⟨_, rfl, a, _, rfl, .inr (SqT.of ha), _, _, rfl, rfl, ?_⟩
  rw [List.length_map]
  refine ⟨_, rfl, ifD (fun e => ?_) (fun e => ?_)⟩
  · refine ⟨_, rfl, p, dx, _, rfl, s1 _ _ hp, kf_no m l (by decide +kernel) (by decide +kernel), _, rfl, p, l, m, _, rfl, hk1, m1, m2, by omega, rg, fun H2 f s2 hf _ => ?_⟩
    have ef : f = .non := by
      rcases hf with ⟨_, e1⟩ | ⟨n2, _⟩
      · exact e1
      · omega
    subst ef
    refine ⟨rfl, _, rfl, ifT rfl ?_⟩
    refine ⟨_, rfl, p, dx, _, rfl, s2 _ _ (s1 _ _ hp), kf_no m l (by decide +kernel) (by decide +kernel), _, rfl, p, l, m, _, rfl, hk1.same s2, m1, m2, by omega, rg, ft, fun H3 g s3 hg => ?_⟩
    have eg : g = .non := by
      rcases hg with ⟨_, e1⟩ | ⟨n2, _⟩
      · exact e1
      · omega
    subst eg
    exact ⟨rfl, q _ (s1.trans (s2.trans s3))⟩
  · have n2 : 2 ≤ xs.length := by omega
    refine ⟨_, rfl, p, dx, _, rfl, s1 _ _ hp, kf_no m l (by decide +kernel) (by decide +kernel), _, rfl, p, l, m, _, rfl, hk1, m1, m2, by omega, rg, fun H2 f s2 hf _ => ?_⟩
    refine ⟨_, rfl, _, rfl, _, _, rfl, a, xs, m, rfl, rfl, SqT.of (s2 _ _ ha), m1, m2, by omega, (fun _ H3 v s3 fv _ => ?_), (fun i fb => (fb.no rg).elim)⟩
    obtain ⟨d, p1, p2, ly⟩ := (hf.same s3).dat (K := K) (.inr ⟨n2, fv⟩)
    refine ⟨d, d, p1, p2, shp_lay ly, shp_lay ly, _, rfl, ?_⟩
    rw [eqv_self (shp_lay ly)]
    refine ifT rfl ?_
    have s13 := s1.trans (s2.trans s3)
    refine ⟨_, rfl, p, dx, _, rfl, s13 _ _ hp, kf_no m l (by decide +kernel) (by decide +kernel), _, rfl, p, l, m, _, rfl, hk.same s13, m1, m2, by omega, rg, ft, fun H4 g s4 hg => ?_⟩
    refine ⟨_, rfl, _, rfl, _, _, rfl, a, xs, m, rfl, rfl, SqT.of (s4 _ _ (s3 _ _ (s2 _ _ ha))), m1, m2, n2, by omega, (fun _ H5 l5 st5 s5 F5 => ?_), (fun _ H5 s5 F5 => absurd F5 ft), (fun i fb => (fb.no rg).elim)⟩
    obtain ⟨d5, p5, p6, ly5⟩ := hg.dat (K := K) (H := H5) (.inr ⟨n2, l5, st5, F5, rfl⟩)
    refine ⟨d5, d5, p5, p6, shp_lay ly5, shp_lay ly5, ?_⟩
    rw [eqv_self (shp_lay ly5)]
    exact q _ (s13.trans (s4.trans s5))
end
end Tw


namespace Tw
open PySem PySem.Spec PyProof.Rows L2
abbrev s_behind_right : Stmt := topS 36
theorem sc_behind_right : FnScope ["seed", "kept", "bound", "ahead", "behind", "other"] ["seed", "kept", "bound"] (defScope s_behind_right) := ⟨rfl, rfl, rfl, by decide +kernel, rfl, by decide +kernel, by decide +kernel⟩
section
variable {P : Program} {w : World} {K : PySem.W.Frag} {mg : Str → Option Value} {base : Heap}
theorem ok_behind {C CN CF : Addr} (D : Top K mg "_law_behind_right" s_behind_right ["seed", "kept", "bound"]) (T : KTx K mg C) (h_told : Has P w K mg base CX0 11 "_law_told" ["kept"] (sp1 (pTold34 C))) (h_is_let : Has P w K mg base CX0 9 "_law_is_let" ["kept", "number"] (sp2 (pIsLet C))) (h_fit_now : HasM P w K mg base (L2.CX P w) 8 C "fit_now" ["self"] (sp1 (pFitNow C))) (h_take_back : HasM P w K mg base (L2.CX P w) 1 C "take_back" ["self"] (sp1 (pTake C CF))) (h_below : Has P w K mg base CX0 2 "_law_below" ["seed", "bound"] (sp2 (pDrw 2))) (z_max : mg "max" = none) : Has P w K mg base CX0 12 "_law_behind_right" ["seed", "kept", "bound"] (sp3 (pBehind34 C)) := by
  refine D.ok3 sc_behind_right (fun f cdv A outer s H v1 v2 v3 Q E hr h => ?_)
  have c_KeptRow := T.cl
  have g_KeptRow := T.g
  refine ⟨_, (pss_cons (ps_set (i := 3) sc_behind_right.nd rfl (.inl rfl) (pe_own h_told (hr.mono (by decide)) pass0 (pa_cons (pv 1) pa_nil)))
 (pss_cons (ps_set (i := 4) sc_behind_right.nd rfl (.inl rfl) (pe_ix ix_list (pv 3) pe_int (fun _ _ => rfl)))
 (pss_cons (ps_if (pt_cmpR op_isN (pv 4) pe_non (nomark _)) (pss_one (ps_ret pe_bl)) pss_nil)
 (pss_cons (ps_if (PW.pt (pw_or (pt_not (pt_val (pe_own h_is_let (hr.mono (by decide)) pass0 (pa_cons (pv 1) (pa_cons (pv 4) pa_nil))))) (pw_or1 (pt_cmpR (op_neD hr.units) (pe_mth0 (pv 1) c_KeptRow h_fit_now (hr.mono (by decide)) passL) (pe_ix ix_list (pv 3) pe_int (fun _ _ => rfl)) (nomark _))))) (pss_one (ps_ret pe_bl)) pss_nil)
 (pss_cons (ps_expr (pe_mth0 (pv 1) c_KeptRow h_take_back (hr.mono (by decide)) passL))
 (pss_cons (ps_if (pt_cmpR (op_neD hr.units) (pe_own h_told (hr.mono (by decide)) pass0 (pa_cons (pv 1) pa_nil)) (pv 3) (nomark _)) (pss_one (ps_ret pe_bl)) pss_nil)
 (pss_cons (ps_set (i := 5) sc_behind_right.nd rfl (.inl rfl) (pe_op op_mod (pe_op op_add (pe_op op_add (pv 4) pe_int) (pe_own h_below (hr.mono (by decide)) pass0 (pa_cons (pv 0) (pa_cons (pe_callB (id := "max") (call_max2 rfl) (by rfl) z_max (by decide +kernel) (pa_cons pe_int (pa_cons (pe_op op_sub (pv 2) pe_int) pa_nil))) pa_nil)))) (pv 2)))
 (pss_one (ps_ret (pe_or (pe_cmpR op_eq (pv 5) (pv 4) (nomark _)) (pe_one (pe_and (pe_not (pe_own h_is_let (hr.mono (by decide)) pass0 (pa_cons (pv 1) (pa_cons (pv 5) pa_nil)))) (pe_one (pe_cmpR (op_eqD hr.units) (pe_own h_told (hr.mono (by decide)) pass0 (pa_cons (pv 1) pa_nil)) (pv 3) (nomark _))))))))))))))), ?_⟩
  obtain ⟨d, p, l, n, m, xs, rfl, rfl, rfl, hD, hn, ndl, hk, m1, m2, hl, rg, ft, q⟩ := h
  have m0 : 0 < m := by omega
  have nld : l ≠ d := Ne.symm ndl
  have npd : p ≠ d := by
    obtain ⟨dx, hp⟩ := hk.1
    obtain ⟨_, _, _, _, hd, _⟩ := hD
    exact fun z => by rw [z, hd] at hp; cases hp
  refine ⟨_, rfl, _, rfl, p, l, m, xs, rfl, hk, m1, m2, by omega, rg, ft, fun H1 a vs s1 na ha T1 => ?_⟩
  obtain ⟨ra, fa, ga, evs, hra, hfa, hga⟩ := id T1
  have ha' : H1 a = some (.lst [.ref ra, fa, ga]) := by rw [ha, evs]
  refine ⟨_, rfl, a, _, 2, ga, rfl, rfl, SqL.of ha', rfl, ?_⟩
  have hk1 := hk.same s1
  have D1 := hD.same s1
  have nad : a ≠ d := hD.ne na
  have nal : a ≠ l := fun z => by rw [z, hk.2] at na; cases na
  refine ⟨_, rfl, rfl, _, rfl, ?_⟩
  by_cases eg : ga = .non
  · refine ifT (decide_eq_true eg) ?_
    exact q H1 (D1.mono (by omega)) (fun b o _ _ e => s1 _ _ e) hk1
  refine ifF (decide_eq_false eg) ?_
  obtain ⟨n2, l0, st, F, e0⟩ : 2 ≤ xs.length ∧ ∃ l0 st, FitR m xs (xs.length - 2) (some (l0, st)) ∧ ga = behV m xs l0 st := by
    rcases hga with ⟨_, e⟩ | ⟨n2, l0, st, F, e⟩
    · exact absurd e eg
    · exact ⟨n2, l0, st, F, e⟩
  have en : nxB m xs l0 = nxB m xs (l0 + st) := by
    by_cases z : nxB m xs l0 = nxB m xs (l0 + st)
    · exact z
    · unfold behV at e0
      rw [if_neg z] at e0
      exact absurd e0 eg
  have eb : ga = .int (nxB m xs l0) := by
    unfold behV at e0
    rw [if_pos en] at e0
    exact e0
  subst eb
  have nb := nxB_rng m0 xs l0
  have Fn := fit_behind m0 rg n2 F en
  have ln : (xs ++ [nxB m xs l0]).length - 2 = xs.length - 1 := by rw [List.length_append]; show xs.length + 1 - 2 = _; omega
  have fs : Fits m (xs ++ [nxB m xs l0]) := fun z => by rw [ln] at z; cases z.uniq Fn
  refine ⟨_, rfl, _, rfl, _, _, rfl, p, l, m, _, xs, rfl, rfl, hk1, m1, m2, by omega, rg, nb.1, nb.2, (fun nf => absurd fs nf), (fun _ H2 f2 k2 => ⟨_, rfl, ifF rfl ?_⟩)⟩
  obtain ⟨dx2, hp2⟩ := k2.1
  have rg2 := rng_snoc1 rg nb.1 nb.2
  refine ⟨_, rfl, p, dx2, _, rfl, hp2, kf_no _ _ (by decide +kernel) (by decide +kernel), _, rfl, p, l, m, _, rfl, k2, m1, m2, by rw [List.length_append]; show xs.length + 1 ≤ _; omega, rg2, fun H3 v s3 fv _ => ?_⟩
  have ft1 : ∀ {x ys}, H1 x = some (.tup ys) → H3 x = some (.tup ys) := fun {x ys} e => s3 _ _ (f2 _ _ (fun z => by rw [z, hk1.2] at e; cases e) e)
  have ha3 := s3 _ _ (f2 _ _ nal ha')
  refine ⟨_, rfl, a, _, 1, fa, rfl, rfl, SqL.of ha3, rfl, ?_⟩
  obtain ⟨dd, p1, p2, ly⟩ : ∃ dd, Dp K H3 v dd ∧ Dp K H3 fa dd ∧ lay dd := by
    rcases fv with ⟨n3, _⟩ | ⟨_, ⟨_, f⟩ | ⟨q1, l1, s1', rfl, h1, f1⟩⟩
    · rw [List.length_append] at n3; exact absurd n3 (by show ¬ (xs.length + 1 < 2); omega)
    · rw [ln] at f; cases f.uniq Fn
    · rw [ln] at f1
      cases f1.uniq Fn
      rcases hfa with ⟨n3, _⟩ | ⟨_, ⟨_, f⟩ | ⟨q2, l2, s2', rfl, h2, f2'⟩⟩
      · omega
      · cases f.uniq F
      · cases f2'.uniq F
        exact ⟨_, .tup (SqT.of h1) (dp_ints [l0, st]), .tup (SqT.of (ft1 h2)) (dp_ints [l0, st]), lay_tup [l0, st]⟩
  refine ⟨dd, dd, p1, p2, shp_lay ly, shp_lay ly, ?_⟩
  rw [eqv_self (shp_lay ly)]
  refine ⟨_, rfl, ifF rfl ?_⟩
  have k3 := k2.same s3
  refine ⟨_, rfl, p, dx2, _, rfl, s3 _ _ hp2, kf_no _ _ (by decide +kernel) (by decide +kernel), _, rfl, p, l, m, _, rfl, k3, by rw [List.length_append]; show xs.length + 1 ≤ _; omega, (fun z => absurd z (by simp)), fun _ H4 f4 k4 => ?_⟩
  rw [List.dropLast_concat] at k4
  have f14 : Frm l H1 H4 := fun b o nb e => f4 _ _ nb (s3 _ _ (f2 _ _ nb e))
  have T4 := T1.keep (H' := H4) fun x ys e => f14 _ _ (fun z => by rw [z, hk1.2] at e; cases e) e
  have ha4 : H4 a = some (.lst vs) := f14 _ _ nal ha
  refine ⟨_, rfl, _, rfl, p, l, m, xs, rfl, k4, m1, m2, by omega, rg, ft, fun H5 a5 vs5 s5 na5 ha5 T5 => ?_⟩
  refine ⟨_, rfl, ?_⟩
  have T45 := T4.same s5
  obtain ⟨ds, d1, d2, _, sh⟩ := T5.two (K := K) T45
  refine ⟨.list ds, .list ds, .lst (SqL.of ha5) d1, .lst (SqL.of (s5 _ _ ha4)) d2, sh, sh, ?_⟩
  rw [eqv_self sh]
  refine ⟨_, rfl, ifF rfl ?_⟩
  have k5 := k4.same s5
  have f15 : Frm l H1 H5 := fun b o nb e => s5 _ _ (f14 _ _ nb e)
  have D5 : Seed H5 d n := by
    obtain ⟨a, f', k, c, z, rest⟩ := D1
    exact ⟨a, f', k, c, f15 _ _ ndl z, rest⟩
  refine ⟨_, rfl, _, _, rfl, rfl, _, rfl, _, rfl, _, _, rfl, rfl, _, _, rfl, ?_⟩
  obtain ⟨mx, emx, mx1, mx2⟩ : ∃ mx : Int, (if m - 1 > 1 then m - 1 else 1) = mx ∧ 1 ≤ mx ∧ mx ≤ 1000000000000 := ⟨_, rfl, by split <;> omega, by split <;> omega⟩
  refine ⟨_, _, rfl, d, n, _, rfl, rfl, by rw [emx]; omega, by rw [emx]; omega, D5, by omega, fun H6 w6 B6 D6 _ _ => ?_⟩
  refine ⟨_, _, rfl, rfl, _, rfl, _, _, rfl, rfl, m0, ?_⟩
  have ob := mod_bd (nxB m xs l0 + 1 + w6) m0
  have k6 := k5.but B6 npd nld
  have ndl' : ∀ b o, b ≠ d → b ≠ l → H b = some o → H6 b = some o := fun b o n1 n2 e => B6 _ _ n1 (f15 _ _ n2 (s1 _ _ e))
  refine ⟨_, rfl, _, rfl, rfl, _, rfl, ifI (fun e => q _ D6 ndl' k6) (fun e => ?_)⟩
  refine ⟨_, rfl, _, rfl, _, _, rfl, p, l, m, _, xs, rfl, rfl, k6, m1, m2, by omega, rg, ob.1, ob.2, (fun nf H7 s7 => ?_), (fun fs => ?_)⟩
  · refine ⟨_, rfl, _, rfl, ifT rfl ?_⟩
    have k7 := k6.same s7
    have T7 : Tri m xs H7 vs := (T45.keep (H' := H6) fun x ys e => B6 _ _ (D5.ne_tup e) e).same s7
    have ha7 : H7 a = some (.lst vs) := s7 _ _ (B6 _ _ nad (s5 _ _ ha4))
    refine ⟨_, rfl, _, rfl, p, l, m, xs, rfl, k7, m1, m2, by omega, rg, ft, fun H8 a8 vs8 s8 na8 ha8 T8 => ?_⟩
    refine ⟨_, rfl, ?_⟩
    obtain ⟨ds8, d3, d4, _, sh8⟩ := T8.two (K := K) (T7.same s8)
    refine ⟨.list ds8, .list ds8, .lst (SqL.of ha8) d3, .lst (SqL.of (s8 _ _ ha7)) d4, sh8, sh8, ?_⟩
    rw [eqv_self sh8]
    exact q _ ((D6.same s7).same s8) (fun b o n1 n2 e => s8 _ _ (s7 _ _ (ndl' b o n1 n2 e))) (k7.same s8)
  · have lo : ∀ y : Int, (xs ++ [y]).length - 2 = xs.length - 1 := fun y => by rw [List.length_append]; show xs.length + 1 - 2 = _; omega
    unfold Fits at fs
    rw [lo] at fs
    exact absurd (fit_other m0 rg n2 F en ob.1 ob.2 e) fs
end
end Tw


namespace Tw
open PySem PySem.Spec PyProof.Rows L2
abbrev s_again_right : Stmt := topS 37
theorem sc_again_right : FnScope ["kept", "bound", "ahead", "number"] ["kept", "bound"] (defScope s_again_right) := ⟨rfl, rfl, rfl, by decide +kernel, rfl, by decide +kernel, by decide +kernel⟩
section
variable {P : Program} {w : World} {K : PySem.W.Frag} {mg : Str → Option Value} {base : Heap}
theorem ok_again {C CN CF : Addr} (D : Top K mg "_law_again_right" s_again_right ["kept", "bound"]) (T : KTx K mg C) (h_told : Has P w K mg base CX0 11 "_law_told" ["kept"] (sp1 (pTold34 C))) (h_row_now : HasM P w K mg base CX0 1 C "row_now" ["self"] (sp1 (pRowNow C))) (h_see : HasM P w K mg base (L2.CX P w) 8 C "see" ["self", "number"] (sp2 (pSee C CN CF))) (h_take_back : HasM P w K mg base (L2.CX P w) 1 C "take_back" ["self"] (sp1 (pTake C CF))) : Has P w K mg base CX0 12 "_law_again_right" ["kept", "bound"] (sp2 (pAgain C)) := by
  refine D.ok2 sc_again_right (fun f cdv A outer s H v1 v2 Q E hr h => ?_)
  have c_KeptRow := T.cl
  have g_KeptRow := T.g
  refine ⟨_, (pss_cons (ps_set (i := 2) sc_again_right.nd rfl (.inl rfl) (pe_own h_told (hr.mono (by decide)) pass0 (pa_cons (pv 0) pa_nil)))
 (pss_cons (ps_while PassesOwn.never (pt_cmpR (op_neD hr.units) (pe_mth0 (pv 0) c_KeptRow h_row_now (hr.mono (by decide)) pass0) (pe_tup pa_nil) (nomark _)) (pss_one (ps_expr (pe_mth0 (pv 0) c_KeptRow h_take_back (hr.mono (by decide)) passL))))
 (pss_cons (ps_if (pt_cmpR (op_neD hr.units) (pe_own h_told (hr.mono (by decide)) pass0 (pa_cons (pv 0) pa_nil)) (pe_lst (pa_cons (pe_tup pa_nil) (pa_cons pe_non (pa_cons pe_non pa_nil)))) (nomark _)) (pss_one (ps_ret pe_bl)) pss_nil)
 (pss_cons (ps_for PassesOwn.never rfl (pi_tup (pe_slice sl_tupX (pe_ix ix_list (pv 2) pe_int (fun _ _ => rfl)) po_none (po_some pe_int))) (pg_name (i := 3) sc_again_right.nd rfl (.inl rfl)) (pss_one (ps_expr (pe_mth (pv 0) c_KeptRow h_see (hr.mono (by decide)) passL (pa_cons (pv 3) pa_nil)))))
 (pss_one (ps_ret (pe_cmpR (op_eqD hr.units) (pe_own h_told (hr.mono (by decide)) pass0 (pa_cons (pv 0) pa_nil)) (pv 2) (nomark _)))))))), ?_⟩
  obtain ⟨p, l, m, xs, rfl, rfl, hk, m1, m2, hl, rg, ft, q⟩ := h
  have m0 : 0 < m := by omega
  refine ⟨_, rfl, _, rfl, p, l, m, xs, rfl, hk, m1, m2, by omega, rg, ft, fun H1 a vs s1 na ha T1 => ?_⟩
  have nal : a ≠ l := fun z => by rw [z, hk.2] at na; cases na
  have hk1 := hk.same s1
  refine ⟨fun k σ H' => σ = [some (.ref p), some (.int m), some (.ref a), none] ∧ Frm l H1 H' ∧ KeptAt C H' p l m (xs.take k) ∧ k ≤ xs.length, ⟨xs.length, rfl, (fun _ _ _ e => e), by rw [List.take_length]; exact hk1, Nat.le_refl _⟩, ?_⟩
  rintro k σ H2 ⟨rfl, f2, k2, hk2⟩
  have lk : (xs.take k).length = k := by rw [List.length_take]; omega
  obtain ⟨dx, hp⟩ := k2.1
  refine ⟨_, rfl, p, dx, _, rfl, hp, kf_no _ _ (by decide +kernel) (by decide +kernel), _, rfl, p, l, m, _, rfl, k2, fun H3 b s3 nb hb => ?_⟩
  refine ⟨by show 0 ≤ sizeLine; decide, fun z nz => ?_⟩
  have sz := same_new (o := .tup []) nz
  refine ⟨.tuple ((xs.take k).map PyData.int), .tuple (([] : List Int).map PyData.int), .tup (SqT.of (sz _ _ hb)) (dp_ints _), .tup (SqT.of upd_same) (dp_ints []), shp_ints _, shp_ints [], _, rfl, ?_⟩
  rw [eqv_tints]
  have s4 := s3.trans sz
  have k4 := k2.same s4
  have hp4 := s4 _ _ hp
  have f4 : Frm l H1 (upd H3 z (.tup [])) := f2.trans s4.frm
  generalize upd H3 z (.tup []) = H4 at s4 k4 hp4 f4 ⊢
  by_cases e : xs.take k = []
  · refine ifF (by rw [decide_eq_true e]; rfl) ?_
    rw [e] at k4
    have Tn : ∀ {H' : Hp} {v0 : Addr}, H' v0 = some (.tup []) → Tri m [] H' [.ref v0, .non, .non] := fun {H' v0} e => ⟨v0, .non, .non, rfl, e, .inl ⟨by decide, rfl⟩, .inl ⟨by decide, rfl⟩⟩
    refine ⟨_, rfl, _, rfl, p, l, m, [], rfl, k4, m1, m2, by decide, (fun x h => by cases h), fits_short m0 (by decide), fun H5 a5 vs5 s5 na5 ha5 T5 => ?_⟩
    refine ⟨by show 0 ≤ sizeLine; decide, fun z0 nz0 => ⟨by show 3 ≤ sizeLine; decide, fun z1 nz1 => ?_⟩⟩
    have sz0 := same_new (o := .tup []) nz0
    have sz1 := same_new (o := .lst [.ref z0, .non, .non]) nz1
    have s56 := sz0.trans sz1
    obtain ⟨ds, d1, d2, _, sh⟩ := (T5.same s56).two (K := K) (Tn (sz1 _ _ upd_same))
    refine ⟨.list ds, .list ds, .lst (SqL.of (s56 _ _ ha5)) d1, .lst (SqL.of upd_same) d2, sh, sh, ?_⟩
    rw [eqv_self sh]
    refine ⟨_, rfl, ifF rfl ?_⟩
    have k6 := k4.same (s5.trans s56)
    have f6 := f4.trans (s5.trans s56).frm
    generalize upd (upd H5 z0 (.tup [])) z1 (.lst [.ref z0, .non, .non]) = H6 at k6 f6 ⊢
    obtain ⟨ra, fa, ga, evs, hra, hfa, hga⟩ := id T1
    have ha' : H6 a = some (.lst [.ref ra, fa, ga]) := f6 _ _ nal (by rw [ha, evs])
    have hra6 := f6 _ _ (fun z => by rw [z, hk1.2] at hra; cases hra) hra
    refine ⟨_, rfl, a, _, 0, .ref ra, rfl, rfl, SqL.of ha', rfl, ?_⟩
    refine ⟨_, rfl, ?_⟩
    refine ⟨ra, xs.map V.int, rfl, SqT.of hra6, fun H7 z7 s7 h7 => ?_⟩
    rw [show (some (58 : Int)) = some ((58 : Nat) : Int) from rfl, cut_takeI, List.take_of_length_le (by omega)] at h7
    refine ⟨z7, rfl, ⟨_, h7⟩, for_tup (K := K) (a := z7) (xs := xs.map V.int) (fun i σ H' => ∃ y3 : Option V, σ = [some (.ref p), some (.int m), some (.ref a), y3] ∧ KeptAt C H' p l m (xs.take i) ∧ Frm l H1 H' ∧ SqT K H' z7 (xs.map V.int)) ⟨_, rfl, k6.same s7, f6.trans s7.frm, h7⟩ ?_ ?_ ?_⟩
    · rintro i σ H' _ ⟨y3, rfl, _, _, h⟩
      exact h
    · rintro i x σ H' hi ⟨y3, rfl, k8, f8, h8⟩
      obtain ⟨rfl, li⟩ := vget hi
      obtain ⟨dx', hp8⟩ := k8.1
      have gx : 0 ≤ xs.getD i 0 ∧ xs.getD i 0 < m := rg _ (by rw [List.getD_eq_getElem?_getD, List.getElem?_eq_getElem li]; exact List.getElem_mem li)
      have lk1 : (xs.take i).length = i := by rw [List.length_take]; omega
      refine ⟨_, rfl, p, dx', _, rfl, hp8, kf_no _ _ (by decide +kernel) (by decide +kernel), _, rfl, _, _, rfl, p, l, m, _, _, rfl, rfl, k8, m1, m2, by omega, rng_take rg i, (fun nb => absurd gx nb), (fun _ nf => absurd (by rw [← take_snoc li]; exact fits_take m0 ft (by omega)) nf), fun _ _ H9 f9 k9 => ?_⟩
      rw [← take_snoc li] at k9
      exact ⟨_, rfl, k9, f8.trans f9, f9.sqT k8.2 h8⟩
    rintro σ H8 ⟨y3, rfl, k8, f8, _⟩
    rw [List.length_map, List.take_length] at k8
    have T8 := T1.keep (H' := H8) fun x ys e => f8 _ _ (fun z => by rw [z, hk1.2] at e; cases e) e
    have ha8 : H8 a = some (.lst vs) := f8 _ _ nal ha
    refine ⟨_, rfl, _, rfl, p, l, m, xs, rfl, k8, m1, m2, by omega, rg, ft, fun H9 a9 vs9 s9 na9 ha9 T9 => ?_⟩
    refine ⟨_, rfl, ?_⟩
    obtain ⟨ds9, d3, d4, _, sh9⟩ := T9.two (K := K) (T8.same s9)
    refine ⟨.list ds9, .list ds9, .lst (SqL.of ha9) d3, .lst (SqL.of (s9 _ _ ha8)) d4, sh9, sh9, ?_⟩
    rw [eqv_self sh9]
    exact q _ (s1.frm.trans (f8.trans s9.frm)) (k8.same s9)
  · refine ifT (by rw [decide_eq_false e]; rfl) ?_
    have kp : 0 < k := by
      rcases Nat.eq_zero_or_pos k with z | z
      · exact absurd (by rw [z]; rfl) e
      · exact z
    refine ⟨fun σ' H' => ∃ k', k' < k ∧ σ' = [some (.ref p), some (.int m), some (.ref a), none] ∧ Frm l H1 H' ∧ KeptAt C H' p l m (xs.take k') ∧ k' ≤ xs.length, fun _ _ z => z, ?_⟩
    refine ⟨_, rfl, p, dx, _, rfl, hp4, kf_no _ _ (by decide +kernel) (by decide +kernel), _, rfl, p, l, m, _, rfl, k4, by omega, (fun z => absurd z e), fun _ H5 f5 k5 => ?_⟩
    rw [take_drop hk2] at k5
    exact ⟨k - 1, by omega, rfl, f4.trans f5, k5, by omega⟩
end
end Tw


namespace Tw
open PySem PySem.Spec PyProof.Rows L2
abbrev s_law : Stmt := topS 38
theorem sc_law : FnScope ["script", "cell", "seed", "bound", "kept", "row", "turn"] ["script"] (defScope s_law) := ⟨rfl, rfl, rfl, by decide +kernel, rfl, by decide +kernel, by decide +kernel⟩
section
variable {P : Program} {w : World} {K : PySem.W.Frag} {mg : Str → Option Value} {base : Heap}
theorem ok_law {C CN CF fL : Addr} {fdL : FuncData} (F : Fun K "law" "law" s_law fL fdL) (T : KTx K mg C) (h_kinit : HasI P w K mg base CX0 1 C ["self", "bound"] (sp2 (pKinit C))) (h_row_now : HasM P w K mg base CX0 1 C "row_now" ["self"] (sp1 (pRowNow C))) (h_folded : Has P w K mg base CX0 1 "_law_folded" ["script"] (sp1 (pFolded K))) (h_seed : Has P w K mg base CX0 1 "_law_seed" ["cell"] (sp1 pSeed)) (h_bound : Has P w K mg base CX0 3 "_law_bound" ["seed", "kinds"] (sp2 pBnd)) (h_draw : Has P w K mg base CX0 1 "_law_draw" ["seed", "most"] (sp2 (pDrw 1))) (h_told : Has P w K mg base CX0 11 "_law_told" ["kept"] (sp1 (pTold34 C))) (h_afresh : Has P w K mg base CX0 9 "_law_afresh" ["row", "bound"] (sp2 (pAfresh C))) (h_deed : Has P w K mg base CX0 10 "_law_deed" ["seed", "kept", "row", "bound"] (sp4 (pDeed34 C))) (h_beneath_right : Has P w K mg base CX0 11 "_law_beneath_right" ["kept", "bound"] (sp2 (pBeneath C))) (h_behind_right : Has P w K mg base CX0 12 "_law_behind_right" ["seed", "kept", "bound"] (sp3 (pBehind34 C))) (h_again_right : Has P w K mg base CX0 12 "_law_again_right" ["kept", "bound"] (sp2 (pAgain C))) (z_range : mg "range" = none) (z_len : mg "len" = none) (z_tuple : mg "tuple" = none) :
    FnOk P w K mg base CX0 13 fL fdL ["script"] (sp1 fun a H Q _ => ∃ (sa : Addr) (xs : List Int), a = .ref sa ∧ SqL K H sa (xs.map V.int) ∧ xs.length ≤ 63 ∧ ∀ H', Q (.bl true) H') := by
  refine F.ok sc_law (fun vs H Q E h => by obtain ⟨_, rfl, _⟩ := h; rfl) (fun cdv A outer s H vs Q E hr h => ?_)
  obtain ⟨v1, rfl, sa, xs, rfl, hS, hl, q⟩ := h
  have c_KeptRow := T.cl
  have g_KeptRow := T.g
  refine ⟨_, (pss_cons (ps_for PassesOwn.never rfl (pi_list (pe_op op_cat (pe_slice sl_list (pv 0) po_none (po_some pe_int)) (pe_lst (pa_cons (pe_own h_folded (hr.mono (by decide)) pass0 (pa_cons (pv 0) pa_nil)) pa_nil)))) (pg_name (i := 1) sc_law.nd rfl (.inl rfl)) (pss_cons (ps_set (i := 2) sc_law.nd rfl (.inl rfl) (pe_own h_seed (hr.mono (by decide)) pass0 (pa_cons (pv 1) pa_nil)))
 (pss_cons (ps_set (i := 3) sc_law.nd rfl (.inl rfl) (pe_own h_bound (hr.mono (by decide)) pass0 (pa_cons (pv 2) (pa_cons pe_int pa_nil))))
 (pss_cons (ps_set (i := 4) sc_law.nd rfl (.inl rfl) (pe_mkO h_kinit (hr.mono (by decide)) g_KeptRow pass0 (pa_cons (pv 3) pa_nil)))
 (pss_cons (ps_set (i := 5) sc_law.nd rfl (.inl rfl) (pe_lst pa_nil))
 (pss_cons (ps_for PassesOwn.never rfl (pi_range1 (by rfl) z_range (pa_cons (pe_own h_draw (hr.mono (by decide)) pass0 (pa_cons (pv 2) (pa_cons pe_int pa_nil))) pa_nil)) (pg_name (i := 6) sc_law.nd rfl (.inl rfl)) (C8.pss_cut (ps_if (PW.pt (pw_and (pt_cmpR op_eq (pe_own h_draw (hr.mono (by decide)) pass0 (pa_cons (pv 2) (pa_cons pe_int pa_nil))) pe_int (nomark _)) (pw_and1 (pt_cmpR (op_neD hr.units) (pe_own h_told (hr.mono (by decide)) pass0 (pa_cons (pv 4) pa_nil)) (pe_own h_told (hr.mono (by decide)) pass0 (pa_cons (pe_own h_afresh (hr.mono (by decide)) pass0 (pa_cons (pv 5) (pa_cons (pv 3) pa_nil))) pa_nil)) (nomark _))))) (pss_one (ps_ret pe_bl)) pss_nil)
 (pss_one (ps_expr (pe_own h_deed (hr.mono (by decide)) pass0 (pa_cons (pv 2) (pa_cons (pv 4) (pa_cons (pv 5) (pa_cons (pv 3) pa_nil)))))))))
 (pss_cons (ps_if (PW.pt (pw_or (pt_cmpR (op_neD hr.units) (pe_own h_told (hr.mono (by decide)) pass0 (pa_cons (pv 4) pa_nil)) (pe_own h_told (hr.mono (by decide)) pass0 (pa_cons (pe_own h_afresh (hr.mono (by decide)) pass0 (pa_cons (pv 5) (pa_cons (pv 3) pa_nil))) pa_nil)) (nomark _)) (pw_or1 (pt_not (pt_val (pe_own h_beneath_right (hr.mono (by decide)) pass0 (pa_cons (pv 4) (pa_cons (pv 3) pa_nil)))))))) (pss_one (ps_ret pe_bl)) pss_nil)
 (pss_cons (ps_if (pt_cmpR (op_neD hr.units) (pe_mth0 (pv 4) c_KeptRow h_row_now (hr.mono (by decide)) pass0) (pe_callTy call_tuple_of (by rfl) z_tuple (by decide +kernel) (pa_cons (pv 5) pa_nil)) (nomark _)) (pss_one (ps_ret pe_bl)) pss_nil)
 (pss_cons (ps_if (PW.pt (pw_or (pt_not (pt_val (pe_own h_behind_right (hr.mono (by decide)) pass0 (pa_cons (pv 2) (pa_cons (pv 4) (pa_cons (pv 3) pa_nil)))))) (pw_or1 (PW.pt (pw_and (pt_cmpR op_lt (pe_callB (id := "len") call_len_seq (by rfl) z_len (by decide +kernel) (pa_cons (pe_mth0 (pv 4) c_KeptRow h_row_now (hr.mono (by decide)) pass0) pa_nil)) pe_int (nomark _)) (pw_and1 (pt_not (pt_val (pe_own h_again_right (hr.mono (by decide)) pass0 (pa_cons (pv 4) (pa_cons (pv 3) pa_nil))))))))))) (pss_one (ps_ret pe_bl)) pss_nil)
 (pss_one (ps_if (pt_not (pt_val (pe_own h_beneath_right (hr.mono (by decide)) pass0 (pa_cons (pv 4) (pa_cons (pv 3) pa_nil))))) (pss_one (ps_ret pe_bl)) pss_nil)))))))))))
 (pss_one (ps_ret pe_bl))), ?_⟩
  refine ⟨_, rfl, _, rfl, sa, _, rfl, hS, fun l1 nl1 => ?_⟩
  rw [show (some (1 : Int)) = some ((1 : Nat) : Int) from rfl, cut_takeI]
  have s1 := same_new (o := .lst ((xs.take 1).map V.int)) nl1
  refine ⟨_, rfl, _, rfl, sa, xs, rfl, s1.seq hS, hl, fun v => ?_⟩
  refine ⟨by show 1 ≤ sizeLine; decide, fun l2 nl2 => ?_⟩
  have s2 := same_new (o := .lst [.int v]) nl2
  refine ⟨l1, l2, _, _, rfl, rfl, s2 _ _ upd_same, upd_same, sz (by rw [List.length_map]; have := List.length_take_le 1 xs; show _ + 1 ≤ _; omega), fun l3 nl3 => ?_⟩
  have e3 : (xs.take 1).map V.int ++ [.int v] = (xs.take 1 ++ [v]).map V.int := by rw [List.map_append]; rfl
  rw [e3]
  have h3 : (upd (upd (upd H l1 (.lst ((xs.take 1).map V.int))) l2 (.lst [.int v])) l3 (.lst ((xs.take 1 ++ [v]).map V.int))) l3 = some (.lst ((xs.take 1 ++ [v]).map V.int)) := upd_same
  generalize upd (upd (upd H l1 (.lst ((xs.take 1).map V.int))) l2 (.lst [.int v])) l3 (.lst ((xs.take 1 ++ [v]).map V.int)) = H3 at h3
  generalize xs.take 1 ++ [v] = cs at h3
  refine ⟨l3, rfl, ⟨_, SqL.of h3⟩, for_list (K := K) (a := l3) (xs := cs.map V.int) (fun i σ H' => ∃ (y1 y2 y3 y4 y5 y6 : Option V), σ = [some (.ref sa), y1, y2, y3, y4, y5, y6] ∧ Same H3 H') ⟨_, _, _, _, _, _, rfl, fun _ _ z => z⟩ ?_ ?_ ?_⟩
  · rintro i σ H' _ ⟨y1, y2, y3, y4, y5, y6, rfl, sm⟩
    exact SqL.of (sm _ _ h3)
  · rintro i x σ H4 hi ⟨y1, y2, y3, y4, y5, y6, rfl, sm⟩
    obtain ⟨rfl, li⟩ := vget hi
    refine ⟨_, rfl, _, rfl, _, rfl, fun H5 d s5 nd D5 => ?_⟩
    have nd3 := sm.free nd
    refine ⟨_, rfl, _, _, rfl, d, 0, 6, rfl, rfl, by decide, by decide, D5, by decide, fun H6 b B6 D6 b0 b1 _ => ?_⟩
    have bp : 0 < b := by omega
    have s36 : Same H3 H6 := same_butNew (sm.trans s5) nd3 B6
    refine ⟨_, rfl, fun p dx np ndx nep => ?_⟩
    have sp : Same H6 (upd (upd H6 dx (.own p)) p (.ins C dx [])) := (same_new ndx).trans (same_new (by rw [upd_ne (Ne.symm nep)]; exact np))
    refine ⟨_, _, rfl, H6, p, dx, b, rfl, rfl, sp, np, upd_same, fun H7 l s7 nl npl K7 => ⟨rfl, ?_⟩⟩
    refine ⟨by show 0 ≤ sizeLine; decide, fun r nr => ?_⟩
    have sr := same_new (o := .lst []) nr
    have D7 := D6.same s7
    have pd : p ≠ d := D6.ne np
    have ld : l ≠ d := D6.ne nl
    have rd : r ≠ d := D7.ne nr
    have lr : l ≠ r := fun z => by have := K7.2; rw [z, nr] at this; cases this
    have nl3 := s36.free nl
    have nr3 := (s36.trans s7).free nr
    have S0 : St32 C H3 (upd H7 r (.lst [])) d p l r b 3 [] := ⟨s36.trans (s7.trans sr), D7.same sr, K7.same sr, upd_same, fun y hy => absurd hy (List.not_mem_nil), fits_short bp (by show 0 ≤ 2; decide)⟩
    generalize upd H7 r (.lst []) = H8 at S0 ⊢
    refine ⟨_, rfl, _, _, rfl, d, 3, 51, rfl, rfl, by decide, by decide, S0.sd, by decide, fun H9 k B9 D9 k0 k1 => ⟨_, rfl, by omega, by omega, ?_⟩⟩
    have S9 := S0.but nd3 pd ld rd B9 D9
    refine for_range (lo := 0) (n := k.toNat) (fun j σ H' => ∃ (ys : List Int) (y6 : Option V), σ = [some (.ref sa), some (.int (cs.getD i 0)), some (.ref d), some (.int b), some (.ref p), some (.ref r), y6] ∧ St32 C H3 H' d p l r b (4 + 5 * j) ys ∧ ys.length ≤ j ∧ j ≤ 51) ⟨[], _, rfl, S9, by decide, by decide⟩ ?_ ?_
    · rintro j σ H' hj ⟨ys, y6, rfl, S, ly, _⟩
      refine ⟨fun σ' H' => σ' = [some (.ref sa), some (.int (cs.getD i 0)), some (.ref d), some (.int b), some (.ref p), some (.ref r), some (.int (0 + (j : Int)))] ∧ St32 C H3 H' d p l r b (4 + 5 * j + 1) ys, ?_, ?_⟩
      · refine ⟨_, rfl, _, _, rfl, d, _, 3, rfl, rfl, by decide, by decide, S.sd, by omega, fun H2 z B2 D2 _ _ => ⟨rfl, _, rfl, ifI (fun e => ?_) (fun e => ?_)⟩⟩
        · have S2 := S.but nd3 pd ld rd B2 D2
          refine ⟨_, rfl, _, rfl, p, l, b, ys, rfl, S2.ka, b0, b1, by omega, S2.rg, S2.ft, fun H3' a vs s3 na ha T1 => ?_⟩
          have S3 := S2.same s3
          refine ⟨_, rfl, _, rfl, _, _, rfl, r, b, ys, rfl, rfl, S3.ro, b0, b1, by omega, S3.rg, S3.ft, fun H4' p4 l4 s4 K4 => ?_⟩
          refine ⟨_, rfl, p4, l4, b, ys, rfl, K4, b0, b1, by omega, S3.rg, S3.ft, fun H5' a5 vs5 s5 na5 ha5 T5 => ?_⟩
          have s45 := s4.trans s5
          obtain ⟨ds, d1, d2, _, sh⟩ := (T1.same s45).two (K := K) T5
          refine ⟨.list ds, .list ds, .lst (SqL.of (s45 _ _ ha)) d1, .lst (SqL.of ha5) d2, sh, sh, ?_⟩
          rw [eqv_self sh]
          exact ⟨_, rfl, ifF rfl ⟨rfl, S3.same s45⟩⟩
        · exact ifF rfl ⟨rfl, S.but nd3 pd ld rd B2 D2⟩
      · rintro σ' H2 ⟨rfl, S2⟩
        refine ⟨_, rfl, _, rfl, _, rfl, _, rfl, _, _, _, _, rfl, d, p, l, r, _, b, ys, rfl, rfl, rfl, rfl, S2.sd, by omega, Ne.symm ld, Ne.symm rd, lr, S2.ka, S2.ro, b0, b1, S2.rg, by omega, S2.ft, fun H3' zs D3 f3 K3 R3 rg3 ft3 lz => ?_⟩
        exact ⟨zs, _, rfl, S2.deed3 nd3 nl3 nr3 f3 D3 K3 R3 rg3 ft3, by omega, by omega⟩
    rintro σ H1 ⟨ys, y6, rfl, S, ly, _⟩
    have lys : ys.length ≤ 51 := by omega
    refine ⟨_, rfl, _, rfl, p, l, b, ys, rfl, S.ka, b0, b1, by omega, S.rg, S.ft, fun H3' a vs s3 na ha T1 => ?_⟩
    have S3 := S.same s3
    refine ⟨_, rfl, _, rfl, _, _, rfl, r, b, ys, rfl, rfl, S3.ro, b0, b1, by omega, S3.rg, S3.ft, fun H4' p4 l4 s4 K4 => ?_⟩
    refine ⟨_, rfl, p4, l4, b, ys, rfl, K4, b0, b1, by omega, S3.rg, S3.ft, fun H5' a5 vs5 s5 na5 ha5 T5 => ?_⟩
    have s45 := s4.trans s5
    obtain ⟨ds, d1, d2, _, sh⟩ := (T1.same s45).two (K := K) T5
    refine ⟨.list ds, .list ds, .lst (SqL.of (s45 _ _ ha)) d1, .lst (SqL.of ha5) d2, sh, sh, ?_⟩
    rw [eqv_self sh]
    refine ⟨_, rfl, ifF rfl ?_⟩
    have S5 := S3.same s45
    refine ⟨_, rfl, _, rfl, _, _, rfl, p, l, b, ys, rfl, rfl, S5.ka, b0, b1, by omega, S5.rg, S5.ft, fun H6 s6 => ⟨_, rfl, ifF rfl ?_⟩⟩
    have S6 := S5.same s6
    obtain ⟨dx6, hp6⟩ := S6.ka.1
    refine ⟨_, rfl, p, dx6, _, rfl, hp6, kf_no _ _ (by decide +kernel) (by decide +kernel), _, rfl, _, _, _, _, rfl, S6.ka, fun H7 q1 s7 nq1 hq1 => ?_⟩
    have S7 := S6.same s7
    refine ⟨_, rfl, r, _, rfl, .inl ⟨SqL.of S7.ro, fun q2 nq2 => ?_⟩⟩
    have s8 := same_new (o := .tup (ys.map V.int)) nq2
    refine ⟨.tuple (ys.map PyData.int), .tuple (ys.map PyData.int), .tup (SqT.of (s8 _ _ hq1)) (dp_ints _), .tup (SqT.of upd_same) (dp_ints _), shp_ints _, shp_ints _, ?_⟩
    rw [eqv_self (shp_ints _)]
    refine ⟨_, rfl, ifF rfl ?_⟩
    have S8 := S7.same s8
    generalize upd H7 q2 (.tup (ys.map V.int)) = H8 at S8 ⊢
    refine ⟨_, rfl, _, rfl, _, rfl, _, _, _, rfl, d, p, l, _, b, ys, rfl, rfl, rfl, S8.sd, by omega, Ne.symm ld, S8.ka, b0, b1, by omega, S8.rg, S8.ft, fun H9 D9 f9 K9 => ⟨_, rfl, ifF rfl ?_⟩⟩
    have S9 := S8.deed3 nd3 nl3 nr3 (fun x o n1 n2 n3 e => f9 _ _ n1 n2 e) D9 K9 (f9 _ _ rd (Ne.symm lr) S8.ro) S8.rg S8.ft
    obtain ⟨dx9, hp9⟩ := K9.1
    have fin : ∀ {H' : Hp} {n' : Nat}, St32 C H3 H' d p l r b n' ys → (tIfS (tNot (tB (tCall (sp2 (pBeneath C)) [] E0 (tCons (tVar 4) (tCons (tVar 3) tNil))))) (tRet (tC (V.bl false))) tNext) { nx := fun σ H' => ∃ (y1 y2 y3 y4 y5 y6 : Option V), σ = [some (.ref sa), y1, y2, y3, y4, y5, y6] ∧ Same H3 H', rt := Q } [some (.ref sa), some (.int (cs.getD i 0)), some (.ref d), some (.int b), some (.ref p), some (.ref r), y6] H' := fun {H' n'} S => ⟨_, rfl, _, rfl, _, _, rfl, p, l, b, ys, rfl, rfl, S.ka, b0, b1, by omega, S.rg, S.ft, fun H' s' => ⟨_, rfl, ifF rfl ⟨_, _, _, _, _, _, rfl, S.sm.trans s'⟩⟩⟩
    refine ⟨_, rfl, p, dx9, _, rfl, hp9, kf_no _ _ (by decide +kernel) (by decide +kernel), _, rfl, _, _, _, _, rfl, K9, fun H10 q10 s10 nq10 hq10 => ?_⟩
    refine ⟨q10, _, rfl, .inr (SqT.of hq10), _, _, rfl, rfl, _, rfl, ifD (fun e => ?_) (fun e => ifF rfl (fin (S9.same s10)))⟩
    rw [List.length_map] at e
    have S10 := S9.same s10
    refine ⟨_, rfl, _, rfl, _, _, rfl, p, l, b, ys, rfl, rfl, S10.ka, b0, b1, by omega, S10.rg, S10.ft, fun H11 f11 K11 => ⟨_, rfl, ifF rfl ?_⟩⟩
    exact fin (S10.deed3 nd3 nl3 nr3 (fun x o n1 n2 n3 e => f11 _ _ n2 e) (by
      obtain ⟨a, f', k, c, z, rest⟩ := S10.sd
      exact ⟨a, f', k, c, f11 _ _ (Ne.symm ld) z, rest⟩) K11 (f11 _ _ (Ne.symm lr) S10.ro) S10.rg S10.ft)
  · rintro σ H' ⟨y1, y2, y3, y4, y5, y6, rfl, sm⟩
    exact q _
end
end Tw


namespace Tw
open PySem PySem.Spec PyProof.Rows L2

def spLaw (K : PySem.W.Frag) : Sp := sp1 fun a H Q _ => ∃ (sa : Addr) (xs : List Int), a = .ref sa ∧ SqL K H sa (xs.map V.int) ∧ xs.length ≤ 63 ∧ ∀ H', Q (.bl true) H'
theorem all_mk {l : PySem.W.OpenLaw} {w : World} {K : PySem.W.Frag} {h : Heap} {mg : Str → Option Value} {fa CR CF CN f0 f1 f2 f3 f4 f5 f6 f7 f8 f9 f10 f11 f12 f13 f14 f15 f16 f17 f18 f19 f20 f21 f22 f23 f24 f25 fI Nn C0 mt0 mt1 mt2 mt3 mt4 mt5 : Addr} (X : K.In h) (G : h.Ns mainGlobals mg) (hfa : mg "law" = some (.ref fa))
    {oc0 kV0 dc0 pm0 cd0 ct0 : Value} {od0 an0 : Option Addr} {sl0 : Array (Option Value)}
    {oc1 kV1 dc1 pm1 cd1 ct1 : Value} {od1 an1 : Option Addr} {sl1 : Array (Option Value)}
    {oc2 kV2 dc2 pm2 cd2 ct2 : Value} {od2 an2 : Option Addr} {sl2 : Array (Option Value)}
    {oc3 kV3 dc3 pm3 cd3 ct3 : Value} {od3 an3 : Option Addr} {sl3 : Array (Option Value)}
    {oc4 kV4 dc4 pm4 cd4 ct4 : Value} {od4 an4 : Option Addr} {sl4 : Array (Option Value)}
    {oc5 kV5 dc5 pm5 cd5 ct5 : Value} {od5 an5 : Option Addr} {sl5 : Array (Option Value)}
    {oc6 kV6 dc6 pm6 cd6 ct6 : Value} {od6 an6 : Option Addr} {sl6 : Array (Option Value)}
    {oc7 kV7 dc7 pm7 cd7 ct7 : Value} {od7 an7 : Option Addr} {sl7 : Array (Option Value)}
    {oc8 kV8 dc8 pm8 cd8 ct8 : Value} {od8 an8 : Option Addr} {sl8 : Array (Option Value)}
    {oc9 kV9 dc9 pm9 cd9 ct9 : Value} {od9 an9 : Option Addr} {sl9 : Array (Option Value)}
    {oc10 kV10 dc10 pm10 cd10 ct10 : Value} {od10 an10 : Option Addr} {sl10 : Array (Option Value)}
    {oc11 kV11 dc11 pm11 cd11 ct11 : Value} {od11 an11 : Option Addr} {sl11 : Array (Option Value)}
    {oc12 kV12 dc12 pm12 cd12 ct12 : Value} {od12 an12 : Option Addr} {sl12 : Array (Option Value)}
    {oc13 kV13 dc13 pm13 cd13 ct13 : Value} {od13 an13 : Option Addr} {sl13 : Array (Option Value)}
    {oc14 kV14 dc14 pm14 cd14 ct14 : Value} {od14 an14 : Option Addr} {sl14 : Array (Option Value)}
    {oc15 kV15 dc15 pm15 cd15 ct15 : Value} {od15 an15 : Option Addr} {sl15 : Array (Option Value)}
    {oc16 kV16 dc16 pm16 cd16 ct16 : Value} {od16 an16 : Option Addr} {sl16 : Array (Option Value)}
    {oc17 kV17 dc17 pm17 cd17 ct17 : Value} {od17 an17 : Option Addr} {sl17 : Array (Option Value)}
    {oc18 kV18 dc18 pm18 cd18 ct18 : Value} {od18 an18 : Option Addr} {sl18 : Array (Option Value)}
    {oc19 kV19 dc19 pm19 cd19 ct19 : Value} {od19 an19 : Option Addr} {sl19 : Array (Option Value)}
    {oc20 kV20 dc20 pm20 cd20 ct20 : Value} {od20 an20 : Option Addr} {sl20 : Array (Option Value)}
    {oc21 kV21 dc21 pm21 cd21 ct21 : Value} {od21 an21 : Option Addr} {sl21 : Array (Option Value)}
    {oc22 kV22 dc22 pm22 cd22 ct22 : Value} {od22 an22 : Option Addr} {sl22 : Array (Option Value)}
    {oc23 kV23 dc23 pm23 cd23 ct23 : Value} {od23 an23 : Option Addr} {sl23 : Array (Option Value)}
    {oc24 kV24 dc24 pm24 cd24 ct24 : Value} {od24 an24 : Option Addr} {sl24 : Array (Option Value)}
    {oc25 kV25 dc25 pm25 cd25 ct25 : Value} {od25 an25 : Option Addr} {sl25 : Array (Option Value)}
    {nm qn : Str} {bs : List Value} {sn : List Str} {sub : List Value} {ab : Bool} {col : Option Bool} {dd : Option Addr} {m0 m1 m2 m3 m5 : Option Value} {ocI kVI dcI pmI cdI ctI : Value} {odI anI : Option Addr} {slI : Array (Option Value)}
    {oM0 kM0 dM0 pM0 eM0 tM0 : Value} {qM0 bM0 : Option Addr} {sM0 : Array (Option Value)}
    {oM1 kM1 dM1 pM1 eM1 tM1 : Value} {qM1 bM1 : Option Addr} {sM1 : Array (Option Value)}
    {oM2 kM2 dM2 pM2 eM2 tM2 : Value} {qM2 bM2 : Option Addr} {sM2 : Array (Option Value)}
    {oM3 kM3 dM3 pM3 eM3 tM3 : Value} {qM3 bM3 : Option Addr} {sM3 : Array (Option Value)}
    {oM4 kM4 dM4 pM4 eM4 tM4 : Value} {qM4 bM4 : Option Addr} {sM4 : Array (Option Value)}
    {oM5 kM5 dM5 pM5 eM5 tM5 : Value} {qM5 bM5 : Option Addr} {sM5 : Array (Option Value)}
    (aCR : PySem.W.nsIn K mainGlobals "RowError" = some (some (.ref CR)))
    (aCF : PySem.W.nsIn K mainGlobals "NoFit" = some (some (.ref CF)))
    (aCN : PySem.W.nsIn K mainGlobals "NoNumber" = some (some (.ref CN)))
    (a0 : PySem.W.nsIn K mainGlobals "_law_folded" = some (some (.ref f0)))
    (l0 : K.lookup f0 = some ⟨oc0, od0, .func (PySem.W.fnOf "_law_folded" "_law_folded" (defArgs s_folded) (defBody s_folded) (defScope s_folded) .none kV0 dc0 pm0 an0 cd0 ct0), sl0⟩)
    (c0 : PySem.W.codeIn K cd0 "_law_folded" = true)
    (k0 : PySem.W.keepIn K (.ref f0) = true)
    (a1 : PySem.W.nsIn K mainGlobals "_law_seed" = some (some (.ref f1)))
    (l1 : K.lookup f1 = some ⟨oc1, od1, .func (PySem.W.fnOf "_law_seed" "_law_seed" (defArgs s_seed) (defBody s_seed) (defScope s_seed) .none kV1 dc1 pm1 an1 cd1 ct1), sl1⟩)
    (c1 : PySem.W.codeIn K cd1 "_law_seed" = true)
    (k1 : PySem.W.keepIn K (.ref f1) = true)
    (a2 : PySem.W.nsIn K mainGlobals "_law_draw" = some (some (.ref f2)))
    (l2 : K.lookup f2 = some ⟨oc2, od2, .func (PySem.W.fnOf "_law_draw" "_law_draw" (defArgs s_draw) (defBody s_draw) (defScope s_draw) .none kV2 dc2 pm2 an2 cd2 ct2), sl2⟩)
    (c2 : PySem.W.codeIn K cd2 "_law_draw" = true)
    (k2 : PySem.W.keepIn K (.ref f2) = true)
    (a3 : PySem.W.nsIn K mainGlobals "_law_below" = some (some (.ref f3)))
    (l3 : K.lookup f3 = some ⟨oc3, od3, .func (PySem.W.fnOf "_law_below" "_law_below" (defArgs s_below) (defBody s_below) (defScope s_below) .none kV3 dc3 pm3 an3 cd3 ct3), sl3⟩)
    (c3 : PySem.W.codeIn K cd3 "_law_below" = true)
    (k3 : PySem.W.keepIn K (.ref f3) = true)
    (a4 : PySem.W.nsIn K mainGlobals "_law_bound" = some (some (.ref f4)))
    (l4 : K.lookup f4 = some ⟨oc4, od4, .func (PySem.W.fnOf "_law_bound" "_law_bound" (defArgs s_bound) (defBody s_bound) (defScope s_bound) .none kV4 dc4 pm4 an4 cd4 ct4), sl4⟩)
    (c4 : PySem.W.codeIn K cd4 "_law_bound" = true)
    (k4 : PySem.W.keepIn K (.ref f4) = true)
    (a5 : PySem.W.nsIn K mainGlobals "is_whole" = some (some (.ref f5)))
    (l5 : K.lookup f5 = some ⟨oc5, od5, .func (PySem.W.fnOf "is_whole" "is_whole" (defArgs s_is_whole) (defBody s_is_whole) (defScope s_is_whole) .none kV5 dc5 pm5 an5 cd5 ct5), sl5⟩)
    (c5 : PySem.W.codeIn K cd5 "is_whole" = true)
    (k5 : PySem.W.keepIn K (.ref f5) = true)
    (a6 : PySem.W.nsIn K mainGlobals "is_number" = some (some (.ref f6)))
    (l6 : K.lookup f6 = some ⟨oc6, od6, .func (PySem.W.fnOf "is_number" "is_number" (defArgs s_is_number) (defBody s_is_number) (defScope s_is_number) .none kV6 dc6 pm6 an6 cd6 ct6), sl6⟩)
    (c6 : PySem.W.codeIn K cd6 "is_number" = true)
    (k6 : PySem.W.keepIn K (.ref f6) = true)
    (a7 : PySem.W.nsIn K mainGlobals "check_number" = some (some (.ref f7)))
    (l7 : K.lookup f7 = some ⟨oc7, od7, .func (PySem.W.fnOf "check_number" "check_number" (defArgs s_check_number) (defBody s_check_number) (defScope s_check_number) .none kV7 dc7 pm7 an7 cd7 ct7), sl7⟩)
    (c7 : PySem.W.codeIn K cd7 "check_number" = true)
    (k7 : PySem.W.keepIn K (.ref f7) = true)
    (a8 : PySem.W.nsIn K mainGlobals "next_of" = some (some (.ref f8)))
    (l8 : K.lookup f8 = some ⟨oc8, od8, .func (PySem.W.fnOf "next_of" "next_of" (defArgs s_next_of) (defBody s_next_of) (defScope s_next_of) .none kV8 dc8 pm8 an8 cd8 ct8), sl8⟩)
    (c8 : PySem.W.codeIn K cd8 "next_of" = true)
    (k8 : PySem.W.keepIn K (.ref f8) = true)
    (a9 : PySem.W.nsIn K mainGlobals "common_divisor" = some (some (.ref f9)))
    (l9 : K.lookup f9 = some ⟨oc9, od9, .func (PySem.W.fnOf "common_divisor" "common_divisor" (defArgs s_common_divisor) (defBody s_common_divisor) (defScope s_common_divisor) .none kV9 dc9 pm9 an9 cd9 ct9), sl9⟩)
    (c9 : PySem.W.codeIn K cd9 "common_divisor" = true)
    (k9 : PySem.W.keepIn K (.ref f9) = true)
    (a10 : PySem.W.nsIn K mainGlobals "inverse" = some (some (.ref f10)))
    (l10 : K.lookup f10 = some ⟨oc10, od10, .func (PySem.W.fnOf "inverse" "inverse" (defArgs s_inverse) (defBody s_inverse) (defScope s_inverse) .none kV10 dc10 pm10 an10 cd10 ct10), sl10⟩)
    (c10 : PySem.W.codeIn K cd10 "inverse" = true)
    (k10 : PySem.W.keepIn K (.ref f10) = true)
    (a11 : PySem.W.nsIn K mainGlobals "before" = some (some (.ref f11)))
    (l11 : K.lookup f11 = some ⟨oc11, od11, .func (PySem.W.fnOf "before" "before" (defArgs s_before) (defBody s_before) (defScope s_before) .none kV11 dc11 pm11 an11 cd11 ct11), sl11⟩)
    (c11 : PySem.W.codeIn K cd11 "before" = true)
    (k11 : PySem.W.keepIn K (.ref f11) = true)
    (a12 : PySem.W.nsIn K mainGlobals "gaps_of" = some (some (.ref f12)))
    (l12 : K.lookup f12 = some ⟨oc12, od12, .func (PySem.W.fnOf "gaps_of" "gaps_of" (defArgs s_gaps_of) (defBody s_gaps_of) (defScope s_gaps_of) .none kV12 dc12 pm12 an12 cd12 ct12), sl12⟩)
    (c12 : PySem.W.codeIn K cd12 "gaps_of" = true)
    (k12 : PySem.W.keepIn K (.ref f12) = true)
    (a13 : PySem.W.nsIn K mainGlobals "narrowed" = some (some (.ref f13)))
    (l13 : K.lookup f13 = some ⟨oc13, od13, .func (PySem.W.fnOf "narrowed" "narrowed" (defArgs s_narrowed) (defBody s_narrowed) (defScope s_narrowed) .none kV13 dc13 pm13 an13 cd13 ct13), sl13⟩)
    (c13 : PySem.W.codeIn K cd13 "narrowed" = true)
    (k13 : PySem.W.keepIn K (.ref f13) = true)
    (a14 : PySem.W.nsIn K mainGlobals "fits_on_the_way" = some (some (.ref f14)))
    (l14 : K.lookup f14 = some ⟨oc14, od14, .func (PySem.W.fnOf "fits_on_the_way" "fits_on_the_way" (defArgs s_fits_on_the_way) (defBody s_fits_on_the_way) (defScope s_fits_on_the_way) .none kV14 dc14 pm14 an14 cd14 ct14), sl14⟩)
    (c14 : PySem.W.codeIn K cd14 "fits_on_the_way" = true)
    (k14 : PySem.W.keepIn K (.ref f14) = true)
    (a15 : PySem.W.nsIn K mainGlobals "times_that_fit" = some (some (.ref f15)))
    (l15 : K.lookup f15 = some ⟨oc15, od15, .func (PySem.W.fnOf "times_that_fit" "times_that_fit" (defArgs s_times_that_fit) (defBody s_times_that_fit) (defScope s_times_that_fit) .none kV15 dc15 pm15 an15 cd15 ct15), sl15⟩)
    (c15 : PySem.W.codeIn K cd15 "times_that_fit" = true)
    (k15 : PySem.W.keepIn K (.ref f15) = true)
    (a16 : PySem.W.nsIn K mainGlobals "rules_that_fit" = some (some (.ref f16)))
    (l16 : K.lookup f16 = some ⟨oc16, od16, .func (PySem.W.fnOf "rules_that_fit" "rules_that_fit" (defArgs s_rules_that_fit) (defBody s_rules_that_fit) (defScope s_rules_that_fit) .none kV16 dc16 pm16 an16 cd16 ct16), sl16⟩)
    (c16 : PySem.W.codeIn K cd16 "rules_that_fit" = true)
    (k16 : PySem.W.keepIn K (.ref f16) = true)
    (a17 : PySem.W.nsIn K mainGlobals "number_behind" = some (some (.ref f17)))
    (l17 : K.lookup f17 = some ⟨oc17, od17, .func (PySem.W.fnOf "number_behind" "number_behind" (defArgs s_number_behind) (defBody s_number_behind) (defScope s_number_behind) .none kV17 dc17 pm17 an17 cd17 ct17), sl17⟩)
    (c17 : PySem.W.codeIn K cd17 "number_behind" = true)
    (k17 : PySem.W.keepIn K (.ref f17) = true)
    (a18 : PySem.W.nsIn K mainGlobals "_law_told" = some (some (.ref f18)))
    (l18 : K.lookup f18 = some ⟨oc18, od18, .func (PySem.W.fnOf "_law_told" "_law_told" (defArgs s_told) (defBody s_told) (defScope s_told) .none kV18 dc18 pm18 an18 cd18 ct18), sl18⟩)
    (c18 : PySem.W.codeIn K cd18 "_law_told" = true)
    (k18 : PySem.W.keepIn K (.ref f18) = true)
    (a19 : PySem.W.nsIn K mainGlobals "_law_afresh" = some (some (.ref f19)))
    (l19 : K.lookup f19 = some ⟨oc19, od19, .func (PySem.W.fnOf "_law_afresh" "_law_afresh" (defArgs s_afresh) (defBody s_afresh) (defScope s_afresh) .none kV19 dc19 pm19 an19 cd19 ct19), sl19⟩)
    (c19 : PySem.W.codeIn K cd19 "_law_afresh" = true)
    (k19 : PySem.W.keepIn K (.ref f19) = true)
    (a20 : PySem.W.nsIn K mainGlobals "_law_is_let" = some (some (.ref f20)))
    (l20 : K.lookup f20 = some ⟨oc20, od20, .func (PySem.W.fnOf "_law_is_let" "_law_is_let" (defArgs s_is_let) (defBody s_is_let) (defScope s_is_let) .none kV20 dc20 pm20 an20 cd20 ct20), sl20⟩)
    (c20 : PySem.W.codeIn K cd20 "_law_is_let" = true)
    (k20 : PySem.W.keepIn K (.ref f20) = true)
    (a21 : PySem.W.nsIn K mainGlobals "_law_deed" = some (some (.ref f21)))
    (l21 : K.lookup f21 = some ⟨oc21, od21, .func (PySem.W.fnOf "_law_deed" "_law_deed" (defArgs s_deed) (defBody s_deed) (defScope s_deed) .none kV21 dc21 pm21 an21 cd21 ct21), sl21⟩)
    (c21 : PySem.W.codeIn K cd21 "_law_deed" = true)
    (k21 : PySem.W.keepIn K (.ref f21) = true)
    (a22 : PySem.W.nsIn K mainGlobals "_law_beneath_right" = some (some (.ref f22)))
    (l22 : K.lookup f22 = some ⟨oc22, od22, .func (PySem.W.fnOf "_law_beneath_right" "_law_beneath_right" (defArgs s_beneath_right) (defBody s_beneath_right) (defScope s_beneath_right) .none kV22 dc22 pm22 an22 cd22 ct22), sl22⟩)
    (c22 : PySem.W.codeIn K cd22 "_law_beneath_right" = true)
    (k22 : PySem.W.keepIn K (.ref f22) = true)
    (a23 : PySem.W.nsIn K mainGlobals "_law_behind_right" = some (some (.ref f23)))
    (l23 : K.lookup f23 = some ⟨oc23, od23, .func (PySem.W.fnOf "_law_behind_right" "_law_behind_right" (defArgs s_behind_right) (defBody s_behind_right) (defScope s_behind_right) .none kV23 dc23 pm23 an23 cd23 ct23), sl23⟩)
    (c23 : PySem.W.codeIn K cd23 "_law_behind_right" = true)
    (k23 : PySem.W.keepIn K (.ref f23) = true)
    (a24 : PySem.W.nsIn K mainGlobals "_law_again_right" = some (some (.ref f24)))
    (l24 : K.lookup f24 = some ⟨oc24, od24, .func (PySem.W.fnOf "_law_again_right" "_law_again_right" (defArgs s_again_right) (defBody s_again_right) (defScope s_again_right) .none kV24 dc24 pm24 an24 cd24 ct24), sl24⟩)
    (c24 : PySem.W.codeIn K cd24 "_law_again_right" = true)
    (k24 : PySem.W.keepIn K (.ref f24) = true)
    (a25 : PySem.W.nsIn K mainGlobals "law" = some (some (.ref f25)))
    (l25 : K.lookup f25 = some ⟨oc25, od25, .func (PySem.W.fnOf "law" "law" (defArgs s_law) (defBody s_law) (defScope s_law) .none kV25 dc25 pm25 an25 cd25 ct25), sl25⟩)
    (c25 : PySem.W.codeIn K cd25 "law" = true)
    (k25 : PySem.W.keepIn K (.ref f25) = true)
    (y_max : PySem.W.nsIn K mainGlobals "max" = some none)
    (y_min : PySem.W.nsIn K mainGlobals "min" = some none)
    (y_zip : PySem.W.nsIn K mainGlobals "zip" = some none)
    (y_len : PySem.W.nsIn K mainGlobals "len" = some none)
    (y_range : PySem.W.nsIn K mainGlobals "range" = some none)
    (y_isinstance : PySem.W.nsIn K mainGlobals "isinstance" = some none)
    (y_int : PySem.W.nsIn K mainGlobals "int" = some none)
    (y_bool : PySem.W.nsIn K mainGlobals "bool" = some none)
    (y_tuple : PySem.W.nsIn K mainGlobals "tuple" = some none)
    (xCNhc : PySem.W.isClsIn K CN = true)
    (xCNhg : PySem.W.findIn K (.ref CN) "__getattribute__" = some (some (.builtin "BaseException.__getattribute__")))
    (xCNhk : PySem.W.findIn K (.ref CN) "__getattr__" = some none)
    (xCNhs : PySem.W.subIn K (.ref CN) (.type "BaseException") = some true)
    (xCNhd : PySem.W.hasDictIn K CN = true)
    (xCNha : PySem.W.findIn K (.ref CN) "__class__" = some (some (.builtin "object.__class__")))
    (xCNhm : PySem.W.mroIn K CN (.type "object") = some true)
    (gn : PySem.W.specialIn K (.builtin "object.__class__") "__get__" = some (some (.builtin "getset_descriptor.__get__")))
    (gt : PySem.W.takesIn K (.builtin "object.__class__") = some true)
    (xCNkr : PySem.W.kitOne K (.ref CN) (.ref CR) = some true)
    (xCNkv : PySem.W.kitOne K (.ref CN) (.type "ValueError") = some true)
    (xCNkCF : PySem.W.kitOne K (.ref CN) (.ref CF) = some false)
    (xCNkCN : PySem.W.kitOne K (.ref CN) (.ref CN) = some true)
    (xCNxm : PySem.W.exmOne K (.ref CN) (.ref CR) = some true)
    (xL : K.lookup CN = some (excClassObj nm qn CN Nn bs [.ref CR, .type "ValueError", .type "Exception", .type "BaseException", .type "object"] true sn sub ab col dd m0 m1 m2 m3 m5 "ValueError.__new__"))
    (sa : PySem.W.findIn K (.ref CN) "__setattr__" = some (some (.builtin "object.__setattr__")))
    (tyC : PySem.W.typeIn K (.ref CN) = some (.type "type"))
    (kC : PySem.W.keepIn K (.ref CN) = true)
    (nf : PySem.W.findIn K (.ref CN) "number" = some none)
    (iI : PySem.W.findIn K (.ref CN) "__init__" = some (some (.ref fI)))
    (tI : PySem.W.typeIn K (.ref fI) = some (.type "function"))
    (lI : K.lookup fI = some ⟨ocI, odI, .func (PySem.W.fnOf "__init__" "NoNumber.__init__" (defArgs s_init) (defBody s_init) (defScope s_init) .none kVI dcI pmI anI cdI ctI), slI⟩)
    (cI : PySem.W.codeIn K cdI "NoNumber.__init__" = true)
    (kI : PySem.W.keepIn K (.ref fI) = true)
    (rd : PySem.W.readsIn K CR (.type "type") = true)
    (rg : PySem.W.specialIn K (.ref CR) "__getattribute__" = some (some (.builtin "type.__getattribute__")))
    (ri : PySem.W.findCls K (.ref CR) (.type "type") "__init__" = some (.val (.builtin "ValueError.__init__")))
    (xCFhc : PySem.W.isClsIn K CF = true)
    (xCFhg : PySem.W.findIn K (.ref CF) "__getattribute__" = some (some (.builtin "BaseException.__getattribute__")))
    (xCFhk : PySem.W.findIn K (.ref CF) "__getattr__" = some none)
    (xCFhs : PySem.W.subIn K (.ref CF) (.type "BaseException") = some true)
    (xCFhd : PySem.W.hasDictIn K CF = true)
    (xCFha : PySem.W.findIn K (.ref CF) "__class__" = some (some (.builtin "object.__class__")))
    (xCFhm : PySem.W.mroIn K CF (.type "object") = some true)
    (xCFkr : PySem.W.kitOne K (.ref CF) (.ref CR) = some true)
    (xCFkv : PySem.W.kitOne K (.ref CF) (.type "ValueError") = some true)
    (xCFkCF : PySem.W.kitOne K (.ref CF) (.ref CF) = some true)
    (xCFkCN : PySem.W.kitOne K (.ref CF) (.ref CN) = some false)
    (xCFxm : PySem.W.exmOne K (.ref CF) (.ref CR) = some true)
    (wCFx : PySem.W.excIn K CF [.type "ValueError", .type "Exception", .type "BaseException", .type "object"] "ValueError.__new__" = true)
    (wCFk : PySem.W.keepIn K (.ref CF) = true)
    (wCFy : PySem.W.typeIn K (.ref CF) = some (.type "type"))
    (xCFmCF : PySem.W.exmOne K (.ref CF) (.ref CF) = some true)
    (aK : PySem.W.nsIn K mainGlobals "KeptRow" = some (some (.ref C0)))
    (pgK : PySem.W.plainGet K C0 Str.empty = true)
    (hdK : PySem.W.hasDictIn K C0 = true)
    (poK : PySem.W.plainOver K C0 = true)
    (saK : PySem.W.findIn K (.ref C0) "__setattr__" = some (some (.builtin "object.__setattr__")))
    (mkK : PySem.W.makesIn K C0 = true)
    (kcK : PySem.W.keepIn K (.ref C0) = true)
    (no_bound : PySem.W.findIn K (.ref C0) "bound" = some none)
    (no_numbers : PySem.W.findIn K (.ref C0) "numbers" = some none)
    (ma0 : PySem.W.findIn K (.ref C0) "__init__" = some (some (.ref mt0)))
    (mi0 : PySem.W.isFn K (.ref mt0) = true)
    (ml0 : K.lookup mt0 = some ⟨oM0, qM0, .func (PySem.W.fnOf "__init__" "KeptRow.__init__" (defArgs s_kinit) (defBody s_kinit) (defScope s_kinit) .none kM0 dM0 pM0 bM0 eM0 tM0), sM0⟩)
    (mc0 : PySem.W.codeIn K eM0 "KeptRow.__init__" = true)
    (mk0 : PySem.W.keepIn K (.ref mt0) = true)
    (ma1 : PySem.W.findIn K (.ref C0) "row_now" = some (some (.ref mt1)))
    (mi1 : PySem.W.isFn K (.ref mt1) = true)
    (ml1 : K.lookup mt1 = some ⟨oM1, qM1, .func (PySem.W.fnOf "row_now" "KeptRow.row_now" (defArgs s_row_now) (defBody s_row_now) (defScope s_row_now) .none kM1 dM1 pM1 bM1 eM1 tM1), sM1⟩)
    (mc1 : PySem.W.codeIn K eM1 "KeptRow.row_now" = true)
    (mk1 : PySem.W.keepIn K (.ref mt1) = true)
    (ma2 : PySem.W.findIn K (.ref C0) "see" = some (some (.ref mt2)))
    (mi2 : PySem.W.isFn K (.ref mt2) = true)
    (ml2 : K.lookup mt2 = some ⟨oM2, qM2, .func (PySem.W.fnOf "see" "KeptRow.see" (defArgs s_see) (defBody s_see) (defScope s_see) .none kM2 dM2 pM2 bM2 eM2 tM2), sM2⟩)
    (mc2 : PySem.W.codeIn K eM2 "KeptRow.see" = true)
    (mk2 : PySem.W.keepIn K (.ref mt2) = true)
    (ma3 : PySem.W.findIn K (.ref C0) "take_back" = some (some (.ref mt3)))
    (mi3 : PySem.W.isFn K (.ref mt3) = true)
    (ml3 : K.lookup mt3 = some ⟨oM3, qM3, .func (PySem.W.fnOf "take_back" "KeptRow.take_back" (defArgs s_take_back) (defBody s_take_back) (defScope s_take_back) .none kM3 dM3 pM3 bM3 eM3 tM3), sM3⟩)
    (mc3 : PySem.W.codeIn K eM3 "KeptRow.take_back" = true)
    (mk3 : PySem.W.keepIn K (.ref mt3) = true)
    (ma4 : PySem.W.findIn K (.ref C0) "fit_now" = some (some (.ref mt4)))
    (mi4 : PySem.W.isFn K (.ref mt4) = true)
    (ml4 : K.lookup mt4 = some ⟨oM4, qM4, .func (PySem.W.fnOf "fit_now" "KeptRow.fit_now" (defArgs s_fit_now) (defBody s_fit_now) (defScope s_fit_now) .none kM4 dM4 pM4 bM4 eM4 tM4), sM4⟩)
    (mc4 : PySem.W.codeIn K eM4 "KeptRow.fit_now" = true)
    (mk4 : PySem.W.keepIn K (.ref mt4) = true)
    (ma5 : PySem.W.findIn K (.ref C0) "guess_now" = some (some (.ref mt5)))
    (mi5 : PySem.W.isFn K (.ref mt5) = true)
    (ml5 : K.lookup mt5 = some ⟨oM5, qM5, .func (PySem.W.fnOf "guess_now" "KeptRow.guess_now" (defArgs s_guess_now) (defBody s_guess_now) (defScope s_guess_now) .none kM5 dM5 pM5 bM5 eM5 tM5), sM5⟩)
    (mc5 : PySem.W.codeIn K eM5 "KeptRow.guess_now" = true)
    (mk5 : PySem.W.keepIn K (.ref mt5) = true) :
    ∃ fd : FuncData, (∀ (s : Shared) (v : Value), BindsTo s fd ⟨[v], []⟩ [("script", v)]) ∧ ∀ base : Heap, K.In base → base.Ns mainGlobals mg → FnOk l.prog w K mg base CX0 13 fa fd ["script"] (spLaw K) := by
  have e := hfa.symm.trans (PySem.W.mg_of X G a25)
  cases e
  have T_folded : Top K mg "_law_folded" s_folded ["script"] := top_mk X G a0 l0 c0 k0 fun _ _ _ _ _ _ us hl => match us, hl with | [_], _ => rfl
  have T_seed : Top K mg "_law_seed" s_seed ["cell"] := top_mk X G a1 l1 c1 k1 fun _ _ _ _ _ _ us hl => match us, hl with | [_], _ => rfl
  have T_draw : Top K mg "_law_draw" s_draw ["seed", "most"] := top_mk X G a2 l2 c2 k2 fun _ _ _ _ _ _ us hl => match us, hl with | [_, _], _ => rfl
  have T_below : Top K mg "_law_below" s_below ["seed", "bound"] := top_mk X G a3 l3 c3 k3 fun _ _ _ _ _ _ us hl => match us, hl with | [_, _], _ => rfl
  have T_bound : Top K mg "_law_bound" s_bound ["seed", "kinds"] := top_mk X G a4 l4 c4 k4 fun _ _ _ _ _ _ us hl => match us, hl with | [_, _], _ => rfl
  have T_is_whole : Top K mg "is_whole" s_is_whole ["thing"] := top_mk X G a5 l5 c5 k5 fun _ _ _ _ _ _ us hl => match us, hl with | [_], _ => rfl
  have T_is_number : Top K mg "is_number" s_is_number ["thing", "bound"] := top_mk X G a6 l6 c6 k6 fun _ _ _ _ _ _ us hl => match us, hl with | [_, _], _ => rfl
  have T_check_number : Top K mg "check_number" s_check_number ["number", "bound"] := top_mk X G a7 l7 c7 k7 fun _ _ _ _ _ _ us hl => match us, hl with | [_, _], _ => rfl
  have T_next_of : Top K mg "next_of" s_next_of ["rule", "number"] := top_mk X G a8 l8 c8 k8 fun _ _ _ _ _ _ us hl => match us, hl with | [_, _], _ => rfl
  have T_common_divisor : Top K mg "common_divisor" s_common_divisor ["one", "other"] := top_mk X G a9 l9 c9 k9 fun _ _ _ _ _ _ us hl => match us, hl with | [_, _], _ => rfl
  have T_inverse : Top K mg "inverse" s_inverse ["number", "bound"] := top_mk X G a10 l10 c10 k10 fun _ _ _ _ _ _ us hl => match us, hl with | [_, _], _ => rfl
  have T_before : Top K mg "before" s_before ["rule", "number"] := top_mk X G a11 l11 c11 k11 fun _ _ _ _ _ _ us hl => match us, hl with | [_, _], _ => rfl
  have T_gaps_of : Top K mg "gaps_of" s_gaps_of ["row"] := top_mk X G a12 l12 c12 k12 fun _ _ _ _ _ _ us hl => match us, hl with | [_], _ => rfl
  have T_narrowed : Top K mg "narrowed" s_narrowed ["fit", "gap", "later", "bound"] := top_mk X G a13 l13 c13 k13 fun _ _ _ _ _ _ us hl => match us, hl with | [_, _, _, _], _ => rfl
  have T_fits_on_the_way : Top K mg "fits_on_the_way" s_fits_on_the_way ["row", "bound"] := top_mk X G a14 l14 c14 k14 fun _ _ _ _ _ _ us hl => match us, hl with | [_, _], _ => rfl
  have T_times_that_fit : Top K mg "times_that_fit" s_times_that_fit ["row", "bound"] := top_mk X G a15 l15 c15 k15 fun _ _ _ _ _ _ us hl => match us, hl with | [_, _], _ => rfl
  have T_rules_that_fit : Top K mg "rules_that_fit" s_rules_that_fit ["row", "bound", "many"] := top_mk X G a16 l16 c16 k16 fun _ _ _ _ _ _ us hl => match us, hl with | [_, _, _], _ => rfl
  have T_number_behind : Top K mg "number_behind" s_number_behind ["row", "bound"] := top_mk X G a17 l17 c17 k17 fun _ _ _ _ _ _ us hl => match us, hl with | [_, _], _ => rfl
  have T_told : Top K mg "_law_told" s_told ["kept"] := top_mk X G a18 l18 c18 k18 fun _ _ _ _ _ _ us hl => match us, hl with | [_], _ => rfl
  have T_afresh : Top K mg "_law_afresh" s_afresh ["row", "bound"] := top_mk X G a19 l19 c19 k19 fun _ _ _ _ _ _ us hl => match us, hl with | [_, _], _ => rfl
  have T_is_let : Top K mg "_law_is_let" s_is_let ["kept", "number"] := top_mk X G a20 l20 c20 k20 fun _ _ _ _ _ _ us hl => match us, hl with | [_, _], _ => rfl
  have T_deed : Top K mg "_law_deed" s_deed ["seed", "kept", "row", "bound"] := top_mk X G a21 l21 c21 k21 fun _ _ _ _ _ _ us hl => match us, hl with | [_, _, _, _], _ => rfl
  have T_beneath_right : Top K mg "_law_beneath_right" s_beneath_right ["kept", "bound"] := top_mk X G a22 l22 c22 k22 fun _ _ _ _ _ _ us hl => match us, hl with | [_, _], _ => rfl
  have T_behind_right : Top K mg "_law_behind_right" s_behind_right ["seed", "kept", "bound"] := top_mk X G a23 l23 c23 k23 fun _ _ _ _ _ _ us hl => match us, hl with | [_, _, _], _ => rfl
  have T_again_right : Top K mg "_law_again_right" s_again_right ["kept", "bound"] := top_mk X G a24 l24 c24 k24 fun _ _ _ _ _ _ us hl => match us, hl with | [_, _], _ => rfl
  have T_law : Top K mg "law" s_law ["script"] := top_mk X G a25 l25 c25 k25 fun _ _ _ _ _ _ us hl => match us, hl with | [_], _ => rfl
  have z_max := PySem.W.mg_none_of X G y_max
  have z_min := PySem.W.mg_none_of X G y_min
  have z_zip := PySem.W.mg_none_of X G y_zip
  have z_len := PySem.W.mg_none_of X G y_len
  have z_range := PySem.W.mg_none_of X G y_range
  have z_isinstance := PySem.W.mg_none_of X G y_isinstance
  have z_int := PySem.W.mg_none_of X G y_int
  have z_bool := PySem.W.mg_none_of X G y_bool
  have z_tuple := PySem.W.mg_none_of X G y_tuple
  have G_CR := PySem.W.mg_of X G aCR
  have G_CF := PySem.W.mg_of X G aCF
  have G_CN := PySem.W.mg_of X G aCN
  have ox : OexC K CN := ⟨⟨nm, qn, Nn, bs, _, sn, sub, ab, col, dd, m0, m1, m2, m3, m5, xL, rfl⟩, sa, xCNhs, tyC, kC⟩
  have FI := fun_mk (x := "__init__") (qual := "NoNumber.__init__") (st := s_init) lI cI kI
  have bI := FI.binds (ps := ["self", "number"]) fun _ _ _ _ _ _ us hl => match us, hl with | [_, _], _ => rfl
  have RI : ClX.CRead K CR (.type "type") := ⟨rd, rg⟩
  have GK := PySem.W.mg_of X G aK
  have FM0 := fun_mk (x := "__init__") (qual := "KeptRow.__init__") (st := s_kinit) ml0 mc0 mk0
  have BM0 := FM0.binds (ps := ["self", "bound"]) fun _ _ _ _ _ _ us hl => match us, hl with | [_, _], _ => rfl
  have MK0 : Mk K C0 mt0 := ⟨mkK, ma0, mi0, kcK⟩
  have FM1 := fun_mk (x := "row_now") (qual := "KeptRow.row_now") (st := s_row_now) ml1 mc1 mk1
  have BM1 := FM1.binds (ps := ["self"]) fun _ _ _ _ _ _ us hl => match us, hl with | [_], _ => rfl
  have TM_row_now : TopM K C0 "row_now" "KeptRow.row_now" s_row_now ["self"] := ⟨_, _, FM1, ⟨ma1, mi1, mk1⟩, BM1⟩
  have FM2 := fun_mk (x := "see") (qual := "KeptRow.see") (st := s_see) ml2 mc2 mk2
  have BM2 := FM2.binds (ps := ["self", "number"]) fun _ _ _ _ _ _ us hl => match us, hl with | [_, _], _ => rfl
  have TM_see : TopM K C0 "see" "KeptRow.see" s_see ["self", "number"] := ⟨_, _, FM2, ⟨ma2, mi2, mk2⟩, BM2⟩
  have FM3 := fun_mk (x := "take_back") (qual := "KeptRow.take_back") (st := s_take_back) ml3 mc3 mk3
  have BM3 := FM3.binds (ps := ["self"]) fun _ _ _ _ _ _ us hl => match us, hl with | [_], _ => rfl
  have TM_take_back : TopM K C0 "take_back" "KeptRow.take_back" s_take_back ["self"] := ⟨_, _, FM3, ⟨ma3, mi3, mk3⟩, BM3⟩
  have FM4 := fun_mk (x := "fit_now") (qual := "KeptRow.fit_now") (st := s_fit_now) ml4 mc4 mk4
  have BM4 := FM4.binds (ps := ["self"]) fun _ _ _ _ _ _ us hl => match us, hl with | [_], _ => rfl
  have TM_fit_now : TopM K C0 "fit_now" "KeptRow.fit_now" s_fit_now ["self"] := ⟨_, _, FM4, ⟨ma4, mi4, mk4⟩, BM4⟩
  have FM5 := fun_mk (x := "guess_now") (qual := "KeptRow.guess_now") (st := s_guess_now) ml5 mc5 mk5
  have BM5 := FM5.binds (ps := ["self"]) fun _ _ _ _ _ _ us hl => match us, hl with | [_], _ => rfl
  have TM_guess_now : TopM K C0 "guess_now" "KeptRow.guess_now" s_guess_now ["self"] := ⟨_, _, FM5, ⟨ma5, mi5, mk5⟩, BM5⟩
  refine ⟨PySem.W.fnOf "law" "law" (defArgs s_law) (defBody s_law) (defScope s_law) .none kV25 dc25 pm25 an25 cd25 ct25, fun s v => .of_eq rfl, fun base _ _ => ?_⟩
  have FL := fun_mk (st := s_law) l25 c25 k25

  have o_draw := ok_draw (P := l.prog) (w := w) (base := base) T_draw
  have o_below := ok_below T_below o_draw
  have o_bound := ok_bound T_bound o_draw o_below
  have o_gcd := ok_common_divisor (P := l.prog) (w := w) (base := base) T_common_divisor
  have o_whole := ok_is_whole (P := l.prog) (w := w) (base := base) T_is_whole z_isinstance z_int z_bool
  have o_init := ok_init (P := l.prog) (w := w) (base := base) FI G_CR RI ri
  have o_check := ok_check_number T_check_number (ok_is_number T_is_number o_whole) ox iI tI o_init bI G_CN nf
  have o_bef := ok_before T_before o_check o_gcd (ok_inverse T_inverse)
  have o_fits := ok_fits_on_the_way T_fits_on_the_way o_check (ok_gaps_of T_gaps_of z_zip) (ok_narrowed T_narrowed o_bef) z_zip
  have o_times := ok_times_that_fit T_times_that_fit o_fits
  have o_rules := ok_rules_that_fit T_rules_that_fit o_times z_len z_min z_range
  have o_beh := ok_number_behind T_number_behind o_rules (ok_next_of T_next_of o_check) z_len wCFx G_CF wCFk xCFhs wCFy
  have TK : KTx K mg C0 := ⟨⟨pgK, hdK, poK, saK⟩, no_bound, no_numbers, GK⟩
  have o_kinit := ok_kinit (P := l.prog) (w := w) (base := base) FM0 TK MK0 BM0
  have o_row_now := ok_row_now (P := l.prog) (w := w) (base := base) TM_row_now TK z_tuple
  have o_see := ok_see TM_see TK o_check o_times o_row_now wCFx G_CF wCFk xCFhs wCFy
  have o_take := ok_take_back (P := l.prog) (w := w) (base := base) TM_take_back TK z_len wCFx G_CF wCFk xCFhs wCFy
  have o_fit_now := ok_fit_now TM_fit_now TK o_times o_row_now z_len
  have o_guess_now := ok_guess_now TM_guess_now TK o_beh o_row_now z_len
  have o_told := ok_told (P := l.prog) (w := w) (base := base) T_told TK o_row_now o_fit_now o_guess_now
  have o_afresh := ok_afresh T_afresh TK o_kinit o_see
  have o_is_let := ok_is_let T_is_let TK o_see G_CF xCFmCF
  have o_deed := ok_deed T_deed TK o_draw o_below o_take o_is_let o_rules z_len z_tuple
  have o_ben := ok_beneath T_beneath_right TK o_row_now o_fit_now o_guess_now o_times o_beh z_len
  have o_behR := ok_behind (CN := CN) T_behind_right TK o_told o_is_let o_fit_now o_take o_below z_max
  have o_again := ok_again T_again_right TK o_told o_row_now o_see o_take
  exact ok_law (CN := CN) (CF := CF) FL TK o_kinit o_row_now (ok_folded T_folded z_len) (ok_seed T_seed z_max z_int) o_bound o_draw o_told o_afresh o_deed o_ben o_behR o_again z_range z_len z_tuple
end Tw
open PySem PySem.W PyProof.Rows
set_option maxHeartbeats 0 in
theorem PySem.Challenge.cw_timesrow_k34_whole_kept_as_afresh_holds : PySem.Challenge.rw_timesrow_k34_whole_kept_as_afresh.Holds := by
  w_on; o_law; k_head; (case hw => w_witness2)
  k_fill
  refine L2.walk_of (l := PySem.Challenge.rw_timesrow_k34_whole_kept_as_afresh) (n := 63) (k := 13) (x := "script") (CX := fun _ => L2.CX0) (sp := fun w => Tw.spLaw _) rfl (by decide) rfl ⟨rfl, by decide, by decide⟩ (fun w h Y => PySem.W.kIn_of Y) ?F (fun _ _ a ns hl _ hS => ⟨_, rfl, a, ns, rfl, hS, hl, fun _ => rfl⟩) (fun _ _ _ _ _ h => h)
  case F =>
    intro w mg fa h KX G hmg
    refine' Tw.all_mk KX G hmg ?aCR ?aCF ?aCN ?a0 ?l0 ?c0 ?k0 ?a1 ?l1 ?c1 ?k1 ?a2 ?l2 ?c2 ?k2 ?a3 ?l3 ?c3 ?k3 ?a4 ?l4 ?c4 ?k4 ?a5 ?l5 ?c5 ?k5 ?a6 ?l6 ?c6 ?k6 ?a7 ?l7 ?c7 ?k7 ?a8 ?l8 ?c8 ?k8 ?a9 ?l9 ?c9 ?k9 ?a10 ?l10 ?c10 ?k10 ?a11 ?l11 ?c11 ?k11 ?a12 ?l12 ?c12 ?k12 ?a13 ?l13 ?c13 ?k13 ?a14 ?l14 ?c14 ?k14 ?a15 ?l15 ?c15 ?k15 ?a16 ?l16 ?c16 ?k16 ?a17 ?l17 ?c17 ?k17 ?a18 ?l18 ?c18 ?k18 ?a19 ?l19 ?c19 ?k19 ?a20 ?l20 ?c20 ?k20 ?a21 ?l21 ?c21 ?k21 ?a22 ?l22 ?c22 ?k22 ?a23 ?l23 ?c23 ?k23 ?a24 ?l24 ?c24 ?k24 ?a25 ?l25 ?c25 ?k25 ?y_max ?y_min ?y_zip ?y_len ?y_range ?y_isinstance ?y_int ?y_bool ?y_tuple ?xCNhc ?xCNhg ?xCNhk ?xCNhs ?xCNhd ?xCNha ?xCNhm ?gn ?gt ?xCNkr ?xCNkv ?xCNkCF ?xCNkCN ?xCNxm ?xL ?sa ?tyC ?kC ?nf ?iI ?tI ?lI ?cI ?kI ?rd ?rg ?ri ?xCFhc ?xCFhg ?xCFhk ?xCFhs ?xCFhd ?xCFha ?xCFhm ?xCFkr ?xCFkv ?xCFkCF ?xCFkCN ?xCFxm ?wCFx ?wCFk ?wCFy ?xCFmCF ?aK ?pgK ?hdK ?poK ?saK ?mkK ?kcK ?no_bound ?no_numbers ?ma0 ?mi0 ?ml0 ?mc0 ?mk0 ?ma1 ?mi1 ?ml1 ?mc1 ?mk1 ?ma2 ?mi2 ?ml2 ?mc2 ?mk2 ?ma3 ?mi3 ?ml3 ?mc3 ?mk3 ?ma4 ?mi4 ?ml4 ?mc4 ?mk4 ?ma5 ?mi5 ?ml5 ?mc5 ?mk5
    (case aCR => first | k_is | rfl | k_exc)
    (case aCF => first | k_is | rfl | k_exc)
    (case aCN => first | k_is | rfl | k_exc)
    (case a0 => first | k_is | rfl | k_exc)
    (case l0 => first | k_is | rfl | k_exc)
    (case c0 => first | k_is | rfl | k_exc)
    (case k0 => first | k_is | rfl | k_exc)
    (case a1 => first | k_is | rfl | k_exc)
    (case l1 => first | k_is | rfl | k_exc)
    (case c1 => first | k_is | rfl | k_exc)
    (case k1 => first | k_is | rfl | k_exc)
    (case a2 => first | k_is | rfl | k_exc)
    (case l2 => first | k_is | rfl | k_exc)
    (case c2 => first | k_is | rfl | k_exc)
    (case k2 => first | k_is | rfl | k_exc)
    (case a3 => first | k_is | rfl | k_exc)
    (case l3 => first | k_is | rfl | k_exc)
    (case c3 => first | k_is | rfl | k_exc)
    (case k3 => first | k_is | rfl | k_exc)
    (case a4 => first | k_is | rfl | k_exc)
    (case l4 => first | k_is | rfl | k_exc)
    (case c4 => first | k_is | rfl | k_exc)
    (case k4 => first | k_is | rfl | k_exc)
    (case a5 => first | k_is | rfl | k_exc)
    (case l5 => first | k_is | rfl | k_exc)
    (case c5 => first | k_is | rfl | k_exc)
    (case k5 => first | k_is | rfl | k_exc)
    (case a6 => first | k_is | rfl | k_exc)
    (case l6 => first | k_is | rfl | k_exc)
    (case c6 => first | k_is | rfl | k_exc)
    (case k6 => first | k_is | rfl | k_exc)
    (case a7 => first | k_is | rfl | k_exc)
    (case l7 => first | k_is | rfl | k_exc)
    (case c7 => first | k_is | rfl | k_exc)
    (case k7 => first | k_is | rfl | k_exc)
    (case a8 => first | k_is | rfl | k_exc)
    (case l8 => first | k_is | rfl | k_exc)
    (case c8 => first | k_is | rfl | k_exc)
    (case k8 => first | k_is | rfl | k_exc)
    (case a9 => first | k_is | rfl | k_exc)
    (case l9 => first | k_is | rfl | k_exc)
    (case c9 => first | k_is | rfl | k_exc)
    (case k9 => first | k_is | rfl | k_exc)
    (case a10 => first | k_is | rfl | k_exc)
    (case l10 => first | k_is | rfl | k_exc)
    (case c10 => first | k_is | rfl | k_exc)
    (case k10 => first | k_is | rfl | k_exc)
    (case a11 => first | k_is | rfl | k_exc)
    (case l11 => first | k_is | rfl | k_exc)
    (case c11 => first | k_is | rfl | k_exc)
    (case k11 => first | k_is | rfl | k_exc)
    (case a12 => first | k_is | rfl | k_exc)
    (case l12 => first | k_is | rfl | k_exc)
    (case c12 => first | k_is | rfl | k_exc)
    (case k12 => first | k_is | rfl | k_exc)
    (case a13 => first | k_is | rfl | k_exc)
    (case l13 => first | k_is | rfl | k_exc)
    (case c13 => first | k_is | rfl | k_exc)
    (case k13 => first | k_is | rfl | k_exc)
    (case a14 => first | k_is | rfl | k_exc)
    (case l14 => first | k_is | rfl | k_exc)
    (case c14 => first | k_is | rfl | k_exc)
    (case k14 => first | k_is | rfl | k_exc)
    (case a15 => first | k_is | rfl | k_exc)
    (case l15 => first | k_is | rfl | k_exc)
    (case c15 => first | k_is | rfl | k_exc)
    (case k15 => first | k_is | rfl | k_exc)
    (case a16 => first | k_is | rfl | k_exc)
    (case l16 => first | k_is | rfl | k_exc)
    (case c16 => first | k_is | rfl | k_exc)
    (case k16 => first | k_is | rfl | k_exc)
    (case a17 => first | k_is | rfl | k_exc)
    (case l17 => first | k_is | rfl | k_exc)
    (case c17 => first | k_is | rfl | k_exc)
    (case k17 => first | k_is | rfl | k_exc)
    (case a18 => first | k_is | rfl | k_exc)
    (case l18 => first | k_is | rfl | k_exc)
    (case c18 => first | k_is | rfl | k_exc)
    (case k18 => first | k_is | rfl | k_exc)
    (case a19 => first | k_is | rfl | k_exc)
    (case l19 => first | k_is | rfl | k_exc)
    (case c19 => first | k_is | rfl | k_exc)
    (case k19 => first | k_is | rfl | k_exc)
    (case a20 => first | k_is | rfl | k_exc)
    (case l20 => first | k_is | rfl | k_exc)
    (case c20 => first | k_is | rfl | k_exc)
    (case k20 => first | k_is | rfl | k_exc)
    (case a21 => first | k_is | rfl | k_exc)
    (case l21 => first | k_is | rfl | k_exc)
    (case c21 => first | k_is | rfl | k_exc)
    (case k21 => first | k_is | rfl | k_exc)
    (case a22 => first | k_is | rfl | k_exc)
    (case l22 => first | k_is | rfl | k_exc)
    (case c22 => first | k_is | rfl | k_exc)
    (case k22 => first | k_is | rfl | k_exc)
    (case a23 => first | k_is | rfl | k_exc)
    (case l23 => first | k_is | rfl | k_exc)
    (case c23 => first | k_is | rfl | k_exc)
    (case k23 => first | k_is | rfl | k_exc)
    (case a24 => first | k_is | rfl | k_exc)
    (case l24 => first | k_is | rfl | k_exc)
    (case c24 => first | k_is | rfl | k_exc)
    (case k24 => first | k_is | rfl | k_exc)
    (case a25 => first | k_is | rfl | k_exc)
    (case l25 => first | k_is | rfl | k_exc)
    (case c25 => first | k_is | rfl | k_exc)
    (case k25 => first | k_is | rfl | k_exc)
    (case y_max => first | k_is | rfl | k_exc)
    (case y_min => first | k_is | rfl | k_exc)
    (case y_zip => first | k_is | rfl | k_exc)
    (case y_len => first | k_is | rfl | k_exc)
    (case y_range => first | k_is | rfl | k_exc)
    (case y_isinstance => first | k_is | rfl | k_exc)
    (case y_int => first | k_is | rfl | k_exc)
    (case y_bool => first | k_is | rfl | k_exc)
    (case y_tuple => first | k_is | rfl | k_exc)
    (case xCNhc => first | k_is | rfl | k_exc)
    (case xCNhg => first | k_is | rfl | k_exc)
    (case xCNhk => first | k_is | rfl | k_exc)
    (case xCNhs => first | k_is | rfl | k_exc)
    (case xCNhd => first | k_is | rfl | k_exc)
    (case xCNha => first | k_is | rfl | k_exc)
    (case xCNhm => first | k_is | rfl | k_exc)
    (case gn => first | k_is | rfl | k_exc)
    (case gt => first | k_is | rfl | k_exc)
    (case xCNkr => first | k_is | rfl | k_exc)
    (case xCNkv => first | k_is | rfl | k_exc)
    (case xCNkCF => first | k_is | rfl | k_exc)
    (case xCNkCN => first | k_is | rfl | k_exc)
    (case xCNxm => first | k_is | rfl | k_exc)
    (case xL => first | k_is | rfl | k_exc)
    (case sa => first | k_is | rfl | k_exc)
    (case tyC => first | k_is | rfl | k_exc)
    (case kC => first | k_is | rfl | k_exc)
    (case nf => first | k_is | rfl | k_exc)
    (case iI => first | k_is | rfl | k_exc)
    (case tI => first | k_is | rfl | k_exc)
    (case lI => first | k_is | rfl | k_exc)
    (case cI => first | k_is | rfl | k_exc)
    (case kI => first | k_is | rfl | k_exc)
    (case rd => first | k_is | rfl | k_exc)
    (case rg => first | k_is | rfl | k_exc)
    (case ri => first | k_is | rfl | k_exc)
    (case xCFhc => first | k_is | rfl | k_exc)
    (case xCFhg => first | k_is | rfl | k_exc)
    (case xCFhk => first | k_is | rfl | k_exc)
    (case xCFhs => first | k_is | rfl | k_exc)
    (case xCFhd => first | k_is | rfl | k_exc)
    (case xCFha => first | k_is | rfl | k_exc)
    (case xCFhm => first | k_is | rfl | k_exc)
    (case xCFkr => first | k_is | rfl | k_exc)
    (case xCFkv => first | k_is | rfl | k_exc)
    (case xCFkCF => first | k_is | rfl | k_exc)
    (case xCFkCN => first | k_is | rfl | k_exc)
    (case xCFxm => first | k_is | rfl | k_exc)
    (case wCFx => first | k_is | rfl | k_exc)
    (case wCFk => first | k_is | rfl | k_exc)
    (case wCFy => first | k_is | rfl | k_exc)
    (case xCFmCF => first | k_is | rfl | k_exc)
    (case aK => first | k_is | rfl | k_exc)
    (case pgK => first | k_is | rfl | k_exc)
    (case hdK => first | k_is | rfl | k_exc)
    (case poK => first | k_is | rfl | k_exc)
    (case saK => first | k_is | rfl | k_exc)
    (case mkK => first | k_is | rfl | k_exc)
    (case kcK => first | k_is | rfl | k_exc)
    (case no_bound => first | k_is | rfl | k_exc)
    (case no_numbers => first | k_is | rfl | k_exc)
    (case ma0 => first | k_is | rfl | k_exc)
    (case mi0 => first | k_is | rfl | k_exc)
    (case ml0 => first | k_is | rfl | k_exc)
    (case mc0 => first | k_is | rfl | k_exc)
    (case mk0 => first | k_is | rfl | k_exc)
    (case ma1 => first | k_is | rfl | k_exc)
    (case mi1 => first | k_is | rfl | k_exc)
    (case ml1 => first | k_is | rfl | k_exc)
    (case mc1 => first | k_is | rfl | k_exc)
    (case mk1 => first | k_is | rfl | k_exc)
    (case ma2 => first | k_is | rfl | k_exc)
    (case mi2 => first | k_is | rfl | k_exc)
    (case ml2 => first | k_is | rfl | k_exc)
    (case mc2 => first | k_is | rfl | k_exc)
    (case mk2 => first | k_is | rfl | k_exc)
    (case ma3 => first | k_is | rfl | k_exc)
    (case mi3 => first | k_is | rfl | k_exc)
    (case ml3 => first | k_is | rfl | k_exc)
    (case mc3 => first | k_is | rfl | k_exc)
    (case mk3 => first | k_is | rfl | k_exc)
    (case ma4 => first | k_is | rfl | k_exc)
    (case mi4 => first | k_is | rfl | k_exc)
    (case ml4 => first | k_is | rfl | k_exc)
    (case mc4 => first | k_is | rfl | k_exc)
    (case mk4 => first | k_is | rfl | k_exc)
    (case ma5 => first | k_is | rfl | k_exc)
    (case mi5 => first | k_is | rfl | k_exc)
    (case ml5 => first | k_is | rfl | k_exc)
    (case mc5 => first | k_is | rfl | k_exc)
    (case mk5 => first | k_is | rfl | k_exc)

