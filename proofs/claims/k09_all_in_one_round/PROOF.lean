import PyProof.Rows.All
import Wide.All
import OpenK.AllK
import Wide.FinOn
import PyProof.EqAt
import PyProof.EqKinds
import PyProof.TupleCall
import KE.KExcIs
import HandS.ForMost
import HandS.ForExc
import HandS.ExcInit
import HandS.ExcField
import HandS.IsInst
import HandS.ClsMeth
import HandS.Wide
import HandS.SetFor
import HandS.Codes
import HandS.NoneIn
import HandS.Style
import PySem.Challenge.RW_timesrow_k09_all_in_one_round
set_option Elab.async false
set_option linter.all false
set_option maxRecDepth 100000
set_option maxHeartbeats 4000000
/-! Own rules over the hand layer: a caught exception kept as a value, its class asked, its field read; the base's own initialiser reached through an own class; products and quotients by plain bounds. -/
namespace Tw
open PySem PySem.Spec PyProof.Rows L2

/-! ### an exception held as a value -/
def exv (a : Addr) (cls : Value) (d : Option Addr) : HO := .ext fun h => ∃ (oe : Obj) (vs : Array Value), h.get? a = some oe ∧ Zc cls d oe ∧ oe.data = .fields vs
theorem exv_ok {P : Program} {w : World} {H : Hp} {h : Heap} {a : Addr} {cls : Value} {d : Option Addr} {oe : Obj} {vs : Array Value} (he : h.get? a = some oe) (hz : Zc cls d oe) (hd : oe.data = .fields vs) : ObjOk P w H h a (exv a cls d) :=
  ⟨⟨oe, vs, he, hz, hd⟩, ⟨oe, he⟩, fun _ _ z k => by
    obtain ⟨o, v, e, q⟩ := z
    exact ⟨o, v, k _ e, q⟩⟩
theorem exv_at {P : Program} {w : World} {H : Hp} {h : Heap} {a : Addr} {cls : Value} {d : Option Addr} (hok : HOk P w H h) (he : H a = some (exv a cls d)) : ∃ (oe : Obj) (vs : Array Value), h.get? a = some oe ∧ Zc cls d oe ∧ oe.data = .fields vs := by
  have x : ObjOk P w H h a (.ext fun h => ∃ (oe : Obj) (vs : Array Value), h.get? a = some oe ∧ Zc cls d oe ∧ oe.data = .fields vs) := hok a _ he
  exact x.1
section
variable {X : Cx} {pins : List (Addr × Obj)} {σ : L2.St} {H : Hp} {s : Shared}
/-- an object of ours that was not tracked is tracked from here on -/
theorem track {a : Addr} {o : HO} (I : Inv X pins σ H s) (na : H a = none) (h0 : ∀ ob, X.s_0.heap.get? a = some ob → X.H_0 a = none → a ∉ X.ex → False) (hL : a ≠ X.env.locals)
    (hc : ∀ x c, X.env.cells.lookup x = some c → c ≠ a) (hp : ∀ p ∈ X.pn ++ pins, p.1 ≠ a) (new : ObjOk X.prog X.w (upd H a o) s.heap a o) : Inv X pins σ (upd H a o) s := by
  have ne : ∀ {b : Addr} {u : HO}, H b = some u → b ≠ a := fun {b u} e => ne_of_none e na
  refine ⟨I.ok, I.os, I.bare, ⟨I.base.keep, I.base.slot, fun b ob e n hx => ?_, I.base.there, fun b xs e => ?_, fun b ob u e => ?_, fun b ps e => ?_⟩, I.loc, I.cell, ?_, fun x c e => ?_, fun p q => ?_, fun b u e => ?_, I.len⟩
  · have nb : b ≠ a := fun z => h0 ob (z ▸ e) (z ▸ n) (z ▸ hx)
    rw [upd_ne nb]
    exact I.base.free b ob e n hx
  · have q := I.base.tups b xs e
    rw [upd_ne (ne q)]
    exact q
  · have q := I.base.frzs b ob u e
    rw [upd_ne (ne q)]
    exact q
  · obtain ⟨more, q⟩ := I.base.tbls b ps e
    exact ⟨more, by rw [upd_ne (ne q)]; exact q⟩
  · rw [upd_ne (Ne.symm hL)]
    exact I.free
  · rw [upd_ne (hc x c e)]
    exact I.freeC x c e
  · obtain ⟨e, n, l, f, d⟩ := I.pin p q
    exact ⟨e, by rw [upd_ne (hp p q)]; exact n, l, f, d⟩
  · by_cases hb : b = a
    · subst hb
      rw [upd_same] at e
      cases e
      exact new
    · rw [upd_ne hb] at e
      exact (I.hok b u e).stay (fun _ _ _ q => q) (fun c q => by rw [upd_ne (ne q)]; exact q) (fun c xs q => by rw [upd_ne (ne q)]; exact q)
/-- into an except suite and out of it: nothing more is pinned there than was before -/
theorem toSuite (I : Inv X pins σ H s) (a : Addr) : Inv (X.suite a (X.pn ++ pins)) [] σ H s :=
  { ok := I.ok.suite _ _, os := I.os, bare := I.bare, base := I.base, loc := I.loc, cell := I.cell, free := I.free, freeC := I.freeC, hok := I.hok, len := I.len
    pin := fun p hp => I.pin p ((List.append_nil (X.pn ++ pins)) ▸ hp) }
theorem ofSuite {a : Addr} {more : List (Addr × Obj)} (I : Inv (X.suite a (X.pn ++ pins)) more σ H s) (ok : X.Ok) : Inv X pins σ H s :=
  { ok := ok, os := I.os, bare := I.bare, base := I.base, loc := I.loc, cell := I.cell, free := I.free, freeC := I.freeC, hok := I.hok, len := I.len
    pin := fun p hp => I.pin p (List.mem_append_left more hp) }
/-- no frame is a record -/
theorem rec_noframe {h B : Heap} {l : List Env} {a : Addr} {o : Obj} {vs : Array Value} (ff : h.FunFrames B l) (e : h.get? a = some o) (dd : o.data = .fields vs) : a ∉ frs l := fun hm => by
  obtain ⟨_, o2, e2, nf⟩ := ff.mem hm
  have z := Option.some.inj (e.symm.trans e2)
  subst z
  exact nf vs dd
/-- an address that the ground does not know is younger than the def's entry, and is not pinned -/
theorem young {B : Heap} {a : Addr} (J : Inv X pins σ H s) (gr : ∀ b o, s.heap.get? b = some o → b ∉ frs X.stack → B.get? b = some o) (hB : B.get? a = none) (nS : a ∉ frs X.stack) (nF : a ∉ X.fs) :
    (∀ ob, X.s_0.heap.get? a = some ob → X.H_0 a = none → a ∉ X.ex → False) ∧ ∀ p ∈ X.pn ++ pins, p.1 ≠ a := by
  constructor
  · intro ob e n hx
    have z := gr a ob (J.base.keep a ob e n nF hx) nS
    rw [hB] at z
    cases z
  · intro p hp z
    obtain ⟨e, _, l, f, _⟩ := J.pin p hp
    have y := gr p.1 p.2 e (fun hm => (List.mem_cons.mp (J.stkSub p.1 hm)).elim l f)
    rw [z, hB] at y
    cases y
end
/-- what the clause wishes of an exception of the body: the clause takes it; it is held, and stays held behind the suite -/
def wKeep (K : PySem.W.Frag) (c : Value) (i : Nat) (ts : TS) (D : Ends) : WX := fun cls d σ H =>
  PySem.W.exmOne K cls c = some true ∧ ∀ a, H a = none → ts { nx := fun σ1 H1 => D.nx (σ1.set i none) H1, rt := D.rt, bk := fun σ1 H1 => D.bk (σ1.set i none) H1, ct := fun σ1 H1 => D.ct (σ1.set i none) H1 } (σ.set i (some (.ref a))) (upd H a (exv a cls d))
section
variable {X : Cx} {x n : Str} {c : Value} {i : Nat} {body suite : List Stmt} {b0 : Stmt} {np pos pos' : Pos} {tb : WX → TS} {ts : TS}
/-- the clause's name is looked up while the exception is handled -/
theorem clause_name {pins : List (Addr × Obj)} {σ : L2.St} {H : Hp} {s : Shared} {a : Addr} {Q : Value → Shared → Prop} {E : Value → Shared → Prop} (hc : Names X x c) (I : Inv X pins σ H s) (q : Q c s) :
    wpAny (model X.prog X.w) (X.A.mark (some (.ref a))) (eval (.Name x np) X.env) Q E s := by
  have J := toSuite I a
  obtain ⟨g, nd, m | ⟨m, v, nn⟩⟩ := hc
  · exact ld_glob (X := X.suite a (X.pn ++ pins)) J g m q nd
  · exact ld_blt (X := X.suite a (X.pn ++ pins)) J g m v q nn nd
/-- behind the suite: the name goes, and the way goes on as it would -/
theorem suite_done {pins : List (Addr × Obj)} {a : Addr} {D : Ends} {fl : Flow} {s : Shared} (ok : X.Ok) (hN : X.N.Nodup) (hi : X.N[i]? = some n) (hln : X.env.kindOf n = some .local)
    (h : SP (X.suite a (X.pn ++ pins)) [] { nx := fun σ1 H1 => D.nx (σ1.set i none) H1, rt := D.rt, bk := fun σ1 H1 => D.bk (σ1.set i none) H1, ct := fun σ1 H1 => D.ct (σ1.set i none) H1 } fl s) :
    wpAny (model X.prog X.w) X.A (do bindName X.env n .none; unbindBehindTheSuite X.env n pos') (fun _ s7 => SP X pins D fl s7) X.xe s := by
  cases fl with
  | next => obtain ⟨_, _, S, q⟩ := h; exact gone_ok (ofSuite S ok) hN hi hln fun _ J => ⟨_, _, J, q⟩
  | brk => obtain ⟨_, _, S, q⟩ := h; exact gone_ok (ofSuite S ok) hN hi hln fun _ J => ⟨_, _, J, q⟩
  | cont => obtain ⟨_, _, S, q⟩ := h; exact gone_ok (ofSuite S ok) hN hi hln fun _ J => ⟨_, _, J, q⟩
  | ret u => obtain ⟨_, _, _, S, r, q⟩ := h; exact gone_ok (ofSuite S ok) hN hi hln fun _ J => ⟨_, _, _, J, r, q⟩
/-- an exception in the air of the try's body, met by the clause -/
theorem met {pins : List (Addr × Obj)} {xe : Value → Shared → Prop} {D : Ends} {u : Value} {s1 : Shared} (ok : X.Ok) (hs : X.stack = X.env :: X.outer) (hf : X.env.frame = some X.env.locals) (hN : X.N.Nodup) (hi : X.N[i]? = some n) (hln : X.env.kindOf n = some .local) (hc : Names X x c)
    (hsu : ∀ (a : Addr) (pn : List (Addr × Obj)), PSs (X.suite a pn) (b0 :: suite) ts) (air : XE (X.tr (X.pn ++ pins) xe) (wKeep X.K c i ts D) u s1) :
    wpAny (model X.prog X.w) X.A (noteFrame u X.env) (fun _ s2 => wpAny (model X.prog X.w) X.A (setFlight u none) (fun _ s3 =>
      wpAny (model X.prog X.w) X.A (handleBy u X.env [.ExceptHandler (some (.Name x np)) (some n) (b0 :: suite) pos']) (SP X pins D) X.xe s3) X.xe s2) X.xe s1 := by
  obtain ⟨a, B, sI, _, σ1, H1, cls, d, rfl, J0, gr, up, sky, na, os, ag, xm, yes⟩ := air
  have J : Inv X pins σ1 H1 sI := J0.ofTry ok
  have top : X.A.frames = some (X.env :: X.outer) := ok.frames.trans (congrArg some hs)
  have sky1 : Sky B (X.env :: X.outer) a (Zc cls d) X.env.locals s1.heap := hs ▸ sky
  refine Sky.land Zc.steady top hf sky1 fun h3 fly3 up3 => ?_
  have J3 : Inv X pins σ1 H1 { s1 with heap := h3 } := J.landed gr fly3.1 (up.trans up3) os ag
  obtain ⟨oe3, vs3, at3, z3, d3⟩ := fly3.there
  have nfr : a ∉ frs (X.env :: X.outer) := rec_noframe fly3.2.2.1 at3 d3
  have nS : a ∉ frs X.stack := hs ▸ nfr
  have nL : a ≠ X.env.locals := fun z => nfr (List.mem_filterMap.mpr ⟨X.env, List.mem_cons_self, by rw [hf, z]⟩)
  have nF : a ∉ X.fs := fun hm => let ⟨e, he, q⟩ := List.mem_filterMap.mp hm; nfr (List.mem_filterMap.mpr ⟨e, List.mem_cons_of_mem _ he, q⟩)
  have TY : PySem.W.Looks (model X.prog X.w) h3 (typeOf (.ref a)) cls := fun _ _ _ _ k q => wpAny_typeOf_ref (k _ _ at3) (z3.1.symm ▸ q)
  refine wpAny_handleBy_cons (codeAny_handlers_test (clause_name hc J3 ((PySem.W.exm_one (M := model X.prog X.w) J3.kIn TY xm).here ?_))) (fun q => by cases q)
  refine codeAny_handlers_suite_as (HandSPX.lands_againZ fly3 fun h4 fly4 up4 => ?_)
  have J4 : Inv X pins σ1 H1 { s1 with heap := h4 } := J.landed gr fly4.1 ((up.trans up3).trans up4) os ag
  obtain ⟨oe, vs, at4, z4, d4⟩ := fly4.there
  obtain ⟨y1, y2⟩ := young J gr fly4.2.1 nS nF
  have ncell : ∀ y cc, X.env.cells.lookup y = some cc → cc ≠ a := fun y cc e z => by
    obtain ⟨_, oc, hoc, hdc⟩ := J4.cell y cc e
    subst z
    have w1 : oe = oc := Option.some.inj (at4.symm.trans hoc)
    rw [← w1, d4] at hdc
    cases hdc
  have J5 := toSuite (track (o := exv a cls d) J4 na y1 nL ncell y2 (exv_ok at4 z4 d4)) a
  refine store_ok (X := X.suite a (X.pn ++ pins)) (v := .ref a) J5 hN hi (.inl hln) rfl (fun s5 S5 => ?_) (.inr hln)
  exact wpAny_mono ((hsu a (X.pn ++ pins)).run [] s5 _ _ _ S5 (yes a na)) (fun fl s6 h6 => suite_done ok hN hi hln h6) (fun _ _ z => z.elim)
theorem ps_try_keep (hs : X.stack = X.env :: X.outer) (hf : X.env.frame = some X.env.locals) (hN : X.N.Nodup) (hi : X.N[i]? = some n) (hln : X.env.kindOf n = some .local) (hc : Names X x c)
    (hb : ∀ (W : WX) (pn : List (Addr × Obj)) (xe : Value → Shared → Prop), Takes (X.tr pn xe) W → PassesOwn (model X.prog X.w) X.A X.env xe → PSs (X.tr pn xe) body (tb W))
    (hsu : ∀ (a : Addr) (pn : List (Addr × Obj)), PSs (X.suite a pn) (b0 :: suite) ts) :
    PS X (.Try body [.ExceptHandler (some (.Name x np)) (some n) (b0 :: suite) pos'] [] [] pos) (fun D σ H => tb (wKeep X.K c i ts D) D σ H) := by
  refine ⟨fun pins s σ H D I h => wpAny_Try_except ?_⟩
  have ok := I.ok
  refine wpAny_mono ((hb _ (X.pn ++ pins) _ (fun u s1 air => met ok hs hf hN hi hln hc hsu air) PassesOwn.looking).run [] s σ H D (I.toTry _) h) (fun fl s1 r => ?_) (fun _ _ q => q)
  cases fl with
  | next => obtain ⟨_, _, J, q⟩ := r; exact wpAny_execs_nil ⟨_, _, J.ofTry ok, q⟩
  | brk => obtain ⟨_, _, J, q⟩ := r; exact ⟨_, _, J.ofTry ok, q⟩
  | cont => obtain ⟨_, _, J, q⟩ := r; exact ⟨_, _, J.ofTry ok, q⟩
  | ret u => obtain ⟨_, _, _, J, v, q⟩ := r; exact ⟨_, _, _, J.ofTry ok, v, q⟩
end

/-! ### isinstance of a held exception -/
/-- what is asked of an own exception class -/
structure XcC (K : PySem.W.Frag) (D : Addr) : Prop where
  hc : PySem.W.isClsIn K D = true
  hg : PySem.W.findIn K (.ref D) "__getattribute__" = some (some (.builtin "BaseException.__getattribute__"))
  hk : PySem.W.findIn K (.ref D) "__getattr__" = some none
  hs : PySem.W.subIn K (.ref D) (.type "BaseException") = some true
  hd : PySem.W.hasDictIn K D = true
  ha : PySem.W.findIn K (.ref D) "__class__" = some (some (.builtin "object.__class__"))
  hn : PySem.W.specialIn K (.builtin "object.__class__") "__get__" = some (some (.builtin "getset_descriptor.__get__"))
  ht : PySem.W.takesIn K (.builtin "object.__class__") = some true
  hm : PySem.W.mroIn K D (.type "object") = some true
section
variable {X : Cx} {pins : List (Addr × Obj)} {σ : L2.St} {H : Hp} {s : Shared}
/-- a held exception, its dict as the heap tells it -/
def HasD (H : Hp) (d : Option Addr) : Prop := ∀ dx, d = some dx → ∃ fs, H dx = some (.xd fs)
theorem inst_of {a D : Addr} {d : Option Addr} (I : Inv X pins σ H s) (e : H a = some (exv a (.ref D) d)) (hd : HasD H d) : ∃ oe od, PySem.W.InstAt s.heap a oe D od := by
  obtain ⟨oe, vs, he, hz, hv⟩ := exv_at I.hok e
  have nc : PySem.W.notCls oe = true := by unfold PySem.W.notCls; rw [hv] <;> rfl
  cases d with
  | none => exact ⟨oe, none, he, hz.1, nc, by rw [hz.2]; trivial⟩
  | some dx =>
    obtain ⟨fs, ed⟩ := hd dx rfl
    have hx : ObjOk X.prog X.w H s.heap dx (.xd fs) := I.hok dx _ ed
    obtain ⟨mA, hns, hr⟩ := hx
    obtain ⟨od, ho, hl⟩ := lookIn_ns hns
    exact ⟨oe, some od, he, hz.1, nc, by rw [hz.2]; exact ho⟩
end
/-- isinstance(e, c), e a held exception of the class at D -/
def rIsX (K : PySem.W.Frag) : List V → Hp → VK → Prop := fun xs H Q => ∃ (a D : Addr) (d : Option Addr) (c : V) (u : Value) (b : Bool), xs = [.ref a, c] ∧ ClsV c u ∧ H a = some (exv a (.ref D) d) ∧ HasD H d ∧ XcC K D ∧ PySem.W.kitOne K (.ref D) u = some b ∧ Q (.bl b) H
theorem call_isX {X : Cx} : CallR X (.builtin "isinstance") (rIsX X.K) := by
  intro pins s σ H xs us Q I r h
  obtain ⟨a, D, d, c, u, b, rfl, k, ea, hd, T, e, q⟩ := h
  obtain ⟨u1, u2, rfl, r1, r2⟩ := vals2 r
  cases (show u1 = Value.ref a from r1)
  have e2 := k.eq r2
  subst e2
  obtain ⟨oe, od, J⟩ := inst_of I ea hd
  exact PySem.W.kia_one (PySem.W.kitx_exc T.hc T.hg T.hk T.hs T.ha T.hn T.ht T.hm) I.kIn J e (fun z => nomatch z) fun tk => ⟨.bl b, H, I.tok tk, rfl, q⟩
/-- both: a held exception, or anything that the layer knows -/
def rIsA (K : PySem.W.Frag) : List V → Hp → VK → Prop := fun xs H Q => rIsX K xs H Q ∨ rIsi K xs H Q
theorem call_isA {X : Cx} : CallR X (.builtin "isinstance") (rIsA X.K) := by
  intro pins s σ H xs us Q I r h
  rcases h with h | h
  · exact call_isX pins s σ H xs us Q I r h
  · exact call_isi pins s σ H xs us Q I r h

/-! ### a field of a held exception -/
def tXv (K : PySem.W.Frag) (f : Str) (te : TE) : TE := fun σ H Q => te σ H fun x H1 => ∃ (a C dd : Addr) (fs : List (Str × V)) (v : V), x = .ref a ∧ H1 a = some (exv a (.ref C) (some dd)) ∧ XcC K C ∧ PySem.W.findIn K (.ref C) f = some none ∧ H1 dd = some (.xd fs) ∧ fs.lookup f = some v ∧ Q v H1
theorem pe_xv {X : Cx} {e : Expr} {te : TE} {pos : Pos} {n : Str} (he : PE X e te) (hb : attributeBase e n X.env (eval e X.env) = eval e X.env := by rfl) : PE X (.Attribute e n pos) (tXv X.K n te) := by
  refine ⟨fun pins s σ H Q I h => ?_⟩
  refine attr_of hb (thn (he.run pins s σ H _ I h) fun u s1 hh => ?_)
  obtain ⟨x, H1, I1, rx, a, C, dd, fs, v, ex, ea, T, hno, ed, l, q⟩ := hh
  subst ex
  obtain rfl : u = Value.ref a := rx
  obtain ⟨oe, vs, ha, hz, hd⟩ := exv_at I1.hok ea
  have hx : ObjOk X.prog X.w H1 s1.heap dd (.xd fs) := I1.hok dd _ ed
  obtain ⟨mA, hns, hr⟩ := hx
  obtain ⟨od, ho, hl⟩ := lookIn_ns hns
  obtain ⟨u, hu, ru⟩ := RelO.some_of (v := v) (o := mA n) (by rw [← l]; exact hr n)
  have J : PySem.W.InstAt s1.heap a oe C (some od) := ⟨ha, hz.1, by unfold PySem.W.notCls; rw [hd] <;> rfl, by rw [hz.2]; exact ho⟩
  exact HandSPX.exc_get I1.kIn J T.hg T.hk T.hs (PySem.W.findObj_own T.hd hno rfl (by rw [hl, hu])) (handed_of ru) ⟨v, H1, I1.tok _, ru, q⟩

/-! ### B.__init__(self, ..), B an own class over ValueError -/
theorem pe_ownInit {X : Cx} {B : Addr} {mc : Value} {x : Str} {e : Expr} {es : List Expr} {ta : TA} {p1 p2 pos : Pos} {pl : Sem Bool} (hg : Gl X x) (hm : X.mg x = some (.ref B)) (r : ClX.CRead X.K B mc)
    (k : PySem.W.findCls X.K (.ref B) mc "__init__" = some (.val (.builtin "ValueError.__init__"))) (ha : PA X (e :: es) ta)
    (hc : eval (.Call (.Attribute (.Name x p1) "__init__" p2) (e :: es) [] pos) X.env = (do
      let ov ← eval (.Name x p1) X.env
      standAt p2.atName
      let (f, first) ← holding [ov] (getMethod ov "__init__" pl)
      callWith pos f first (backTo pos (starEach (e :: es) X.env)) (backToKw pos (keywordEach [] X.env))) := by rfl)
    (he : starEach (e :: es) X.env = (false, eval e X.env) :: starEach es X.env := by rfl) (hpl : (backTo pos (starEach es X.env)).any (·.1) = false := by rfl) (hdb : (x == ("__debug__" : Str)) = false := by decide) :
    PE X (.Call (.Attribute (.Name x p1) "__init__" p2) (e :: es) [] pos) (tVeI X.K ta) := by
  refine ⟨fun pins s σ H Q I h => ?_⟩
  refine PySem.W.methodCall_KW (ld_glob I hg hm ?_ hdb) hc
  refine PySem.W.method_cls I.kIn r.ga (PySem.W.cls_value I.kIn r.rd k rfl ?_)
  show wpAny _ _ (callWith pos (Value.builtin "ValueError.__init__") [] (backTo pos (starEach (e :: es) X.env)) []) _ _ _
  refine PyProof.Rows.callWith_method1 (thn (ha.run pos pins _ σ H _ (I.tok _) h) fun us s1 ⟨vs, H1, I1, r1, a, C, ws, ev, hl, T, ea, q⟩ => ?_) he hpl
  subst ev
  cases r1 with
  | @cons _ u0 _ ur ra rw' =>
    obtain rfl : u0 = Value.ref a := ra
    have hlen : ur.length ≤ sizeLine := by
      rw [← Paired.length rw', sizeLine_eq]
      omega
    exact oinit_ok T I1 ea hlen fun s' J => ⟨.non, H1, J, rfl, q⟩

/-! ### products and quotients by plain bounds -/
def Big (i : Int) : Prop := -1000000000000000000000000000000000000000000 < i ∧ i < 1000000000000000000000000000000000000000000
theorem Big.abs {i : Int} (h : Big i) : i.natAbs < 2 ^ 140 := by
  obtain ⟨a, b⟩ := h
  have : (2 : Nat) ^ 140 = 1393796574908163946345982392040522594123776 := by decide
  rw [this]
  omega
def CMulB (i j : Int) : Prop := Big i ∧ Big j
def CDivB (_ j : Int) : Prop := 0 < j ∧ j < 1000000000000000000000000000000000000000000
theorem op_mulB {X : Cx} : OpR X (binaryOp .Mult) (rI CMulB fun i j => .int (i * j)) := by
  intro pins s σ H x y u v Q I r1 r2 h
  obtain ⟨i, j, e1, e2, hc, q⟩ := h
  exact op_mulW pins s σ H x y u v Q I r1 r2 ⟨i, j, e1, e2, wide_mul hc.1.abs hc.2.abs (by decide) (by decide) (by decide), q⟩
theorem op_fdivB {X : Cx} : OpR X (binaryOp .FloorDiv) (rI CDivB fun i j => .int (i / j)) := by
  intro pins s σ H x y u v Q I r1 r2 h
  obtain ⟨i, j, e1, e2, hc, q⟩ := h
  have hb : Big j := ⟨by have := hc.1; omega, hc.2⟩
  exact op_fdivW pins s σ H x y u v Q I r1 r2 ⟨i, j, e1, e2, wide_div hc.1 hb.abs (by decide) (by decide), q⟩
end Tw

/-! Short words: a def of the top, its promise, its call; readings. -/
namespace Tw
open PySem PySem.Spec PyProof.Rows L2

/-- a def of the text as the top has left it -/
def Top (K : PySem.W.Frag) (mg : Str → Option Value) (x : Str) (st : Stmt) (ps : List Str) : Prop :=
  ∃ (f : Addr) (fd : FuncData), Fun K x x st f fd ∧ mg x = some (.ref f) ∧ Binds K fd ps []
/-- a def that keeps its promise, ready to be called -/
def Lk (K : PySem.W.Frag) (f : Addr) (fd : FuncData) : Prop := ∃ (oc : Value) (od : Option Addr) (osl : Array (Option Value)), K.lookup f = some ⟨oc, od, .func fd, osl⟩
theorem Lk.eq {K : PySem.W.Frag} {f : Addr} {fd fe : FuncData} (a : Lk K f fd) (b : Lk K f fe) : fd = fe := by
  obtain ⟨oc, od, osl, e⟩ := a
  obtain ⟨oc', od', osl', e'⟩ := b
  rw [e] at e'
  cases e'
  rfl
theorem lk_of {K : PySem.W.Frag} {x q : Str} {st : Stmt} {f : Addr} {fd : FuncData} (F : Fun K x q st f fd) : Lk K f fd := by
  obtain ⟨oc, od, kV, doc, pm, an, cdv, ct, osl, _, lk, _⟩ := F.ex
  exact ⟨oc, od, osl, lk⟩
def Has (P : Program) (w : World) (K : PySem.W.Frag) (mg : Str → Option Value) (base : Heap) (CX : CXT) (k : Nat) (x : Str) (ps : List Str) (sp : Sp) : Prop :=
  ∃ (f : Addr) (fd : FuncData), FnOk P w K mg base CX k f fd ps sp ∧ mg x = some (.ref f) ∧ PySem.W.keepIn K (.ref f) = true ∧ Binds K fd ps [] ∧ Lk K f fd
theorem Has.mono {P : Program} {w : World} {K : PySem.W.Frag} {mg : Str → Option Value} {base : Heap} {CX : CXT} {j k : Nat} {x : Str} {ps : List Str} {sp : Sp} (h : Has P w K mg base CX j x ps sp) (l : j ≤ k) : Has P w K mg base CX k x ps sp := by
  obtain ⟨f, fd, F, g, kp, b, lk⟩ := h
  exact ⟨f, fd, F.mono l, g, kp, b, lk⟩
/-! promises by the number of arguments -/
def sp1 (p : V → Hp → VK → XK → Prop) : Sp := fun vs H Q E => ∃ a, vs = [a] ∧ p a H Q E
def sp2 (p : V → V → Hp → VK → XK → Prop) : Sp := fun vs H Q E => ∃ a b, vs = [a, b] ∧ p a b H Q E
def sp3 (p : V → V → V → Hp → VK → XK → Prop) : Sp := fun vs H Q E => ∃ a b c, vs = [a, b, c] ∧ p a b c H Q E
def sp4 (p : V → V → V → V → Hp → VK → XK → Prop) : Sp := fun vs H Q E => ∃ a b c d, vs = [a, b, c, d] ∧ p a b c d H Q E
section
variable {P : Program} {w : World} {K : PySem.W.Frag} {mg : Str → Option Value} {base : Heap} {x : Str} {st : Stmt} {N : List Str} {k : Nat}
theorem Top.ok {ps : List Str} {sp : Sp} (D : Top K mg x st ps) (S : FnScope N ps (defScope st)) (len : ∀ vs H Q E, sp vs H Q E → vs.length = ps.length)
    (hbody : ∀ (f : Addr) (cdv : Value) (A : Around) (outer : List Env) (s : Shared) (H : Hp) (vs : List V) (Q : VK) (E : XK), Room k (A.deeper (envOfC x (defScope st) s.heap.objs.size f cdv)) → sp vs H Q E →
      ∃ t, PSs (cxOf CX0 P w K mg base N x (defScope st) f cdv A outer s H E).nox (defBody st) t ∧ t { nx := fun _ H' => Q .non H', rt := Q } (start N vs) H) : Has P w K mg base CX0 (k + 1) x ps sp := by
  obtain ⟨f, fd, F, g, b⟩ := D
  exact ⟨f, fd, F.ok S len (fun cdv A outer s H vs Q E hr h => hbody f cdv A outer s H vs Q E hr h), g, F.kp, b, lk_of F⟩
theorem Top.okX {ps : List Str} {sp : Sp} (D : Top K mg x st ps) (S : FnScope N ps (defScope st)) (len : ∀ vs H Q E, sp vs H Q E → vs.length = ps.length)
    (hbody : ∀ (f : Addr) (cdv : Value) (A : Around) (outer : List Env) (s : Shared) (H : Hp) (vs : List V) (Q : VK) (E : XK), Room k (A.deeper (envOfC x (defScope st) s.heap.objs.size f cdv)) → sp vs H Q E →
      ∃ t, PSs (cxOf (L2.CX P w) P w K mg base N x (defScope st) f cdv A outer s H E) (defBody st) t ∧ t { nx := fun _ H' => Q .non H', rt := Q } (start N vs) H) : Has P w K mg base (L2.CX P w) (k + 1) x ps sp := by
  obtain ⟨f, fd, F, g, b⟩ := D
  exact ⟨f, fd, F.okX S len (fun cdv A outer s H vs Q E hr h => hbody f cdv A outer s H vs Q E hr h), g, F.kp, b, lk_of F⟩
theorem Top.ok1 {a : Str} {p : V → Hp → VK → XK → Prop} (D : Top K mg x st [a]) (S : FnScope N [a] (defScope st))
    (hbody : ∀ (f : Addr) (cdv : Value) (A : Around) (outer : List Env) (s : Shared) (H : Hp) (v1 : V) (Q : VK) (E : XK), Room k (A.deeper (envOfC x (defScope st) s.heap.objs.size f cdv)) → p v1 H Q E →
      ∃ t, PSs (cxOf CX0 P w K mg base N x (defScope st) f cdv A outer s H E).nox (defBody st) t ∧ t { nx := fun _ H' => Q .non H', rt := Q } (start N [v1]) H) : Has P w K mg base CX0 (k + 1) x [a] (sp1 p) :=
  D.ok S (fun vs H Q E h => by obtain ⟨_, rfl, _⟩ := h; rfl) (fun f cdv A outer s H vs Q E hr h => by obtain ⟨v1, rfl, h⟩ := h; exact hbody f cdv A outer s H v1 Q E hr h)
theorem Top.ok2 {a b : Str} {p : V → V → Hp → VK → XK → Prop} (D : Top K mg x st [a, b]) (S : FnScope N [a, b] (defScope st))
    (hbody : ∀ (f : Addr) (cdv : Value) (A : Around) (outer : List Env) (s : Shared) (H : Hp) (v1 v2 : V) (Q : VK) (E : XK), Room k (A.deeper (envOfC x (defScope st) s.heap.objs.size f cdv)) → p v1 v2 H Q E →
      ∃ t, PSs (cxOf CX0 P w K mg base N x (defScope st) f cdv A outer s H E).nox (defBody st) t ∧ t { nx := fun _ H' => Q .non H', rt := Q } (start N [v1, v2]) H) : Has P w K mg base CX0 (k + 1) x [a, b] (sp2 p) :=
  D.ok S (fun vs H Q E h => by obtain ⟨_, _, rfl, _⟩ := h; rfl) (fun f cdv A outer s H vs Q E hr h => by obtain ⟨v1, v2, rfl, h⟩ := h; exact hbody f cdv A outer s H v1 v2 Q E hr h)
theorem Top.ok3 {a b c : Str} {p : V → V → V → Hp → VK → XK → Prop} (D : Top K mg x st [a, b, c]) (S : FnScope N [a, b, c] (defScope st))
    (hbody : ∀ (f : Addr) (cdv : Value) (A : Around) (outer : List Env) (s : Shared) (H : Hp) (v1 v2 v3 : V) (Q : VK) (E : XK), Room k (A.deeper (envOfC x (defScope st) s.heap.objs.size f cdv)) → p v1 v2 v3 H Q E →
      ∃ t, PSs (cxOf CX0 P w K mg base N x (defScope st) f cdv A outer s H E).nox (defBody st) t ∧ t { nx := fun _ H' => Q .non H', rt := Q } (start N [v1, v2, v3]) H) : Has P w K mg base CX0 (k + 1) x [a, b, c] (sp3 p) :=
  D.ok S (fun vs H Q E h => by obtain ⟨_, _, _, rfl, _⟩ := h; rfl) (fun f cdv A outer s H vs Q E hr h => by obtain ⟨v1, v2, v3, rfl, h⟩ := h; exact hbody f cdv A outer s H v1 v2 v3 Q E hr h)
theorem Top.ok1X {a : Str} {p : V → Hp → VK → XK → Prop} (D : Top K mg x st [a]) (S : FnScope N [a] (defScope st))
    (hbody : ∀ (f : Addr) (cdv : Value) (A : Around) (outer : List Env) (s : Shared) (H : Hp) (v1 : V) (Q : VK) (E : XK), Room k (A.deeper (envOfC x (defScope st) s.heap.objs.size f cdv)) → p v1 H Q E →
      ∃ t, PSs (cxOf (L2.CX P w) P w K mg base N x (defScope st) f cdv A outer s H E) (defBody st) t ∧ t { nx := fun _ H' => Q .non H', rt := Q } (start N [v1]) H) : Has P w K mg base (L2.CX P w) (k + 1) x [a] (sp1 p) :=
  D.okX S (fun vs H Q E h => by obtain ⟨_, rfl, _⟩ := h; rfl) (fun f cdv A outer s H vs Q E hr h => by obtain ⟨v1, rfl, h⟩ := h; exact hbody f cdv A outer s H v1 Q E hr h)
theorem Top.ok2X {a b : Str} {p : V → V → Hp → VK → XK → Prop} (D : Top K mg x st [a, b]) (S : FnScope N [a, b] (defScope st))
    (hbody : ∀ (f : Addr) (cdv : Value) (A : Around) (outer : List Env) (s : Shared) (H : Hp) (v1 v2 : V) (Q : VK) (E : XK), Room k (A.deeper (envOfC x (defScope st) s.heap.objs.size f cdv)) → p v1 v2 H Q E →
      ∃ t, PSs (cxOf (L2.CX P w) P w K mg base N x (defScope st) f cdv A outer s H E) (defBody st) t ∧ t { nx := fun _ H' => Q .non H', rt := Q } (start N [v1, v2]) H) : Has P w K mg base (L2.CX P w) (k + 1) x [a, b] (sp2 p) :=
  D.okX S (fun vs H Q E h => by obtain ⟨_, _, rfl, _⟩ := h; rfl) (fun f cdv A outer s H vs Q E hr h => by obtain ⟨v1, v2, rfl, h⟩ := h; exact hbody f cdv A outer s H v1 v2 Q E hr h)
theorem Top.ok3X {a b c : Str} {p : V → V → V → Hp → VK → XK → Prop} (D : Top K mg x st [a, b, c]) (S : FnScope N [a, b, c] (defScope st))
    (hbody : ∀ (f : Addr) (cdv : Value) (A : Around) (outer : List Env) (s : Shared) (H : Hp) (v1 v2 v3 : V) (Q : VK) (E : XK), Room k (A.deeper (envOfC x (defScope st) s.heap.objs.size f cdv)) → p v1 v2 v3 H Q E →
      ∃ t, PSs (cxOf (L2.CX P w) P w K mg base N x (defScope st) f cdv A outer s H E) (defBody st) t ∧ t { nx := fun _ H' => Q .non H', rt := Q } (start N [v1, v2, v3]) H) : Has P w K mg base (L2.CX P w) (k + 1) x [a, b, c] (sp3 p) :=
  D.okX S (fun vs H Q E h => by obtain ⟨_, _, _, rfl, _⟩ := h; rfl) (fun f cdv A outer s H vs Q E hr h => by obtain ⟨v1, v2, v3, rfl, h⟩ := h; exact hbody f cdv A outer s H v1 v2 v3 Q E hr h)
end
section
variable {X : Cx} {CX : CXT} {k : Nat} {ps : List Str} {sp : Sp} {E : XK} {x : Str} {p pos : Pos} {e : Expr} {es : List Expr} {t : TA}
/-- f(e, ..): what may be raised is taken by E -/
theorem pe_own (h : Has X.prog X.w X.K X.mg X.base CX k x ps sp) (hr : Room k X.A) (hx : Passes CX X E) (ha : PA X (e :: es) t) (hg : Gl X x := by rfl)
    (hdb : (x == ("__debug__" : Str)) = false := by decide) (he : starEach (e :: es) X.env = (false, eval e X.env) :: starEach es X.env := by rfl) (hpl : (backTo pos (starEach es X.env)).any (·.1) = false := by rfl) :
    PE X (.Call (.Name x p) (e :: es) [] pos) (tCall sp [] E t) := by
  obtain ⟨f, fd, F, g, kp, b, _⟩ := h
  exact pe_call F hr hg g kp b .nil hx ha hdb he hpl
theorem pe_ownS {E : L2.St → XK} (h : Has X.prog X.w X.K X.mg X.base CX k x ps sp) (hr : Room k X.A) (hx : ∀ σ, PassesAt CX X σ (E σ)) (ha : PA X (e :: es) t) (hg : Gl X x := by rfl)
    (hdb : (x == ("__debug__" : Str)) = false := by decide) (he : starEach (e :: es) X.env = (false, eval e X.env) :: starEach es X.env := by rfl) (hpl : (backTo pos (starEach es X.env)).any (·.1) = false := by rfl) :
    PE X (.Call (.Name x p) (e :: es) [] pos) (tCallS sp E t) := by
  obtain ⟨f, fd, F, g, kp, b, _⟩ := h
  exact pe_callS F hr hg g kp b hx ha hdb he hpl
end
/-! ### tests -/
theorem ifD {p A B : Prop} [Decidable p] (h1 : p → A) (h2 : ¬ p → B) : if decide p = true then A else B := by
  by_cases h : p
  · rw [if_pos (decide_eq_true h)]; exact h1 h
  · rw [if_neg (by simp [h])]; exact h2 h
theorem ifN {p A B : Prop} [Decidable p] (h1 : ¬ p → A) (h2 : p → B) : if (!decide p) = true then A else B := by
  by_cases h : p
  · rw [if_neg (by simp [h])]; exact h2 h
  · rw [if_pos (by simp [h])]; exact h1 h
theorem ifI {i j : Int} {A B : Prop} (h1 : i = j → A) (h2 : i ≠ j → B) : if decide (V.int i = V.int j) = true then A else B := ifD (fun e => h1 (V.int.inj e)) (fun e => h2 fun z => e (by rw [z]))
theorem ifNI {i j : Int} {A B : Prop} (h1 : i ≠ j → A) (h2 : i = j → B) : if (!decide (V.int i = V.int j)) = true then A else B := ifN (fun e => h1 fun z => e (by rw [z])) (fun e => h2 (V.int.inj e))
theorem ifB {c : Bool} {A B : Prop} (h1 : c = true → A) (h2 : c = false → B) : if c = true then A else B := by
  cases c with
  | true => exact iteT (h1 rfl)
  | false => exact iteF (h2 rfl)
theorem ifT {c : Bool} {A B : Prop} (e : c = true) (h : A) : if c = true then A else B := by rw [if_pos e]; exact h
theorem ifF {c : Bool} {A B : Prop} (e : c = false) (h : B) : if c = true then A else B := by rw [e]; exact iteF h
/-! ### heaps -/
/-- the list at d begins with the object at c -/
def At (H : Hp) (d c : Addr) : Prop := ∃ r : List V, H d = some (.lst (.ref c :: r))
/-- all but what stands at d is as it was; a list at d keeps its first item -/
structure But (d : Addr) (H H' : Hp) : Prop where
  keep : ∀ b o, b ≠ d → H b = some o → H' b = some o
  hd : ∀ c, At H d c → At H' d c
instance {d : Addr} {H H' : Hp} : CoeFun (But d H H') (fun _ => ∀ b o, b ≠ d → H b = some o → H' b = some o) := ⟨But.keep⟩
theorem But.refl (d : Addr) (H : Hp) : But d H H := ⟨fun _ _ _ h => h, fun _ h => h⟩
theorem But.trans {d : Addr} {H H1 H2 : Hp} (a : But d H H1) (b : But d H1 H2) : But d H H2 := ⟨fun c o n h => b c o n (a c o n h), fun c h => b.hd c (a.hd c h)⟩
theorem _root_.L2.Same.but {d : Addr} {H H1 : Hp} (a : Same H H1) : But d H H1 := ⟨fun c o _ h => a c o h, fun c h => by
  obtain ⟨r, e⟩ := h
  exact ⟨r, a _ _ e⟩⟩
theorem same_new {H : Hp} {p : Addr} {o : HO} (h : H p = none) : Same H (upd H p o) := fun b x e => by
  rw [upd_ne (ne_of_none e h)]
  exact e
theorem same_mut {H H' : Hp} {p : Addr} {o : HO} (e : Same H H') (h : H p = none) : Same H (upd H' p o) := fun a u ha => by
  rw [upd_ne (ne_of_none ha h)]
  exact e a u ha
theorem but_mut {H H' : Hp} {d : Addr} {o : HO} (e : But d H H') (ho : ∀ c, At H' d c → ∃ r : List V, o = .lst (.ref c :: r)) : But d H (upd H' d o) := ⟨fun a u n ha => by
  rw [upd_ne n]
  exact e a u n ha, fun c h => by
  obtain ⟨r, z⟩ := ho c (e.hd c h)
  exact ⟨r, by rw [upd_same, z]⟩⟩
theorem but_mut2 {H H' : Hp} {d p : Addr} {o : HO} (e : But d H H') (h : H p = none) : But d H (upd H' p o) := ⟨fun a u n ha => by
  rw [upd_ne (ne_of_none ha h)]
  exact e a u n ha, fun c k => by
  obtain ⟨r, z⟩ := e.hd c k
  obtain ⟨_, y⟩ := k
  exact ⟨r, by rw [upd_ne (ne_of_none y h)]; exact z⟩⟩
theorem But.free {d : Addr} {H H' : Hp} (e : But d H H') {l : Addr} (n : l ≠ d) (h : H' l = none) : H l = none := by
  cases q : H l with
  | none => rfl
  | some o =>
    rw [e l o n q] at h
    cases h
theorem _root_.L2.Same.tup {K : PySem.W.Frag} {H H' : Hp} {a : Addr} {xs : List V} (e : Same H H') (h : SqT K H a xs) : SqT K H' a xs := by
  rcases h with (h | ⟨o, h⟩) | h
  · exact .inl (.inl (e _ _ h))
  · exact .inl (.inr ⟨o, e _ _ h⟩)
  · exact .inr h
theorem sz {n : Nat} (h : n ≤ 100000) : n ≤ sizeLine := Nat.le_trans h (by decide)
theorem szl {n : Nat} (h : n < 100000) : n < sizeLine := Nat.lt_of_lt_of_le h (by decide)
theorem szM {n : Nat} (h : n ≤ 1000000) : n < sizeLine := Nat.lt_of_le_of_lt h (by decide)
/-! ### arithmetic -/
theorem mul_bd {a b A B : Int} (ha : 0 ≤ a) (ha' : a ≤ A) (hb : 0 ≤ b) (hb' : b ≤ B) : 0 ≤ a * b ∧ a * b ≤ A * B :=
  ⟨Int.mul_nonneg ha hb, Int.mul_le_mul ha' hb' hb (Int.le_trans ha ha')⟩
theorem mod_bd (a : Int) {b : Int} (h : 0 < b) : 0 ≤ a % b ∧ a % b < b := ⟨Int.emod_nonneg a (by omega), Int.emod_lt_of_pos a h⟩
/-! ### xs.count(y), flat items -/
def rCntA (K : PySem.W.Frag) : V → List V → Hp → VK → Prop := fun x xs H Q => ∃ (p : Addr) (ys : List V) (y : V), x = .ref p ∧ xs = [y] ∧ SqL K H p ys ∧ flatV y = true ∧ ys.all flatV = true ∧ Q (.int (ys.countP (fun z => eqV z y) : Nat)) H
theorem countP_eqU {x : V} : ∀ {xs : List V} {us : List Value}, Vals xs us → xs.all flatV = true → us.countP (eqU x) = xs.countP fun y => eqV y x
  | _, _, .nil, _ => rfl
  | y :: xs, u :: us, .cons r t, f => by
    rw [List.all_cons, Bool.and_eq_true] at f
    rw [List.countP_cons, List.countP_cons, eqU_of r f.1, countP_eqU t f.2]
theorem mt_countA {X : Cx} : MtR X "list.count" (rCntA X.K) := by
  intro pins s σ H x xs v us Q I rx rxs h
  obtain ⟨p, ys, y, rfl, rfl, hs, fy, fs, q⟩ := h
  cases rx
  obtain ⟨u, rfl, ru⟩ := rxs.one
  obtain ⟨its, rv, ⟨⟨cls, dd, data, sl⟩, n, ho, hc, hdn, hd⟩, hlen⟩ := I.list hs
  simp only at hc hd
  subst hc hd
  refine call_meets PySem.F.slot_list_count ⟨_, ho, rfl⟩ PySem.F.entry_list_count (PySem.F.args_list_count_2 _ _)
    (SeqAt.list_countAt p its.toArray n dd sl u (eqU y)) ⟨ho, fun z hz => mem_eqAt ru fy rv fs z (by simpa using hz), ?_⟩
  have ec : its.toArray.toList.countP (eqU y) = ys.countP fun z => eqV z y := countP_eqU rv fs
  refine ⟨.int (ys.countP (fun z => eqV z y) : Nat), H, I.tok _, ⟨s.toks, ?_⟩, q⟩
  show Value.int ((its.toArray.toList.countP (eqU y) : Nat) : Int) s.toks = _
  rw [ec]
/-- while True -/
theorem pt_true {X : Cx} {j pos} : PT X (.Constant (.bool true) j pos) (fun _ H Q => Q true H) := by
  have h : PT X (.Constant (.bool true) j pos) (tB (tC (.bl true))) := pt_val pe_bl
  exact ⟨fun pins s σ H Q I q => h.run pins s σ H Q I ⟨true, rfl, q⟩⟩
/-- an item of a list of ints -/
theorem at_ints {ns : List Int} {v : Int} (h0 : 0 ≤ v) (h1 : v < ns.length) : ∃ x, x ∈ ns ∧ atI (ns.map V.int) v = some (.int x) := by
  obtain ⟨j, rfl⟩ := Int.eq_ofNat_of_zero_le h0
  have jl : j < ns.length := by omega
  refine ⟨ns[j], List.getElem_mem jl, atI_nat ?_⟩
  rw [List.getElem?_map, List.getElem?_eq_getElem jl]
  rfl
end Tw

/-! The draws: what each of the common defs promises. -/
namespace Tw
open PySem PySem.Spec PyProof.Rows L2

def pMix : V → V → Hp → VK → XK → Prop := fun a b H Q _ => ∃ c k : Int, a = .int c ∧ b = .int k ∧ 0 ≤ k ∧ k < 1000000000 ∧ ∀ v : Int, 0 ≤ v → Q (.int v) H
/-- a deck: its cells, where it stands, what is left of a great cell, how many were mixed, the sum -/
def Deck (H : Hp) (d : Addr) (n : Nat) : Prop := ∃ (c : Addr) (xs : List Int) (i r k t : Int), H d = some (.lst [.ref c, .int i, .int r, .int k, .int t]) ∧ H c = some (.lst (xs.map V.int)) ∧ c ≠ d ∧ xs.length ≤ 63 ∧ 0 ≤ i ∧ i ≤ (xs.length : Int) ∧ 0 ≤ r ∧ 0 ≤ k ∧ k ≤ (n : Int)
theorem Deck.mono {H : Hp} {d : Addr} {n m : Nat} (h : Deck H d n) (l : n ≤ m) : Deck H d m := by
  obtain ⟨c, xs, i, r, k, t, a1, a2, a3, a4, a5, a6, a7, a8, a9⟩ := h
  exact ⟨c, xs, i, r, k, t, a1, a2, a3, a4, a5, a6, a7, a8, by omega⟩
theorem Deck.same {H H' : Hp} {d : Addr} {n : Nat} (h : Deck H d n) (s : Same H H') : Deck H' d n := by
  obtain ⟨c, xs, i, r, k, t, a1, a2, a3⟩ := h
  exact ⟨c, xs, i, r, k, t, s _ _ a1, s _ _ a2, a3⟩
theorem Deck.ne {H : Hp} {d p : Addr} {n : Nat} (h : Deck H d n) (e : H p = none) : p ≠ d := by
  obtain ⟨c, xs, i, r, k, t, a1, _⟩ := h
  intro z
  rw [z, a1] at e
  cases e
theorem Deck.ne_tup {H : Hp} {d p : Addr} {n : Nat} {xs : List V} (h : Deck H d n) (e : H p = some (.tup xs)) : p ≠ d := by
  obtain ⟨c, xs, i, r, k, t, a1, _⟩ := h
  intro z
  rw [z, a1] at e
  cases e
theorem Deck.fresh {H H' : Hp} {d p : Addr} {n m : Nat} (h : Deck H d n) (h' : Deck H' d m) (b : But d H H') (e : H' p = none) : H p = none := b.free (h'.ne e) e
/-- a list that is none of the deck's -/
def Out (H : Hp) (d L : Addr) : Prop := L ≠ d ∧ ∀ c, At H d c → c ≠ L
theorem Deck.out {H : Hp} {d L : Addr} {n : Nat} {o : HO} (D : Deck H d n) (e : H L = none) : Out (upd H L o) d L := by
  obtain ⟨c, xs, i, r, k, t, a1, a2, a3⟩ := D
  have n1 : L ≠ d := fun z => by rw [z, a1] at e; cases e
  have n2 : c ≠ L := fun z => by rw [← z, a2] at e; cases e
  refine ⟨n1, fun c' h => ?_⟩
  obtain ⟨r', y⟩ := h
  rw [upd_ne (Ne.symm n1), a1] at y
  cases y
  exact n2
theorem Out.but {H H' : Hp} {d L : Addr} {n m : Nat} (h : Out H d L) (D : Deck H d n) (D' : Deck H' d m) (b : But d H H') : Out H' d L := by
  obtain ⟨c, xs, i, r, k, t, a1, a2, a3⟩ := D
  obtain ⟨r1, e1⟩ := b.hd c ⟨_, a1⟩
  refine ⟨h.1, fun c' hc => ?_⟩
  obtain ⟨r2, e2⟩ := hc
  rw [e1] at e2
  cases e2
  exact h.2 _ ⟨_, a1⟩
theorem Out.mut {H : Hp} {d L : Addr} {o : HO} (h : Out H d L) : Out (upd H L o) d L := ⟨h.1, fun c hc => h.2 c (by
  obtain ⟨r, e⟩ := hc
  rw [upd_ne (Ne.symm h.1)] at e
  exact ⟨r, e⟩)⟩
theorem Deck.mut {H : Hp} {d L : Addr} {n : Nat} {o : HO} (D : Deck H d n) (h : Out H d L) : Deck (upd H L o) d n := by
  obtain ⟨c, xs, i, r, k, t, a1, a2, a3⟩ := D
  exact ⟨c, xs, i, r, k, t, by rw [upd_ne (Ne.symm h.1)]; exact a1, by rw [upd_ne (h.2 c ⟨_, a1⟩)]; exact a2, a3⟩
def pDeck (K : PySem.W.Frag) : V → Hp → VK → XK → Prop := fun a H Q _ => ∃ (s : Addr) (xs : List Int), a = .ref s ∧ SqL K H s (xs.map V.int) ∧ ∀ H' d, Same H H' → H d = none → Deck H' d 0 → Q (.ref d) H'
/-- a draw below m -/
def pNext (c : Nat) : V → V → Hp → VK → XK → Prop := fun a b H Q _ => ∃ (d : Addr) (n : Nat) (m : Int), a = .ref d ∧ b = .int m ∧ 0 < m ∧ m < 1000000000000000000000000000000000000000000 ∧ Deck H d n ∧ n + c ≤ 100000000 ∧
  ∀ (H' : Hp) (v : Int), But d H H' → Deck H' d (n + c) → 0 ≤ v → v < m → Q (.int v) H'
/-- a bound -/
def pBound : V → V → Hp → VK → XK → Prop := fun a b H Q _ => ∃ (d : Addr) (n : Nat) (m : Int), a = .ref d ∧ b = .int m ∧ 100 ≤ m ∧ m ≤ 1000000000000 ∧ Deck H d n ∧ n < 90000000 ∧
  ∀ (H' : Hp) (v : Int), But d H H' → Deck H' d (n + 50) → 1 ≤ v → v ≤ m → Q (.int v) H'
/-- a rule (times, plus, bound), read at r -/
structure Rule (t p b : Int) : Prop where
  b1 : 1 ≤ b
  b2 : b ≤ 1000000000000
  t0 : 0 ≤ t
  t1 : t < b
  p0 : 0 ≤ p
  p1 : p < b
def pRule : V → V → Hp → VK → XK → Prop := fun a b H Q _ => ∃ (d : Addr) (n : Nat) (m : Int), a = .ref d ∧ b = .int m ∧ 100 ≤ m ∧ m ≤ 1000000000000 ∧ Deck H d n ∧ n < 80000000 ∧
  ∀ (H' : Hp) (r : Addr) (t p b : Int), But d H H' → Deck H' d (n + 60) → H r = none → H' r = some (.tup [.int t, .int p, .int b]) → Rule t p b → b ≤ m → Q (.ref r) H'
theorem cut_take (xs : List V) (n : Nat) : cutV xs none (some (n : Int)) = xs.take n := by
  unfold cutV
  rw [HT.sIx_none, HT.sIx_nat]
  show List.take (min n xs.length - 0) (List.drop 0 xs) = _
  rw [List.drop_zero, Nat.sub_zero]
  by_cases h : n ≤ xs.length
  · rw [Nat.min_eq_left h]
  · rw [Nat.min_eq_right (by omega), List.take_of_length_le (Nat.le_refl _), List.take_of_length_le (by omega)]
/-- the classes of the refusals as the top has left them -/
structure Err (K : PySem.W.Frag) (mg : Str → Option Value) (CR CA CB CF CN CU : Addr) : Prop where
  gR : mg "RowError" = some (.ref CR)
  gA : mg "NoAsk" = some (.ref CA)
  gB : mg "NoBack" = some (.ref CB)
  gF : mg "NoFit" = some (.ref CF)
  gN : mg "NoNumber" = some (.ref CN)
  gU : mg "NoRule" = some (.ref CU)
/-- an error's class against all: which of the five it is -/
structure Kit (K : PySem.W.Frag) (C CR CA CB CF CN CU : Addr) (a b f n u : Bool) : Prop where
  xc : XcC K C
  r : PySem.W.kitOne K (.ref C) (.ref CR) = some true
  v : PySem.W.kitOne K (.ref C) (.type "ValueError") = some true
  a : PySem.W.kitOne K (.ref C) (.ref CA) = some a
  b : PySem.W.kitOne K (.ref C) (.ref CB) = some b
  f : PySem.W.kitOne K (.ref C) (.ref CF) = some f
  n : PySem.W.kitOne K (.ref C) (.ref CN) = some n
  u : PySem.W.kitOne K (.ref C) (.ref CU) = some u
/-- a number that is none: kept by the error -/
def pKindN (CN : Addr) : V → Hp → VK → XK → Prop := fun a H Q _ => ∃ (e dd : Addr) (v : V), a = .ref e ∧ H e = some (exv e (.ref CN) (some dd)) ∧ H dd = some (.xd [("number", v)]) ∧
  ∀ H' p, Same H H' → H p = none → H' p = some (.tup [.str "number", v]) → Q (.ref p) H'
/-- a number that is none of a bound's -/
def pWrong : V → V → Hp → VK → XK → Prop := fun a b H Q _ => ∃ (d : Addr) (n : Nat) (m : Int), a = .ref d ∧ b = .int m ∧ 0 < m ∧ m ≤ 1000000000000 ∧ Deck H d n ∧ n + 4 ≤ 100000000 ∧
  ∀ (H' : Hp) (v : Int), But d H H' → Deck H' d (n + 4) → (v < 0 ∨ m ≤ v) → Q (.int v) H'
end Tw

/-! The program's steps and rounds: the mathematics of a walk, and the promises. -/
namespace Tw
open PySem PySem.Spec PyProof.Rows L2

/-! ### walks -/
def stp (t p m x : Int) : Int := (t * x + p) % m
theorem stp_rng {t p m : Int} (h : 0 < m) (x : Int) : 0 ≤ stp t p m x ∧ stp t p m x < m := mod_bd _ h
def wk (f : Int → Int) : Nat → List Int → Int → List Int × Int
  | 0, ws, x => (ws, x)
  | k + 1, ws, x => if x ∈ ws then (ws, x) else wk f k (ws ++ [x]) (f x)
theorem wk_in {f : Int → Int} {ws : List Int} {x : Int} (h : x ∈ ws) : ∀ k, wk f k ws x = (ws, x)
  | 0 => rfl
  | k + 1 => by unfold wk; rw [if_pos h]
theorem wk_out {f : Int → Int} {ws : List Int} {x : Int} (h : x ∉ ws) (k : Nat) : wk f (k + 1) ws x = wk f k (ws ++ [x]) (f x) := by
  conv => lhs; unfold wk
  rw [if_neg h]
theorem nat_len : ∀ (n : Nat) (l : List Nat), l.Nodup → (∀ x ∈ l, x < n) → l.length ≤ n
  | 0, l, _, h => by
    cases l with
    | nil => exact Nat.le_refl _
    | cons a r => exact absurd (h a List.mem_cons_self) (Nat.not_lt_zero _)
  | n + 1, l, nd, h => by
    by_cases hn : n ∈ l
    · have ih := nat_len n (l.erase n) (nd.erase n) (fun x hx => by
        obtain ⟨h1, h2⟩ := nd.mem_erase_iff.mp hx
        have := h x h2
        omega)
      rw [List.length_erase_of_mem hn] at ih
      omega
    · have ih := nat_len n l nd (fun x hx => by
        have := h x hx
        have : x ≠ n := fun e => hn (e ▸ hx)
        omega)
      omega
def Rng (m : Int) (ws : List Int) : Prop := ∀ x ∈ ws, 0 ≤ x ∧ x < m
theorem int_len {m : Int} {ws : List Int} (nd : ws.Nodup) (h : Rng m ws) : ws.length ≤ m.toNat := by
  have h1 : (ws.map Int.toNat).Nodup := by
    rw [List.nodup_iff_pairwise_ne] at nd ⊢
    rw [List.pairwise_map]
    refine List.Pairwise.imp_of_mem (fun {a b} ha hb hne => ?_) nd
    have := h a ha
    have := h b hb
    omega
  have := nat_len m.toNat (ws.map Int.toNat) h1 (fun x hx => by
    obtain ⟨y, hy, rfl⟩ := List.mem_map.mp hx
    have := h y hy
    omega)
  rw [List.length_map] at this
  exact this
theorem nodup_snoc {ws : List Int} {x : Int} (nd : ws.Nodup) (h : x ∉ ws) : (ws ++ [x]).Nodup := by
  rw [List.nodup_append]
  refine ⟨nd, by simp, fun a ha b hb => ?_⟩
  rw [List.mem_singleton] at hb
  subst hb
  exact fun e => h (e ▸ ha)
theorem rng_snoc {m : Int} {ws : List Int} {x : Int} (h : Rng m ws) (hx : 0 ≤ x ∧ x < m) : Rng m (ws ++ [x]) := fun y hy => by
  rcases List.mem_append.mp hy with hy | hy
  · exact h y hy
  · rw [List.mem_singleton.mp hy]; exact hx
theorem wk_good {t p m : Int} (m0 : 0 < m) : ∀ (k : Nat) (ws : List Int) (x : Int), ws.Nodup → Rng m ws → 0 ≤ x ∧ x < m → m.toNat + 1 ≤ k + ws.length →
    (wk (stp t p m) k ws x).1.Nodup ∧ Rng m (wk (stp t p m) k ws x).1 ∧ (wk (stp t p m) k ws x).2 ∈ (wk (stp t p m) k ws x).1
  | 0, ws, x, nd, rg, hx, hk => by
    have := int_len nd rg
    omega
  | k + 1, ws, x, nd, rg, hx, hk => by
    by_cases h : x ∈ ws
    · rw [wk_in h]
      exact ⟨nd, rg, h⟩
    · rw [wk_out h]
      exact wk_good m0 k (ws ++ [x]) (stp t p m x) (nodup_snoc nd h) (rng_snoc rg hx) (stp_rng m0 x) (by rw [List.length_append]; show m.toNat + 1 ≤ k + (ws.length + 1); omega)
/-! ### a dict of places -/
def enumD : Nat → List Int → List (Key × V)
  | _, [] => []
  | i, w :: ws => (Sum.inl w, V.int (i : Int)) :: enumD (i + 1) ws
theorem enumD_len : ∀ (i : Nat) (ws : List Int), (enumD i ws).length = ws.length
  | _, [] => rfl
  | i, w :: ws => by show (enumD (i + 1) ws).length + 1 = ws.length + 1; rw [enumD_len]
theorem enumD_snoc : ∀ (i : Nat) (ws : List Int) (x : Int), enumD i (ws ++ [x]) = enumD i ws ++ [(Sum.inl x, V.int ((i + ws.length : Nat) : Int))]
  | i, [], x => rfl
  | i, w :: ws, x => by
    show (Sum.inl w, V.int (i : Int)) :: enumD (i + 1) (ws ++ [x]) = (Sum.inl w, V.int (i : Int)) :: enumD (i + 1) ws ++ [(Sum.inl x, V.int ((i + (ws.length + 1) : Nat) : Int))]
    rw [enumD_snoc, show i + 1 + ws.length = i + (ws.length + 1) by omega]
    rfl
theorem enumD_none : ∀ (i : Nat) {ws : List Int} {x : Int}, x ∉ ws → valV (enumD i ws) (Sum.inl x) = none
  | _, [], _, _ => rfl
  | i, w :: ws, x, h => by
    show valV ((Sum.inl w, V.int (i : Int)) :: enumD (i + 1) ws) (Sum.inl x) = none
    rw [valV_neg (fun e => h (by rw [← Sum.inl.inj e]; exact List.mem_cons_self))]
    exact enumD_none (i + 1) (fun hm => h (List.mem_cons_of_mem _ hm))
theorem enumD_some : ∀ (i : Nat) {ws : List Int} {x : Int}, x ∈ ws → valV (enumD i ws) (Sum.inl x) = some (V.int ((i + ws.idxOf x : Nat) : Int))
  | i, w :: ws, x, h => by
    show valV ((Sum.inl w, V.int (i : Int)) :: enumD (i + 1) ws) (Sum.inl x) = _
    by_cases e : w = x
    · subst e
      rw [valV_pos rfl, List.idxOf_cons_self]
      rfl
    · have e2 : (w :: ws).idxOf x = ws.idxOf x + 1 := by
        rw [List.idxOf_cons]
        simp [beq_eq_false_iff_ne.mpr e]
      rw [valV_neg (fun z => e (Sum.inl.inj z)), e2, enumD_some (i + 1) ((List.mem_cons.mp h).resolve_left (fun z => e z.symm))]
      congr 2
      omega
theorem upd_self {H : Hp} {a : Addr} {o : HO} (h : H a = some o) : upd H a o = H := by
  funext b
  by_cases e : b = a
  · rw [e, upd_same, h]
  · rw [upd_ne e]
theorem sqT_upd {K : PySem.W.Frag} {H : Hp} {r a : Addr} {xs : List V} {o u : HO} (h : SqT K H r xs) (ha : H a = some u) (n1 : ∀ ys, u ≠ .tup ys) (n2 : ∀ ob v, u ≠ .frz ob v) : SqT K (upd H a o) r xs := by
  rcases h with (h | ⟨ob, h⟩) | h
  · refine .inl (.inl ?_)
    rw [upd_ne (fun e => n1 xs (by rw [e, ha] at h; exact Option.some.inj h))]
    exact h
  · refine .inl (.inr ⟨ob, ?_⟩)
    rw [upd_ne (fun e => n2 ob _ (by rw [e, ha] at h; exact Option.some.inj h))]
    exact h
  · exact .inr h
/-! ### refusals -/
/-- the error behind a number that is none: its own dict d, new -/
def Bad (CN : Addr) (n : Int) (H : Hp) (E : XK) : Prop := ∀ d, H d = none → E (.ref CN) (some d) (upd H d (.xd [("number", .int n)]))
theorem made_eq {H : Hp} {a d : Addr} {C : Addr} {fs : List (Str × V)} (na : H a = none) (nd : d ≠ a) :
    upd (L2.del (upd (upd (upd H a (exo a C none)) d (exd d fs)) a (exo a C (some d))) a) d (.xd fs) = upd H d (.xd fs) := by
  funext b
  by_cases hb : b = d
  · rw [hb, upd_same, upd_same]
  · rw [upd_ne hb, upd_ne hb]
    by_cases ha : b = a
    · rw [ha, del_same, na]
    · rw [del_ne ha, upd_ne ha, upd_ne hb, upd_ne ha]
def spInit (K : PySem.W.Frag) : Sp := sp2 fun x v H Q _ => ∃ (a C : Addr), x = .ref a ∧ OexC K C ∧ PySem.W.findIn K (.ref C) "number" = some none ∧ H a = some (exo a C none) ∧ ∀ d, H d = none → d ≠ a → Q .non (upd (upd H d (exd d [("number", v)])) a (exo a C (some d)))
def pWhole : V → Hp → VK → XK → Prop := fun a H Q _ => ∃ n : Int, a = .int n ∧ Q (.bl true) H
def pIsNum : V → V → Hp → VK → XK → Prop := fun a b H Q _ => ∃ n m : Int, a = .int n ∧ b = .int m ∧ Q (.bl (decide (0 ≤ n ∧ n < m))) H
def pCheck (CN : Addr) : V → V → Hp → VK → XK → Prop := fun a b H Q E => ∃ n m : Int, a = .int n ∧ b = .int m ∧ (0 ≤ n → n < m → Q .non H) ∧ (¬ (0 ≤ n ∧ n < m) → Bad CN n H E)
def pNextOf (K : PySem.W.Frag) (CN : Addr) : V → V → Hp → VK → XK → Prop := fun a b H Q E => ∃ (r : Addr) (t p m n : Int), a = .ref r ∧ b = .int n ∧ SqT K H r [.int t, .int p, .int m] ∧ Rule t p m ∧
  (0 ≤ n → n < m → Q (.int (stp t p m n)) H) ∧ (¬ (0 ≤ n ∧ n < m) → Bad CN n H E)
def pWalk (K : PySem.W.Frag) : V → V → V → Hp → VK → XK → Prop := fun a b c H Q _ => ∃ (r : Addr) (t p m s : Int) (l : Addr) (ws : List Int), a = .ref r ∧ b = .int s ∧ c = .ref l ∧ SqT K H r [.int t, .int p, .int m] ∧ Rule t p m ∧ m ≤ 1000000 ∧ 0 ≤ s ∧ s < m ∧
  H l = some (.dK (enumD 0 ws)) ∧ ws.Nodup ∧ Rng m ws ∧ Q (.int (wk (stp t p m) (m.toNat + 1 - ws.length) ws s).2) (upd H l (.dK (enumD 0 (wk (stp t p m) (m.toNat + 1 - ws.length) ws s).1)))
/-- tail and length -/
def rndW (t p m s : Int) : List Int × Int := wk (stp t p m) (m.toNat + 1) [] s
def rndT (t p m s : Int) : Int := (((rndW t p m s).1.idxOf (rndW t p m s).2 : Nat) : Int)
def rndL (t p m s : Int) : Int := ((rndW t p m s).1.length : Int) - rndT t p m s
def pRound (K : PySem.W.Frag) (CN : Addr) : V → V → Hp → VK → XK → Prop := fun a b H Q E => ∃ (r : Addr) (t p m s : Int), a = .ref r ∧ b = .int s ∧ SqT K H r [.int t, .int p, .int m] ∧ Rule t p m ∧ m ≤ 1000000 ∧
  (0 ≤ s → s < m → ∀ H' q, Same H H' → H q = none → H' q = some (.tup [.int (rndT t p m s), .int (rndL t p m s)]) → Q (.ref q) H') ∧ (¬ (0 ≤ s ∧ s < m) → Bad CN s H E)
def pRoundL (K : PySem.W.Frag) : V → V → Hp → VK → XK → Prop := fun a b H Q _ => ∃ (r : Addr) (t p m s : Int), a = .ref r ∧ b = .int s ∧ SqT K H r [.int t, .int p, .int m] ∧ Rule t p m ∧ m ≤ 1000000 ∧ 0 ≤ s ∧ s < m ∧
  ∀ H' q, Same H H' → H q = none → H' q = some (.tup [.int (rndT t p m s), .int (rndL t p m s)]) → Q (.ref q) H'
/-- a refusal that was asked for: True -/
def pRefR (K : PySem.W.Frag) : V → V → Hp → VK → XK → Prop := fun a b H Q _ => ∃ (r : Addr) (t p m n : Int), a = .ref r ∧ b = .int n ∧ SqT K H r [.int t, .int p, .int m] ∧ Rule t p m ∧ m ≤ 1000000 ∧ (n < 0 ∨ m ≤ n) ∧ ∀ H', Same H H' → Q (.bl true) H'
/-- data that are alike -/
theorem eqv_self {d : PyData} (h : SeqAt.shaped d = true) : PyData.eqv d d = true := SeqAt.eqv_refl d (SeqAt.canLay_of_shaped h)
theorem shp_sn (n : Int) : SeqAt.shaped (.tuple [.str "number", .int n]) = true := by
  have h : PyData.canLay0 (.str "number") = true := by decide +kernel
  show (PyData.canLay0 (.tuple [.str "number", .int n]) && decide (PyData.depth (.tuple [.str "number", .int n]) ≤ 64)) = true
  simp [PyData.canLay0, PyData.canLayAll0] at h ⊢
  exact ⟨h, of_decide_eq_true rfl⟩
theorem dp_ints {K : PySem.W.Frag} {H : Hp} : ∀ ns : List Int, DpAll K H (ns.map V.int) (ns.map PyData.int)
  | [] => .nil
  | n :: ns => .cons (.int n) (dp_ints ns)
/-! ### what the top has left -/
theorem top_mk {K : PySem.W.Frag} {h : Heap} {mg : Str → Option Value} {x : Str} {st : Stmt} {ps : List Str} {f : Addr} {oc : Value} {od an : Option Addr} {sl : Array (Option Value)} {kV dc pm cd ct : Value} (X : K.In h) (G : h.Ns mainGlobals mg)
    (a : PySem.W.nsIn K mainGlobals x = some (some (.ref f))) (l : K.lookup f = some ⟨oc, od, .func (PySem.W.fnOf x x (defArgs st) (defBody st) (defScope st) .none kV dc pm an cd ct), sl⟩) (c : PySem.W.codeIn K cd x = true) (k : PySem.W.keepIn K (.ref f) = true)
    (hb : ∀ (kV doc pm : Value) (an : Option Addr) (cdv ct : Value) (us : List Value), us.length = ps.length → bindArgs (PySem.W.fnOf x x (defArgs st) (defBody st) (defScope st) .none kV doc pm an cdv ct) ⟨us, []⟩ = pure (ps.zip us)) : Top K mg x st ps :=
  ⟨f, _, fun_mk l c k, PySem.W.mg_of X G a, (fun_mk l c k).binds hb⟩
end Tw

/-! Powers, sums of powers, common divisors, inverses. -/
namespace Tw
open PySem PySem.Spec PyProof.Rows L2
def geo (t : Int) : Nat → Int
  | 0 => 0
  | n + 1 => geo t n + t ^ n
theorem geo_add (t : Int) (a : Nat) : ∀ b, geo t (a + b) = geo t a + t ^ a * geo t b
  | 0 => by show geo t a = geo t a + t ^ a * 0; grind
  | b + 1 => by
    show geo t (a + b) + t ^ (a + b) = geo t a + t ^ a * (geo t b + t ^ b)
    rw [geo_add t a b, Int.pow_add]
    grind
theorem geo_mul (t : Int) : ∀ n, (t - 1) * geo t n = t ^ n - 1
  | 0 => by rw [Int.pow_zero]; show (t - 1) * 0 = 1 - 1; grind
  | n + 1 => by
    have ih := geo_mul t n
    show (t - 1) * (geo t n + t ^ n) = t ^ (n + 1) - 1
    rw [Int.pow_succ]
    grind
/-- what a rule of n steps is -/
def rsT (t m : Int) (n : Nat) : Int := t ^ n % m
def rsP (t p m : Int) (n : Nat) : Int := p * geo t n % m
theorem rs_T (t m : Int) (a c : Nat) : rsT t m c * rsT t m a % m = rsT t m (a + c) := by
  unfold rsT
  rw [← Int.mul_emod, Int.pow_add, Int.mul_comm]
theorem rs_P (t p m : Int) (a c : Nat) : (rsT t m c * rsP t p m a + rsP t p m c) % m = rsP t p m (a + c) := by
  unfold rsT rsP
  rw [Int.add_emod, Int.emod_emod, ← Int.mul_emod, ← Int.add_emod, Nat.add_comm a c, geo_add]
  congr 1
  grind
theorem rs_rng {t p m : Int} (h : 0 < m) (n : Nat) : (0 ≤ rsT t m n ∧ rsT t m n < m) ∧ 0 ≤ rsP t p m n ∧ rsP t p m n < m := ⟨mod_bd _ h, mod_bd _ h⟩
theorem Rule.rs {t p m : Int} (R : Rule t p m) (n : Nat) : Rule (rsT t m n) (rsP t p m n) m :=
  have h := rs_rng (t := t) (p := p) (show 0 < m by have := R.b1; omega) n
  ⟨R.b1, R.b2, h.1.1, h.1.2, h.2.1, h.2.2⟩
/-- ahead -/
def ahd (t p m : Int) (n : Nat) (x : Int) : Int := (t ^ n * x + p * geo t n) % m
theorem stp_rs (t p m : Int) (n : Nat) (x : Int) : stp (rsT t m n) (rsP t p m n) m x = ahd t p m n x := by
  unfold stp rsT rsP ahd
  rw [Int.add_emod_emod, Int.add_emod, Int.mul_emod, Int.emod_emod, ← Int.mul_emod, ← Int.add_emod]
theorem ahd_rng {t p m : Int} (h : 0 < m) (n : Nat) (x : Int) : 0 ≤ ahd t p m n x ∧ ahd t p m n x < m := mod_bd _ h
/-- the number from which n steps lead to s -/
def Back (t p m : Int) (n : Nat) (s y : Int) : Prop := 0 ≤ y ∧ y < m ∧ ahd t p m n y = s
theorem cop_pow {t m : Int} (h : Int.gcd t m = 1) (n : Nat) : Nat.Coprime m.natAbs (t ^ n).natAbs := by
  rw [Int.natAbs_pow]
  exact (Nat.Coprime.pow_left n (show Nat.Coprime t.natAbs m.natAbs from h)).symm
theorem Back.uniq {t p m : Int} {n : Nat} {s y z : Int} (hc : Int.gcd t m = 1) (h : Back t p m n s y) (k : Back t p m n s z) : y = z := by
  obtain ⟨y0, y1, ye⟩ := h
  obtain ⟨z0, z1, ze⟩ := k
  have e : (t ^ n * y + p * geo t n) % m = (t ^ n * z + p * geo t n) % m := ye.trans ze.symm
  have e2 := Int.emod_eq_emod_iff_emod_sub_eq_zero.mp e
  have e3 : m ∣ t ^ n * (y - z) := by
    have := Int.dvd_of_emod_eq_zero e2
    rw [show t ^ n * (y - z) = t ^ n * y + p * geo t n - (t ^ n * z + p * geo t n) by grind]
    exact this
  have e4 : m.natAbs ∣ (y - z).natAbs := by
    have h1 := Int.natAbs_dvd_natAbs.mpr e3
    rw [Int.natAbs_mul] at h1
    exact Nat.Coprime.dvd_of_dvd_mul_left (cop_pow hc n) h1
  have e5 : (y - z).natAbs = 0 := Nat.eq_zero_of_dvd_of_lt e4 (by omega)
  omega
/-- undone by the inverse -/
theorem back_of {t p m u : Int} (m0 : 0 < m) (hu : t * u % m = 1 % m) (s : Int) (s0 : 0 ≤ s) (s1 : s < m) : ∀ n : Nat, Back t p m n s (ahd u (-u * p % m) m n s) := by
  intro n
  refine ⟨(ahd_rng m0 n s).1, (ahd_rng m0 n s).2, ?_⟩
  obtain ⟨e, he⟩ := Int.dvd_of_emod_eq_zero (Int.emod_eq_emod_iff_emod_sub_eq_zero.mp hu)
  have htu : t * u = m * e + 1 := by omega
  have key : ∀ k : Nat, m ∣ t ^ k * (u ^ k * s + (-u * p) * geo u k) + p * geo t k - s := by
    intro k
    induction k with
    | zero =>
      rw [Int.pow_zero, Int.pow_zero]
      show m ∣ 1 * (1 * s + (-u * p) * 0) + p * 0 - s
      exact ⟨0, by grind⟩
    | succ k ih =>
      obtain ⟨c, hc⟩ := ih
      have g1 : geo u (k + 1) = 1 + u * geo u k := by
        rw [Nat.add_comm, geo_add]
        show 0 + u ^ 0 + u ^ 1 * geo u k = _
        rw [Int.pow_zero, Int.pow_one]
        grind
      have g2 : geo t (k + 1) = geo t k + t ^ k := rfl
      rw [g1, g2, Int.pow_succ, Int.pow_succ]
      generalize u ^ k = U at *
      generalize t ^ k = T at *
      generalize geo u k = G at *
      generalize geo t k = J at *
      refine ⟨c + T * e * (U * s + (-u * p) * G - p), ?_⟩
      have e1 : T * t * (U * u * s + -u * p * (1 + u * G)) + p * (J + T) - s = T * ((t * u) * (U * s + -u * p * G - p) + p) + p * J - s := by grind
      rw [e1, htu]
      have e2 : T * ((m * e + 1) * (U * s + -u * p * G - p) + p) + p * J - s = (T * (U * s + -u * p * G) + p * J - s) + m * (T * e * (U * s + -u * p * G - p)) := by grind
      rw [e2, hc]
      grind
  obtain ⟨c, hc⟩ := key n
  have hy : ∃ b, ahd u (-u * p % m) m n s = (u ^ n * s + (-u * p) * geo u n) + m * b := by
    unfold ahd
    have a1 := Int.mul_ediv_add_emod (u ^ n * s + (-u * p % m) * geo u n) m
    have a2 := Int.mul_ediv_add_emod (-u * p) m
    refine ⟨-((u ^ n * s + (-u * p % m) * geo u n) / m) - (-u * p / m) * geo u n, ?_⟩
    generalize (u ^ n * s + (-u * p % m) * geo u n) / m = d1 at *
    generalize (u ^ n * s + (-u * p % m) * geo u n) % m = d2 at *
    generalize -u * p / m = d3 at *
    generalize -u * p % m = d4 at *
    grind
  obtain ⟨b, hb⟩ := hy
  rw [hb]
  show (t ^ n * (u ^ n * s + -u * p * geo u n + m * b) + p * geo t n) % m = s
  have e3 : t ^ n * (u ^ n * s + -u * p * geo u n + m * b) + p * geo t n = s + m * (c + t ^ n * b) := by grind
  rw [e3, Int.add_mul_emod_self_left]
  exact Int.emod_eq_of_lt s0 s1
/-! ### common divisors -/
theorem gcd_step {x y : Int} (h0 : 0 ≤ x) (h1 : 0 < y) : Int.gcd y (x % y) = Int.gcd x y := by
  obtain ⟨a, rfl⟩ := Int.eq_ofNat_of_zero_le h0
  obtain ⟨b, rfl⟩ := Int.eq_ofNat_of_zero_le (Int.le_of_lt h1)
  show Nat.gcd b ((a : Int) % (b : Int)).natAbs = Nat.gcd a b
  rw [← Int.natCast_emod, Int.natAbs_natCast, Nat.gcd_comm b, ← Nat.gcd_rec, Nat.gcd_comm]
/-! ### powers by squaring -/
theorem sq_pow (t : Int) (n : Nat) : t ^ n = (if n % 2 = 1 then t else 1) * (t * t) ^ (n / 2) := by
  have e : n = 2 * (n / 2) + n % 2 := by omega
  have h2 : (t * t) ^ (n / 2) = t ^ (2 * (n / 2)) := by rw [Int.pow_mul, show t ^ 2 = t * t by rw [Int.pow_succ, Int.pow_one]]
  rw [h2]
  by_cases h : n % 2 = 1
  · rw [if_pos h]
    conv => lhs; rw [e, h, Int.pow_succ]
    exact Int.mul_comm _ _
  · rw [if_neg h, Int.one_mul]
    conv => lhs; rw [e, show n % 2 = 0 by omega, Nat.add_zero]
/-- the law's sum of powers, by a power of the bound times one less -/
theorem shares {t m P : Int} {n : Nat} (m0 : 0 < m) (t2 : 2 ≤ t) (hP : P = t ^ n % (m * (t - 1))) : P % m = t ^ n % m ∧ (P - 1) / (t - 1) % m = geo t n % m := by
  have d1 := Int.mul_ediv_add_emod (t ^ n) (m * (t - 1))
  rw [← hP] at d1
  have g := geo_mul t n
  constructor
  · rw [hP, Int.emod_emod_of_dvd _ ⟨t - 1, rfl⟩]
  · have e : P - 1 = (t - 1) * (geo t n - m * (t ^ n / (m * (t - 1)))) := by
      generalize t ^ n / (m * (t - 1)) = q at *
      grind
    rw [e, Int.mul_ediv_cancel_left _ (by omega)]
    rw [Int.sub_emod, Int.mul_emod_right, Int.sub_zero, Int.emod_emod]
theorem pow_zero_pos {n : Nat} (h : 0 < n) : (0 : Int) ^ n = 0 := by
  obtain ⟨k, rfl⟩ : ∃ k, n = k + 1 := ⟨n - 1, by omega⟩
  rw [Int.pow_succ, Int.mul_zero]
theorem geo_zero : ∀ {n : Nat}, 0 < n → geo 0 n = 1
  | 1, _ => by show (0 : Int) + 0 ^ 0 = 1; rw [Int.pow_zero]; rfl
  | n + 2, _ => by
    show geo 0 (n + 1) + 0 ^ (n + 1) = 1
    rw [geo_zero (Nat.succ_pos n), pow_zero_pos (Nat.succ_pos n)]
    rfl
theorem geo_one : ∀ n : Nat, geo 1 n = n
  | 0 => rfl
  | n + 1 => by
    show geo 1 n + 1 ^ n = ((n + 1 : Nat) : Int)
    rw [geo_one n, Int.one_pow]
    rfl
/-! ### promises -/
def pGcd : V → V → Hp → VK → XK → Prop := fun a b H Q _ => ∃ x y : Int, a = .int x ∧ b = .int y ∧ 0 ≤ x ∧ 0 ≤ y ∧ Q (.int (Int.gcd x y : Nat)) H
def pInv : V → V → Hp → VK → XK → Prop := fun a b H Q _ => ∃ x m : Int, a = .int x ∧ b = .int m ∧ 0 ≤ x ∧ 0 < m ∧ m ≤ 1000000000000 ∧ Int.gcd x m = 1 ∧ ∀ H' v, Same H H' → 0 ≤ v → v < m → x * v % m = 1 % m → Q (.int v) H'
def pChained (K : PySem.W.Frag) : V → V → Hp → VK → XK → Prop := fun a b H Q _ => ∃ (r1 r2 : Addr) (t1 p1 t2 p2 m : Int), a = .ref r1 ∧ b = .ref r2 ∧ SqT K H r1 [.int t1, .int p1, .int m] ∧ SqT K H r2 [.int t2, .int p2, .int m] ∧ Rule t1 p1 m ∧ Rule t2 p2 m ∧
  ∀ H' q, Same H H' → H q = none → H' q = some (.tup [.int (t2 * t1 % m), .int ((t2 * p1 + p2) % m), .int m]) → Q (.ref q) H'
def pRos (K : PySem.W.Frag) : V → V → Hp → VK → XK → Prop := fun a b H Q _ => ∃ (r : Addr) (t p m n : Int), a = .ref r ∧ b = .int n ∧ SqT K H r [.int t, .int p, .int m] ∧ Rule t p m ∧ 0 ≤ n ∧
  ∀ H' q, Same H H' → H' q = some (.tup [.int (rsT t m n.toNat), .int (rsP t p m n.toNat), .int m]) → Q (.ref q) H'
def pRback (K : PySem.W.Frag) (CB : Addr) : V → Hp → VK → XK → Prop := fun a H Q E => ∃ (r : Addr) (t p m : Int), a = .ref r ∧ SqT K H r [.int t, .int p, .int m] ∧ Rule t p m ∧
  (Int.gcd t m = 1 → ∀ H' q u, Same H H' → H q = none → 0 ≤ u → u < m → t * u % m = 1 % m → H' q = some (.tup [.int u, .int (-u * p % m), .int m]) → Q (.ref q) H') ∧ (Int.gcd t m ≠ 1 → E (.ref CB) none H)
def pJump (K : PySem.W.Frag) (CN CB : Addr) : V → V → V → Hp → VK → XK → Prop := fun a b c H Q E => ∃ (r : Addr) (t p m s n : Int), a = .ref r ∧ b = .int s ∧ c = .int n ∧ SqT K H r [.int t, .int p, .int m] ∧ Rule t p m ∧
  (¬ (0 ≤ s ∧ s < m) → Bad CN s H E) ∧ (0 ≤ s ∧ s < m → 0 ≤ n → ∀ H', Same H H' → Q (.int (ahd t p m n.toNat s)) H') ∧
  (0 ≤ s ∧ s < m → n < 0 → Int.gcd t m = 1 → ∀ H' y, Same H H' → Back t p m (-n).toNat s y → Q (.int y) H') ∧ (0 ≤ s ∧ s < m → n < 0 → Int.gcd t m ≠ 1 → E (.ref CB) none H)
end Tw
namespace Tw
open PySem PySem.Spec PyProof.Rows L2
/-- an error without a number: its kind's name alone -/
def pKindO (C : Addr) (nm : Str) : V → Hp → VK → XK → Prop := fun a H Q _ => ∃ e : Addr, a = .ref e ∧ H e = some (exv e (.ref C) none) ∧ ∀ H' p, Same H H' → H p = none → H' p = some (.tup [.str nm]) → Q (.ref p) H'
def pPow : V → V → V → Hp → VK → XK → Prop := fun a b c H Q _ => ∃ x n m : Int, a = .int x ∧ b = .int n ∧ c = .int m ∧ 0 ≤ x ∧ x ≤ 1000000000000 ∧ 0 ≤ n ∧ 0 < m ∧ m ≤ 1000000000000000000000000 ∧ Q (.int (x ^ n.toNat % m)) H
def pShares (K : PySem.W.Frag) : V → V → Hp → VK → XK → Prop := fun a b H Q _ => ∃ (r : Addr) (t p m n : Int), a = .ref r ∧ b = .int n ∧ SqT K H r [.int t, .int p, .int m] ∧ Rule t p m ∧ 0 ≤ n ∧
  ∀ H' q, Same H H' → H q = none → H' q = some (.lst [.int (t ^ n.toNat % m), .int (geo t n.toNat % m)]) → Q (.ref q) H'
def pAhead (K : PySem.W.Frag) : V → V → V → Hp → VK → XK → Prop := fun a b c H Q _ => ∃ (r : Addr) (t p m s n : Int), a = .ref r ∧ b = .int s ∧ c = .int n ∧ SqT K H r [.int t, .int p, .int m] ∧ Rule t p m ∧ 0 ≤ s ∧ s < m ∧ 0 ≤ n ∧ ∀ H', Same H H' → Q (.int (ahd t p m n.toNat s)) H'
theorem ahd_shares (t p m : Int) (n : Nat) (s : Int) : (t ^ n % m * s + geo t n % m * p) % m = ahd t p m n s := by
  unfold ahd
  rw [Int.add_emod, Int.mul_emod, Int.emod_emod, ← Int.mul_emod, Int.mul_emod (geo t n % m), Int.emod_emod, ← Int.mul_emod, ← Int.add_emod, Int.mul_comm (geo t n)]
def pStepsL : V → Hp → VK → XK → Prop := fun a H Q _ => ∃ (d : Addr) (n : Nat), a = .ref d ∧ Deck H d n ∧ n + 5 ≤ 100000000 ∧ ∀ (H' : Hp) (v : Int), But d H H' → Deck H' d (n + 5) → Q (.int v) H'
def pTold3 (K : PySem.W.Frag) : V → V → V → Hp → VK → XK → Prop := fun a b c H Q _ => ∃ (r : Addr) (t p m s n : Int), a = .ref r ∧ b = .int s ∧ c = .int n ∧ SqT K H r [.int t, .int p, .int m] ∧ Rule t p m ∧
  (¬ (0 ≤ s ∧ s < m) → ∀ H' q, Same H H' → H q = none → H' q = some (.tup [.str "number", .int s]) → Q (.ref q) H') ∧
  (0 ≤ s ∧ s < m → 0 ≤ n → ∀ H' q, Same H H' → H q = none → H' q = some (.lst [.int (ahd t p m n.toNat s)]) → Q (.ref q) H') ∧
  (0 ≤ s ∧ s < m → n < 0 → Int.gcd t m = 1 → ∀ H' q y, Same H H' → H q = none → Back t p m (-n).toNat s y → H' q = some (.lst [.int y]) → Q (.ref q) H') ∧
  (0 ≤ s ∧ s < m → n < 0 → Int.gcd t m ≠ 1 → ∀ H' q, Same H H' → H q = none → H' q = some (.tup [.str "back"]) → Q (.ref q) H')
def pRight3 (K : PySem.W.Frag) : V → V → V → Hp → VK → XK → Prop := fun a b c H Q _ => ∃ (r : Addr) (t p m s n : Int), a = .ref r ∧ b = .int s ∧ c = .int n ∧ SqT K H r [.int t, .int p, .int m] ∧ Rule t p m ∧ 0 ≤ s ∧ s < m ∧ ∀ H', Same H H' → Q (.bl true) H'
theorem shp_s {x : Str} (h : PyData.canLay0 (.str x) = true) : SeqAt.shaped (.tuple [.str x]) = true := by
  show (PyData.canLay0 (.tuple [.str x]) && decide (PyData.depth (.tuple [.str x]) ≤ 64)) = true
  simp [PyData.canLay0, PyData.canLayAll0] at h ⊢
  exact ⟨h, of_decide_eq_true rfl⟩
theorem shp_back : SeqAt.shaped (.tuple [.str "back"]) = true := shp_s (by decide +kernel)
end Tw
namespace Tw
theorem pow_em (a m : Int) : ∀ k : Nat, (a % m) ^ k % m = a ^ k % m
  | 0 => by rw [Int.pow_zero, Int.pow_zero]
  | k + 1 => by rw [Int.pow_succ, Int.pow_succ, Int.mul_emod, pow_em a m k, Int.emod_emod, ← Int.mul_emod]
end Tw

/-! All numbers in one round: when. -/
namespace Tw
open PySem PySem.Spec PyProof.Rows L2
/-! ### primes -/
def Prm (q : Int) : Prop := 2 ≤ q ∧ ∀ d : Int, 0 < d → d ∣ q → d = 1 ∨ d = q
theorem prm_ex : ∀ (k : Nat) (n : Int), n.toNat ≤ k → 2 ≤ n → ∃ q, Prm q ∧ q ∣ n
  | 0, n, hk, h => by omega
  | k + 1, n, hk, h => by
    by_cases hp : ∀ d : Int, 0 < d → d ∣ n → d = 1 ∨ d = n
    · exact ⟨n, ⟨h, hp⟩, ⟨1, by omega⟩⟩
    · obtain ⟨d, hd⟩ := Classical.not_forall.mp hp
      have d0 : 0 < d := Classical.byContradiction fun z => hd fun y => absurd y z
      have d1 : d ∣ n := Classical.byContradiction fun z => hd fun _ y => absurd y z
      have d2 : ¬ (d = 1 ∨ d = n) := fun z => hd fun _ _ => z
      have d3 := Int.le_of_dvd (by omega) d1
      obtain ⟨q, hq, hqd⟩ := prm_ex k d (by omega) (by omega)
      exact ⟨q, hq, Int.dvd_trans hqd d1⟩
theorem prm_of {n : Int} (h : 2 ≤ n) : ∃ q, Prm q ∧ q ∣ n := prm_ex n.toNat n (Nat.le_refl _) h
theorem prm_cop {q x : Int} (hq : Prm q) (h : ¬ q ∣ x) : Int.gcd q x = 1 := by
  have g1 : ((Int.gcd q x : Nat) : Int) ∣ q := Int.gcd_dvd_left ..
  have g2 : ((Int.gcd q x : Nat) : Int) ∣ x := Int.gcd_dvd_right ..
  have q2 := hq.1
  have g0 : 0 < ((Int.gcd q x : Nat) : Int) := by
    have : Int.gcd q x ≠ 0 := fun z => by
      have := (Int.gcd_eq_zero_iff.mp z).1
      omega
    omega
  rcases hq.2 _ g0 g1 with e | e
  · omega
  · exact absurd (e ▸ g2) h
theorem cop_dvd {a b c : Int} (h : Int.gcd a b = 1) (d : a ∣ b * c) : a ∣ c := by
  refine Int.natAbs_dvd_natAbs.mp ?_
  have h1 := Int.natAbs_dvd_natAbs.mpr d
  rw [Int.natAbs_mul] at h1
  exact Nat.Coprime.dvd_of_dvd_mul_left (show Nat.Coprime a.natAbs b.natAbs from h) h1
theorem prm_mul {q a b : Int} (hq : Prm q) (h : q ∣ a * b) : q ∣ a ∨ q ∣ b := by
  by_cases ha : q ∣ a
  · exact .inl ha
  · exact .inr (cop_dvd (prm_cop hq ha) h)
theorem prm_pow {q a : Int} (hq : Prm q) : ∀ n : Nat, q ∣ a ^ n → q ∣ a
  | 0, h => by
    rw [Int.pow_zero] at h
    have := Int.le_of_dvd (by decide) h
    have := hq.1
    omega
  | n + 1, h => by
    rw [Int.pow_succ] at h
    rcases prm_mul hq h with h | h
    · exact prm_pow hq n h
    · exact h
theorem cop_of_prm {a b : Int} (hb : 0 < b) (h : ∀ q, Prm q → q ∣ a → q ∣ b → False) : Int.gcd a b = 1 := by
  refine Classical.byContradiction fun hn => ?_
  have g2 : ((Int.gcd a b : Nat) : Int) ∣ b := Int.gcd_dvd_right ..
  have g1 : ((Int.gcd a b : Nat) : Int) ∣ a := Int.gcd_dvd_left ..
  have : Int.gcd a b ≠ 0 := fun z => by
    have := (Int.gcd_eq_zero_iff.mp z).2
    omega
  obtain ⟨q, hq, hd⟩ := prm_of (n := ((Int.gcd a b : Nat) : Int)) (by omega)
  exact h q hq (Int.dvd_trans hd g1) (Int.dvd_trans hd g2)
/-- each prime of m divides a -/
def AllP (m a : Int) : Prop := ∀ q, Prm q → q ∣ m → q ∣ a
theorem allP_pow : ∀ (j : Nat) (m a : Int), 0 < m → m < 2 ^ j → AllP m a → m ∣ a ^ j
  | 0, m, a, h0, h1, _ => by rw [Int.pow_zero] at h1; omega
  | j + 1, m, a, h0, h1, h => by
    by_cases m1 : m = 1
    · subst m1
      exact ⟨a ^ (j + 1), by omega⟩
    · obtain ⟨q, hq, c, rfl⟩ := prm_of (n := m) (by omega)
      have q2 := hq.1
      have c0 : 0 < c := by
        rcases Int.lt_or_le 0 c with h | h
        · exact h
        · have := Int.mul_nonpos_of_nonneg_of_nonpos (show 0 ≤ q by omega) h
          omega
      have c1 : 2 * c ≤ q * c := Int.mul_le_mul_of_nonneg_right q2 (by omega)
      rw [Int.pow_succ] at h1
      have ih := allP_pow j c a c0 (by omega) (fun r hr hd => h r hr (Int.dvd_trans hd ⟨q, Int.mul_comm _ _⟩))
      obtain ⟨x, hx⟩ := ih
      obtain ⟨y, hy⟩ := h q hq ⟨c, rfl⟩
      refine ⟨x * y, ?_⟩
      rw [Int.pow_succ, hx]
      conv => lhs; rhs; rw [hy]
      grind
theorem allP_iff {m a : Int} (h0 : 0 < m) (h1 : m < 2 ^ 40) : AllP m a ↔ m ∣ a ^ 40 :=
  ⟨allP_pow 40 m a h0 h1, fun h q hq hd => prm_pow hq 40 (Int.dvd_trans hd h)⟩
/-! ### sums of powers by a number that leaves 1 -/
theorem geo_cong {a t : Int} (h : a ∣ t - 1) : ∀ n : Nat, a ∣ geo t n - n
  | 0 => ⟨0, by rw [Int.mul_zero]; rfl⟩
  | n + 1 => by
    obtain ⟨x, hx⟩ := geo_cong h n
    have hp : a ∣ t ^ n - 1 := by
      have := geo_mul t n
      obtain ⟨y, hy⟩ := h
      exact ⟨y * geo t n, by rw [← this, hy]; grind⟩
    obtain ⟨z, hz⟩ := hp
    refine ⟨x + z, ?_⟩
    show geo t n + t ^ n - ((n + 1 : Nat) : Int) = _
    rw [Int.natCast_succ]
    grind
theorem geo_comp (t : Int) (q : Nat) : ∀ k : Nat, geo t (q * k) = geo t q * geo (t ^ q) k
  | 0 => by rw [Nat.mul_zero]; show (0 : Int) = _ * 0; grind
  | k + 1 => by
    rw [Nat.mul_add, Nat.mul_one, geo_add, geo_comp t q k]
    show _ = geo t q * (geo (t ^ q) k + (t ^ q) ^ k)
    rw [← Int.pow_mul]
    grind
/-- the sum of i below n, twice -/
theorem geo_two (t : Int) : ∀ n : Nat, ∃ c : Int, 2 * geo t n = 2 * n + (t - 1) * (n * (n - 1)) + (t - 1) * (t - 1) * c
  | 0 => ⟨0, by show (2 : Int) * 0 = _; grind⟩
  | n + 1 => by
    obtain ⟨c, hc⟩ := geo_two t n
    have hp : ∃ e : Int, t ^ n = 1 + (t - 1) * n + (t - 1) * (t - 1) * e := by
      have g := geo_mul t n
      obtain ⟨d, hd⟩ := geo_cong (a := t - 1) (t := t) ⟨1, by omega⟩ n
      exact ⟨d, by
        have : geo t n = n + (t - 1) * d := by omega
        rw [this] at g
        grind⟩
    obtain ⟨e, he⟩ := hp
    refine ⟨c + 2 * e, ?_⟩
    show 2 * (geo t n + t ^ n) = _
    rw [Int.natCast_succ]
    generalize geo t n = G at *
    generalize t ^ n = T at *
    grind
/-- a prime's sum of powers: the prime once -/
theorem geo_prm {q t : Int} (hq : Prm q) (h : q ∣ t - 1) (h4 : q = 2 → 4 ∣ t - 1) : ∃ u, geo t q.toNat = q * u ∧ q ∣ u - 1 := by
  have q2 := hq.1
  have cq : ((q.toNat : Nat) : Int) = q := Int.toNat_of_nonneg (by omega)
  by_cases e2 : q = 2
  · obtain ⟨b, hb⟩ := h4 e2
    subst e2
    refine ⟨1 + 2 * b, ?_, ⟨b, by omega⟩⟩
    show 0 + t ^ 0 + t ^ 1 = _
    rw [Int.pow_zero, Int.pow_one]
    omega
  · obtain ⟨c, hc⟩ := geo_two t q.toNat
    rw [cq] at hc
    obtain ⟨x, hx⟩ := geo_cong h q.toNat
    rw [cq] at hx
    obtain ⟨b, hb⟩ := h
    refine ⟨1 + x, by grind, ?_⟩
    rw [hb] at hc
    have hz : q * (2 * x) = q * (q * (b * (q - 1) + b * b * c)) := by grind
    have hz2 : 2 * x = q * (b * (q - 1) + b * b * c) := Int.eq_of_mul_eq_mul_left (by omega) hz
    have n2 : ¬ q ∣ 2 := fun z => by
      have := Int.le_of_dvd (by decide) z
      omega
    have : q ∣ x := by
      rcases prm_mul hq (show q ∣ 2 * x from ⟨_, hz2⟩) with z | z
      · exact absurd z n2
      · exact z
    rw [show 1 + x - 1 = x by omega]
    exact this
theorem prm_prm {q r : Int} (hq : Prm q) (hr : Prm r) (h : r ∣ q) : r = q := by
  have := hr.1
  rcases hq.2 r (by omega) h with e | e
  · omega
  · exact e
theorem hd_dvd : ∀ (k : Nat) (m t : Int), m.toNat ≤ k → 0 < m → AllP m (t - 1) → (4 ∣ m → 4 ∣ t - 1) → ∀ n : Nat, m ∣ geo t n ↔ m ∣ (n : Int)
  | 0, m, t, hk, h0, _, _, n => by omega
  | k + 1, m, t, hk, h0, hA, h4, n => by
    by_cases m1 : m = 1
    · subst m1
      exact ⟨fun _ => ⟨n, by omega⟩, fun _ => ⟨geo t n, by omega⟩⟩
    · obtain ⟨q, hq, c, rfl⟩ := prm_of (n := m) (by omega)
      have q2 := hq.1
      have cq : ((q.toNat : Nat) : Int) = q := Int.toNat_of_nonneg (by omega)
      have c0 : 0 < c := by
        rcases Int.lt_or_le 0 c with h | h
        · exact h
        · have := Int.mul_nonpos_of_nonneg_of_nonpos (show 0 ≤ q by omega) h
          omega
      have c1 : 2 * c ≤ q * c := Int.mul_le_mul_of_nonneg_right q2 (by omega)
      have qa : q ∣ t - 1 := hA q hq ⟨c, rfl⟩
      have q4 : q = 2 → 4 ∣ t - 1 ∨ ¬ (2 ∣ c) := fun e => by
        by_cases hc : (2 : Int) ∣ c
        · obtain ⟨d, rfl⟩ := hc
          exact .inl (h4 (by subst e; exact ⟨d, by omega⟩))
        · exact .inr hc
      -- the case that m is twice an odd number is by itself: 2 once
      have gq : ∃ u, geo t q.toNat = q * u ∧ ∀ r, Prm r → r ∣ c → r ∣ u → False := by
        by_cases e2 : q = 2 ∧ ¬ (2 ∣ c)
        · obtain ⟨rfl, hc⟩ := e2
          obtain ⟨b, hb⟩ := qa
          refine ⟨1 + b, ?_, fun r hr hrc hru => ?_⟩
          · show 0 + t ^ 0 + t ^ 1 = _
            rw [Int.pow_zero, Int.pow_one]
            omega
          · have ra : r ∣ t - 1 := hA r hr (Int.dvd_trans hrc ⟨2, Int.mul_comm _ _⟩)
            obtain ⟨x, hx⟩ := hru
            obtain ⟨y, hy⟩ := ra
            have : r ∣ 2 := ⟨2 * x - y, by grind⟩
            have e := prm_prm hq hr this
            subst e
            exact hc hrc
        · have q4' : q = 2 → 4 ∣ t - 1 := fun e => (q4 e).resolve_right fun z => e2 ⟨e, z⟩
          obtain ⟨u, hu, hu1⟩ := geo_prm hq qa q4'
          refine ⟨u, hu, fun r hr hrc hru => ?_⟩
          have ra : r ∣ t - 1 := hA r hr (Int.dvd_trans hrc ⟨q, Int.mul_comm _ _⟩)
          have hg := geo_cong ra q.toNat
          rw [hu, cq] at hg
          have rq : r ∣ q := by
            obtain ⟨x, hx⟩ := hru
            obtain ⟨y, hy⟩ := hg
            exact ⟨q * x - y, by rw [hx] at hy; grind⟩
          have e := prm_prm hq hr rq
          subst e
          obtain ⟨x, hx⟩ := hru
          obtain ⟨y, hy⟩ := hu1
          have : r ∣ 1 := ⟨x - y, by grind⟩
          have := Int.le_of_dvd (by decide) this
          omega
      obtain ⟨u, hu, hcop⟩ := gq
      have gcu : Int.gcd c u = 1 := by
        rw [Int.gcd_comm]
        exact cop_of_prm c0 fun r hr h1 h2 => hcop r hr h2 h1
      have t1 : t - 1 ∣ t ^ q.toNat - 1 := ⟨geo t q.toNat, (geo_mul t q.toNat).symm⟩
      have ih := hd_dvd k c (t ^ q.toNat) (by omega) c0 (fun r hr hd => Int.dvd_trans (hA r hr (Int.dvd_trans hd ⟨q, Int.mul_comm _ _⟩)) t1) (fun h => Int.dvd_trans (h4 (Int.dvd_trans h ⟨q, Int.mul_comm _ _⟩)) t1)
      constructor
      · intro h
        have hqn : q ∣ (n : Int) := by
          have h1 : q ∣ geo t n := Int.dvd_trans ⟨c, rfl⟩ h
          obtain ⟨x, hx⟩ := h1
          obtain ⟨y, hy⟩ := geo_cong qa n
          exact ⟨x - y, by grind⟩
        obtain ⟨j, hj⟩ := hqn
        have j0 : 0 ≤ j := by
          rcases Int.lt_or_le j 0 with h | h
          · have := Int.mul_neg_of_pos_of_neg (show 0 < q by omega) h
            omega
          · exact h
        obtain ⟨J, rfl⟩ := Int.eq_ofNat_of_zero_le j0
        have en : n = q.toNat * J := by
          have : ((q.toNat * J : Nat) : Int) = n := by rw [Int.natCast_mul, cq, hj]
          omega
        rw [en, geo_comp, hu] at h
        have h2 : c ∣ u * geo (t ^ q.toNat) J := Int.dvd_of_mul_dvd_mul_left (show q ≠ 0 by omega) (by rw [← Int.mul_assoc]; exact h)
        obtain ⟨z, hz⟩ := (ih J).mp (cop_dvd gcu h2)
        exact ⟨z, by rw [hj, hz]; grind⟩
      · rintro ⟨z, hz⟩
        have j0 : 0 ≤ c * z := by
          rcases Int.lt_or_le (c * z) 0 with h | h
          · have := Int.mul_neg_of_pos_of_neg (show 0 < q by omega) h
            rw [← Int.mul_assoc] at this
            omega
          · exact h
        obtain ⟨J, hJ⟩ := Int.eq_ofNat_of_zero_le j0
        have en : n = q.toNat * J := by
          have : ((q.toNat * J : Nat) : Int) = n := by rw [Int.natCast_mul, cq, ← hJ, hz, Int.mul_assoc]
          omega
        rw [en, geo_comp, hu]
        obtain ⟨y, hy⟩ := (ih J).mpr ⟨z, hJ.symm⟩
        exact ⟨u * y, by rw [hy]; grind⟩
/-! ### one round of all numbers -/
def Full (t p m : Int) : Prop := (∀ n : Nat, 0 < n → (n : Int) < m → p * geo t n % m ≠ 0) ∧ p * geo t m.toNat % m = 0
def Cls (t p m : Int) : Prop := Int.gcd p m = 1 ∧ AllP m (t - 1) ∧ (4 ∣ m → 4 ∣ t - 1)
theorem full_of {t p m : Int} (m0 : 0 < m) (h : Cls t p m) : Full t p m := by
  obtain ⟨h1, h2, h3⟩ := h
  have key : ∀ n : Nat, p * geo t n % m = 0 ↔ m ∣ (n : Int) := fun n => by
    rw [← hd_dvd m.toNat m t (Nat.le_refl _) m0 h2 h3 n]
    constructor
    · intro h
      exact cop_dvd (by rw [Int.gcd_comm]; exact h1) (Int.dvd_of_emod_eq_zero h)
    · rintro ⟨x, hx⟩
      exact Int.emod_eq_zero_of_dvd ⟨p * x, by rw [hx]; grind⟩
  constructor
  · intro n n0 n1 h
    have := Int.le_of_dvd (by omega) ((key n).mp h)
    omega
  · exact (key m.toNat).mpr ⟨1, by omega⟩
theorem bez : ∀ (a b : Nat), ∃ x y : Int, (a : Int) * x + (b : Int) * y = (Nat.gcd a b : Nat) := by
  intro a b
  induction a, b using Nat.gcd.induction with
  | H0 n => exact ⟨0, 1, by rw [Nat.gcd_zero_left]; grind⟩
  | H1 m n hm ih =>
    obtain ⟨x, y, h⟩ := ih
    rw [Nat.gcd_rec]
    have e : (n : Int) = (m : Int) * ((n / m : Nat) : Int) + ((n % m : Nat) : Int) := by
      have := Nat.div_add_mod n m
      rw [← Int.natCast_mul, ← Int.natCast_add, this]
    exact ⟨y - ((n / m : Nat) : Int) * x, x, by rw [← h, e]; grind⟩
theorem ahd_add (t p m : Int) (a b : Nat) (x : Int) : ahd t p m (a + b) x = ahd t p m b (ahd t p m a x) := by
  unfold ahd
  have e : (t ^ b * ((t ^ a * x + p * geo t a) % m) + p * geo t b) % m = (t ^ b * (t ^ a * x + p * geo t a) + p * geo t b) % m := by
    rw [Int.add_emod, Int.mul_emod, Int.emod_emod, ← Int.mul_emod, ← Int.add_emod]
  rw [e, Nat.add_comm a b, geo_add, Int.pow_add]
  congr 1
  grind
theorem ahd_zero (t p m : Int) (n : Nat) : ahd t p m n 0 = p * geo t n % m := by
  unfold ahd
  rw [Int.mul_zero, Int.zero_add]
theorem full_surj {t p m : Int} (m0 : 0 < m) (h : Full t p m) {x : Int} (x0 : 0 ≤ x) (x1 : x < m) : ∃ n : Nat, (n : Int) < m ∧ ahd t p m n 0 = x := by
  obtain ⟨h1, h2⟩ := h
  refine Classical.byContradiction fun hn => ?_
  have hno : ∀ n : Nat, (n : Int) < m → ahd t p m n 0 ≠ x := fun n hl e => hn ⟨n, hl, e⟩
  have inj : ∀ i j : Nat, i < j → (j : Int) < m → ahd t p m i 0 ≠ ahd t p m j 0 := by
    intro i j hij hj e
    have a1 := ahd_add t p m j (m.toNat - j) 0
    rw [show j + (m.toNat - j) = m.toNat by omega, ahd_zero t p m m.toNat, h2, ← e, ← ahd_add, ahd_zero] at a1
    exact h1 (i + (m.toNat - j)) (by omega) (by omega) a1.symm
  have nd : (((List.range m.toNat).map fun n => ahd t p m n 0)).Nodup := by
    rw [List.nodup_iff_pairwise_ne, List.pairwise_map]
    refine List.Pairwise.imp_of_mem (fun {a b} ha hb hab => ?_) List.pairwise_lt_range
    exact inj a b hab (by have := List.mem_range.mp hb; omega)
  have rg : Rng m (x :: (List.range m.toNat).map fun n => ahd t p m n 0) := by
    intro y hy
    rcases List.mem_cons.mp hy with rfl | hy
    · exact ⟨x0, x1⟩
    · obtain ⟨n, _, rfl⟩ := List.mem_map.mp hy
      exact ahd_rng m0 n 0
  have nd2 : (x :: (List.range m.toNat).map fun n => ahd t p m n 0).Nodup := by
    refine List.nodup_cons.mpr ⟨fun hm => ?_, nd⟩
    obtain ⟨n, hl, e⟩ := List.mem_map.mp hm
    exact hno n (by have := List.mem_range.mp hl; omega) e
  have := int_len nd2 rg
  rw [List.length_cons, List.length_map, List.length_range] at this
  omega
theorem cls_of {t p m : Int} (m0 : 0 < m) (h : Full t p m) : Cls t p m := by
  have sur := fun {x : Int} => full_surj m0 h (x := x)
  have dv : ∀ n : Nat, m ∣ p * geo t n - ahd t p m n 0 := fun n => by
    rw [ahd_zero]
    exact ⟨p * geo t n / m, by have := Int.mul_ediv_add_emod (p * geo t n) m; omega⟩
  have hp : Int.gcd p m = 1 := cop_of_prm m0 fun q hq h1 h2 => by
    have := hq.1
    have := Int.le_of_dvd m0 h2
    obtain ⟨n, _, e⟩ := sur (x := 1) (by decide) (by omega)
    have d := Int.dvd_trans h2 (dv n)
    rw [e] at d
    obtain ⟨x, hx⟩ := d
    obtain ⟨y, hy⟩ := h1
    have : q ∣ 1 := ⟨y * geo t n - x, by rw [hy] at hx; grind⟩
    have := Int.le_of_dvd (by decide) this
    omega
  have np : ∀ q, Prm q → q ∣ m → ¬ q ∣ p := fun q hq h1 h2 => by
    have : ((1 : Nat) : Int) = 1 := rfl
    have d : q ∣ ((Int.gcd p m : Nat) : Int) := by
      have := Int.dvd_coe_gcd h2 h1
      exact this
    rw [hp] at d
    have := Int.le_of_dvd (by decide) d
    have := hq.1
    omega
  have hA : AllP m (t - 1) := by
    intro q hq hqm
    refine Classical.byContradiction fun hn => ?_
    have q2 := hq.1
    have qm := Int.le_of_dvd m0 hqm
    have g1 := prm_cop hq hn
    obtain ⟨v, u, hb⟩ := bez q.natAbs (t - 1).natAbs
    have hg : Nat.gcd q.natAbs (t - 1).natAbs = 1 := g1
    rw [hg] at hb
    have hb2 : ∃ u v : Int, (t - 1) * u + q * v = 1 := by
      rcases Int.natAbs_eq (t - 1) with e | e
      · refine ⟨u, v, ?_⟩
        have eq : ((q.natAbs : Nat) : Int) = q := by omega
        rw [eq] at hb
        have e' : (((t - 1).natAbs : Nat) : Int) = t - 1 := e.symm
        rw [e'] at hb
        grind
      · refine ⟨-u, v, ?_⟩
        have eq : ((q.natAbs : Nat) : Int) = q := by omega
        rw [eq] at hb
        have e' : (((t - 1).natAbs : Nat) : Int) = -(t - 1) := by omega
        rw [e'] at hb
        grind
    obtain ⟨u, v, huv⟩ := hb2
    have xr := mod_bd (-p * u) (show 0 < q by omega)
    obtain ⟨n, hn, e⟩ := sur (x := -p * u % q) xr.1 (by omega)
    have xd : q ∣ ahd t p m n 0 + p * u := by
      rw [e]
      exact ⟨-(-p * u / q), by have := Int.mul_ediv_add_emod (-p * u) q; grind⟩
    have stay : ∀ j : Nat, q ∣ ahd t p m (n + j) 0 + p * u := by
      intro j
      induction j with
      | zero => exact xd
      | succ j ih =>
        rw [← Nat.add_assoc, ahd_add t p m (n + j) 1]
        obtain ⟨c, hc⟩ := ih
        generalize ahd t p m (n + j) 0 = y at *
        unfold ahd
        have g1 : geo t 1 = 1 := by show (0 : Int) + t ^ 0 = 1; rw [Int.pow_zero]; rfl
        rw [g1, Int.pow_one, Int.mul_one]
        obtain ⟨b, rfl⟩ := hqm
        have a1 := Int.mul_ediv_add_emod (t * y + p) (q * b)
        generalize (t * y + p) / (q * b) = d1 at *
        generalize (t * y + p) % (q * b) = d2 at *
        have e1 : y = q * c - p * u := by omega
        subst e1
        refine ⟨t * c + p * v - b * d1, ?_⟩
        have e2 : (t - 1) * u = 1 - q * v := by omega
        have e3 : d2 + p * u = t * (q * c - p * u) + p + p * u - q * b * d1 := by omega
        rw [e3]
        have e4 : t * (q * c - p * u) + p + p * u - q * b * d1 = t * (q * c) - p * ((t - 1) * u) + p - q * b * d1 := by grind
        rw [e4, e2]
        grind
    have l := stay (m.toNat - n)
    rw [show n + (m.toNat - n) = m.toNat by omega, ahd_zero, h.2, Int.zero_add] at l
    rcases prm_mul hq l with l | l
    · exact np q hq hqm l
    · obtain ⟨c, hc⟩ := l
      have : q ∣ 1 := ⟨(t - 1) * c + v, by rw [hc] at huv; grind⟩
      have := Int.le_of_dvd (by decide) this
      omega
  refine ⟨hp, hA, fun h4 => ?_⟩
  have m4 := Int.le_of_dvd m0 h4
  have p2 : Prm 2 := ⟨by decide, fun d d0 hd => by
    have := Int.le_of_dvd (by decide) hd
    omega⟩
  have m2 : (2 : Int) ∣ m := Int.dvd_trans ⟨2, rfl⟩ h4
  obtain ⟨b, hb⟩ := hA 2 p2 m2
  refine Classical.byContradiction fun hn => ?_
  have t3 : 4 ∣ 1 + t := by omega
  have ev : ∀ k : Nat, 4 ∣ geo t (2 * k) := fun k => by
    rw [geo_comp]
    have : geo t 2 = 1 + t := by show 0 + t ^ 0 + t ^ 1 = _; rw [Int.pow_zero, Int.pow_one]; omega
    rw [this]
    obtain ⟨c, hc⟩ := t3
    exact ⟨c * geo (t ^ 2) k, by rw [hc]; grind⟩
  obtain ⟨n, _, e⟩ := sur (x := 2) (by decide) (by omega)
  have d := Int.dvd_trans h4 (dv n)
  rw [e] at d
  obtain ⟨x, hx⟩ := d
  have hn2 : n = 2 * (n / 2) ∨ n = 1 + 2 * (n / 2) := by omega
  rcases hn2 with e2 | e2
  · obtain ⟨c, hc⟩ := ev (n / 2)
    rw [← e2] at hc
    rw [hc] at hx
    have : (4 : Int) ∣ 2 := ⟨p * c - x, by grind⟩
    have := Int.le_of_dvd (by decide) this
    omega
  · obtain ⟨c, hc⟩ := ev (n / 2)
    have g1 : geo t n = 1 + t * (4 * c) := by
      rw [e2, geo_add, hc]
      show 0 + t ^ 0 + t ^ 1 * (4 * c) = _
      rw [Int.pow_zero, Int.pow_one]
      omega
    rw [g1] at hx
    have : (2 : Int) ∣ p := ⟨1 + 2 * x - p * t * 2 * c, by grind⟩
    exact np 2 p2 m2 this
theorem full_iff {t p m : Int} (m0 : 0 < m) : Full t p m ↔ Cls t p m := ⟨cls_of m0, full_of m0⟩
def pEach : V → V → Hp → VK → XK → Prop := fun a b H Q _ => ∃ m x : Int, a = .int m ∧ b = .int x ∧ 0 < m ∧ m ≤ 1000000000000 ∧ 0 ≤ x ∧ ∀ b : Bool, (b = true ↔ AllP m x) → Q (.bl b) H
def pOneR (K : PySem.W.Frag) : V → Hp → VK → XK → Prop := fun a H Q _ => ∃ (r : Addr) (t p m : Int), a = .ref r ∧ SqT K H r [.int t, .int p, .int m] ∧ Rule t p m ∧ ∀ b : Bool, (b = true ↔ Cls t p m) → Q (.bl b) H
def pGoes (K : PySem.W.Frag) : V → Hp → VK → XK → Prop := fun a H Q _ => ∃ (r : Addr) (t p m : Int), a = .ref r ∧ SqT K H r [.int t, .int p, .int m] ∧ Rule t p m ∧ ∀ b : Bool, (b = true ↔ Full t p m) → Q (.bl b) H
theorem allP_mod {m x : Int} : AllP m (x % m) ↔ AllP m x := by
  constructor
  · intro h q hq hd
    obtain ⟨c, hc⟩ := h q hq hd
    obtain ⟨d, hd⟩ := hd
    have := Int.mul_ediv_add_emod x m
    exact ⟨d * (x / m) + c, by generalize x / m = y at *; generalize x % m = z at *; subst hd; grind⟩
  · intro h q hq hd
    obtain ⟨c, hc⟩ := h q hq hd
    obtain ⟨d, hd⟩ := hd
    have := Int.mul_ediv_add_emod x m
    exact ⟨c - d * (x / m), by generalize x / m = y at *; generalize x % m = z at *; subst hd; grind⟩
theorem iff_eq {a b : Bool} {P : Prop} (h : a = true ↔ P) (k : b = true ↔ P) : a = b := by
  cases a with
  | true => exact (k.mpr (h.mp rfl)).symm
  | false =>
    cases b with
    | false => rfl
    | true => exact absurd (h.mpr (k.mp rfl)) Bool.false_ne_true
end Tw


namespace Tw
open PySem PySem.Spec PyProof.Rows L2
def topS (i : Nat) : Stmt := PySem.Challenge.pw_timesrow_k09_all_in_one_round.main.body.getD i (.Pass ⟨0, 0, 0, 0⟩)
abbrev s_mix : Stmt := topS 6
theorem sc_mix : FnScope ["cell", "k", "number"] ["cell", "k"] (defScope s_mix) := ⟨rfl, rfl, rfl, by decide +kernel, rfl, by decide +kernel, by decide +kernel⟩
abbrev s_deck : Stmt := topS 7
theorem sc_deck : FnScope ["script"] ["script"] (defScope s_deck) := ⟨rfl, rfl, rfl, by decide +kernel, rfl, by decide +kernel, by decide +kernel⟩
abbrev s_next : Stmt := topS 8
theorem sc_next : FnScope ["deck", "many", "cell", "found"] ["deck", "many"] (defScope s_next) := ⟨rfl, rfl, rfl, by decide +kernel, rfl, by decide +kernel, by decide +kernel⟩
abbrev s_great : Stmt := topS 9
theorem sc_great : FnScope ["deck", "most"] ["deck", "most"] (defScope s_great) := ⟨rfl, rfl, rfl, by decide +kernel, rfl, by decide +kernel, by decide +kernel⟩
section
variable {P : Program} {w : World} {K : PySem.W.Frag} {mg : Str → Option Value} {base : Heap}
theorem ok_mix (D : Top K mg "_law_mix" s_mix ["cell", "k"]) : Has P w K mg base CX0 1 "_law_mix" ["cell", "k"] (sp2 pMix) := by
  refine D.ok2 sc_mix (fun f cdv A outer s H v1 v2 Q E hr h => ?_)
  obtain ⟨c, k, rfl, rfl, k0, k1, q⟩ := h
  refine ⟨_, (pss_cons (ps_set (i := 2) sc_mix.nd rfl (.inl rfl) (pe_op op_add (pe_op op_mod (pv 0) pe_int) (pe_op op_mulB (pe_op op_mulB pe_int (pv 1)) (pv 1))))
 (pss_cons (ps_set (i := 2) sc_mix.nd rfl (.inl rfl) (pe_op op_mod (pe_op op_add (pv 2) (pe_op op_mulB pe_int (pv 1))) pe_int))
 (pss_cons (ps_set (i := 2) sc_mix.nd rfl (.inl rfl) (pe_op op_mod (pe_op op_mulB (pv 2) (pv 2)) pe_int))
 (pss_one (ps_ret (pe_op op_fdivB (pe_op op_mod (pe_op op_mulB (pv 2) (pe_op op_add (pv 2) pe_int)) pe_int) pe_int)))))), ?_⟩
  have b1 := mod_bd c (b := 2147483629) (by decide)
  have m1 := mul_bd k0 (show k ≤ 1000000000 by omega) k0 (show k ≤ 1000000000 by omega)
  refine ⟨_, rfl, _, _, rfl, rfl, by show (0:Int) < _; decide, _, rfl, _, _, rfl, rfl, ⟨by unfold Big; omega, by unfold Big; omega⟩, _, rfl, _, _, rfl, rfl, ⟨by unfold Big; omega, by unfold Big; omega⟩, _, _, rfl, rfl, ?_⟩
  refine ⟨_, rfl, _, rfl, _, _, rfl, rfl, ⟨by unfold Big; omega, by unfold Big; omega⟩, _, _, rfl, rfl, _, _, rfl, rfl, by show (0:Int) < _; decide, ?_⟩
  generalize c % 2147483629 + 1000003 * k * k + 7919 * k = z1
  have b2 := mod_bd z1 (b := 2147483629) (by decide)
  refine ⟨_, rfl, _, rfl, _, _, rfl, rfl, ⟨by unfold Big; omega, by unfold Big; omega⟩, _, _, rfl, rfl, by show (0:Int) < _; decide, ?_⟩
  generalize z1 % 2147483629 * (z1 % 2147483629) = z2
  have b3 := mod_bd z2 (b := 2147483587) (by decide)
  refine ⟨_, rfl, _, rfl, _, _, rfl, rfl, _, _, rfl, rfl, ⟨by unfold Big; omega, by unfold Big; omega⟩, _, _, rfl, rfl, by show (0:Int) < _; decide, _, _, rfl, rfl, ⟨by decide, by decide⟩, ?_⟩
  generalize z2 % 2147483587 * (z2 % 2147483587 + 40961) = z3
  have b4 := mod_bd z3 (b := 2147483563) (by decide)
  exact q _ (by omega)
theorem ok_deck (D : Top K mg "_law_deck" s_deck ["script"]) (z_sum : mg "sum" = none) : Has P w K mg base CX0 1 "_law_deck" ["script"] (sp1 (pDeck K)) := by
  refine D.ok1 sc_deck (fun f cdv A outer s H v1 Q E hr h => ?_)
  obtain ⟨sa, xs, rfl, hS, q⟩ := h
  refine ⟨_, (pss_one (ps_ret (pe_lst (pa_cons (pe_slice sl_list (pv 0) po_none (po_some pe_int)) (pa_cons pe_int (pa_cons pe_int (pa_cons pe_int (pa_cons (pe_callB (id := "sum") (cr_sum rfl) (by rfl) z_sum (by decide +kernel) (pa_cons (pe_slice sl_list (pv 0) po_none (po_some pe_int)) pa_nil)) pa_nil)))))))), ?_⟩
  have ec : cutV (xs.map V.int) none (some 63) = (xs.take 63).map V.int := by
    rw [List.map_take]
    exact cut_take _ 63
  refine ⟨_, rfl, _, rfl, sa, _, rfl, hS, fun c nc => ?_⟩
  have s1 := same_new (o := .lst (cutV (xs.map V.int) none (some 63))) nc
  refine ⟨_, rfl, _, rfl, sa, _, rfl, s1.seq hS, fun c2 nc2 => ?_⟩
  have s2 := same_new (o := .lst (cutV (xs.map V.int) none (some 63))) nc2
  refine ⟨c2, xs.take 63, rfl, ?_, ?_⟩
  · rw [ec]
    exact SqL.of upd_same
  · refine ⟨by show 5 ≤ sizeLine; decide, fun d nd => ?_⟩
    have s3 := same_new (o := .lst [.ref c, .int 0, .int 0, .int 0, .int (xs.take 63).sum]) nd
    have hc : (upd (upd H c (.lst (cutV (xs.map V.int) none (some 63)))) c2 (.lst (cutV (xs.map V.int) none (some 63)))) c = some (.lst ((xs.take 63).map V.int)) := by
      rw [← ec]
      exact s2 _ _ upd_same
    refine q _ d (s1.trans (s2.trans s3)) (s1.free (s2.free nd)) ⟨c, xs.take 63, 0, 0, 0, (xs.take 63).sum, upd_same, s3 _ _ hc, ne_of_none hc nd, ?_, by omega, by omega, by omega, by omega, by omega⟩
    rw [List.length_take]
    omega
theorem ok_next (D : Top K mg "_law_next" s_next ["deck", "many"]) (h_mix : Has P w K mg base CX0 1 "_law_mix" ["cell", "k"] (sp2 pMix)) (z_len : mg "len" = none) : Has P w K mg base CX0 2 "_law_next" ["deck", "many"] (sp2 (pNext 1)) := by
  refine D.ok2 sc_next (fun f cdv A outer s H v1 v2 Q E hr h => ?_)
  obtain ⟨d, n, m, rfl, rfl, m0, m1, hD, hn, q⟩ := h
  refine ⟨_, (C8.pss_cut (ps_if (PW.pt (pw_and (pt_cmpR op_eq (pe_ix ix_list (pv 0) pe_int (fun _ _ => rfl)) pe_int (nomark _)) (pw_and1 (pt_cmpR op_lt (pe_ix ix_list (pv 0) pe_int (fun _ _ => rfl)) (pe_callB (id := "len") call_len_seq (by rfl) z_len (by decide +kernel) (pa_cons (pe_ix ix_list (pv 0) pe_int (fun _ _ => rfl)) pa_nil)) (nomark _))))) (pss_cons (ps_set (i := 2) sc_next.nd rfl (.inl rfl) (pe_ix ix_list (pe_ix ix_list (pv 0) pe_int (fun _ _ => rfl)) (pe_ix ix_list (pv 0) pe_int (fun _ _ => rfl)) (fun _ _ => rfl)))
 (pss_cons (ps_asg (pe_op op_add (pe_ix ix_list (pv 0) pe_int (fun _ _ => rfl)) pe_int) (pg_sub (pv 0) pe_int set_list))
 (pss_cons (ps_if (pt_cmpR op_lt (pv 2) (pe_op op_pow pe_int pe_int) (nomark _)) (pss_one (ps_ret (pe_op op_mod (pe_own h_mix (hr.mono (by decide)) pass0 (pa_cons (pv 2) (pa_cons (pe_ix ix_list (pv 0) pe_int (fun _ _ => rfl)) pa_nil))) (pv 1)))) pss_nil)
 (pss_one (ps_asg (pv 2) (pg_sub (pv 0) pe_int set_list)))))) pss_nil)
 (pss_cons (ps_if (pt_cmpR op_gt (pe_ix ix_list (pv 0) pe_int (fun _ _ => rfl)) pe_int (nomark _)) (pss_cons (ps_set (i := 3) sc_next.nd rfl (.inl rfl) (pe_op op_mod (pe_ix ix_list (pv 0) pe_int (fun _ _ => rfl)) (pv 1)))
 (pss_cons (ps_asg (pe_op op_fdivB (pe_ix ix_list (pv 0) pe_int (fun _ _ => rfl)) (pv 1)) (pg_sub (pv 0) pe_int set_list))
 (pss_one (ps_ret (pv 3))))) pss_nil)
 (pss_cons (ps_asg (pe_op op_add (pe_ix ix_list (pv 0) pe_int (fun _ _ => rfl)) pe_int) (pg_sub (pv 0) pe_int set_list))
 (pss_one (ps_ret (pe_op op_mod (pe_own h_mix (hr.mono (by decide)) pass0 (pa_cons (pe_ix ix_list (pv 0) pe_int (fun _ _ => rfl)) (pa_cons (pe_op op_add (pe_ix ix_list (pv 0) pe_int (fun _ _ => rfl)) pe_int) pa_nil))) (pv 1))))))), ?_⟩
  obtain ⟨c, xs, i, r, k, t, hd, hc, ncd, hx, i0, i1, r0, k0, k1⟩ := hD
  -- what follows the first if: the deck with its own i and r
  refine ⟨fun σ' H' => ∃ (y : Option V) (i' r' : Int), σ' = [some (.ref d), some (.int m), y, none] ∧ H' = upd H d (.lst [.ref c, .int i', .int r', .int k, .int t]) ∧ 0 ≤ i' ∧ i' ≤ (xs.length : Int) ∧ 0 ≤ r', ?_, ?_⟩
  · have self : upd H d (.lst [.ref c, .int i, .int r, .int k, .int t]) = H := by
      funext b
      by_cases e : b = d
      · rw [e, upd_same, hd]
      · rw [upd_ne e]
    refine ⟨_, rfl, d, _, 2, .int r, rfl, rfl, SqL.of hd, rfl, rfl, _, rfl, ifI (fun er => ?_) (fun er => ?_)⟩
    · refine ⟨_, rfl, d, _, 1, .int i, rfl, rfl, SqL.of hd, rfl, _, rfl, d, _, 0, .ref c, rfl, rfl, SqL.of hd, rfl, c, _, rfl, .inl (SqL.of hc), _, _, rfl, rfl, _, rfl, ifD (fun il => ?_) (fun il => ?_)⟩
      · rw [List.length_map] at il
        obtain ⟨j, rfl⟩ := Int.eq_ofNat_of_zero_le i0
        have jl : j < xs.length := by omega
        have ej : (xs.map V.int)[j]? = some (.int xs[j]) := by rw [List.getElem?_map, List.getElem?_eq_getElem jl]; rfl
        refine ⟨_, rfl, d, _, 0, .ref c, rfl, rfl, SqL.of hd, rfl, _, rfl, d, _, 1, .int (j : Int), rfl, rfl, SqL.of hd, rfl, c, _, _, _, rfl, rfl, SqL.of hc, atI_nat ej, ?_⟩
        refine ⟨_, rfl, d, _, 1, .int (j : Int), rfl, rfl, SqL.of hd, rfl, _, _, rfl, rfl, _, rfl, d, _, 1, 1, rfl, rfl, hd, rfl, ?_⟩
        refine ⟨_, rfl, _, _, rfl, rfl, ⟨by decide, by decide, by decide⟩, _, _, rfl, rfl, _, rfl, ifD (fun cl => ?_) (fun cl => ?_)⟩
        · refine ⟨_, rfl, _, rfl, d, _, 1, .int ((j : Int) + 1), rfl, rfl, SqL.of upd_same, rfl, _, _, rfl, _, _, rfl, rfl, by omega, by omega, fun v v0 => ?_⟩
          refine ⟨_, rfl, _, _, rfl, rfl, m0, ?_⟩
          have bv := mod_bd v m0
          refine q _ _ (but_mut (But.refl d H) (fun c' hc => by obtain ⟨_, ec⟩ := hc; rw [hd] at ec; cases ec; exact ⟨_, rfl⟩)) ⟨c, xs, (j : Int) + 1, r, k, t, upd_same, ?_, ncd, hx, by omega, by omega, r0, k0, by omega⟩ bv.1 bv.2
          rw [upd_ne ncd]
          exact hc
        · refine ⟨_, rfl, _, rfl, d, _, 2, 2, rfl, rfl, upd_same, rfl, some (.int xs[j]), (j : Int) + 1, xs[j], rfl, ?_, by omega, by omega, ?_⟩
          · rw [upd_upd]
            rfl
          · have z : (10 : Int) ^ (18 : Int).toNat = 1000000000000000000 := by decide
            rw [z] at cl
            omega
      · exact ⟨none, i, r, rfl, self.symm, i0, i1, r0⟩
    · exact ⟨none, i, r, rfl, self.symm, i0, i1, r0⟩
  · rintro σ' H' ⟨y, i', r', rfl, rfl, i0', i1', r0'⟩
    refine ⟨_, rfl, d, _, 2, .int r', rfl, rfl, SqL.of upd_same, rfl, _, _, rfl, rfl, _, rfl, ifD (fun rp => ?_) (fun rp => ?_)⟩
    · refine ⟨_, rfl, d, _, 2, .int r', rfl, rfl, SqL.of upd_same, rfl, _, rfl, _, _, rfl, rfl, m0, ?_⟩
      refine ⟨_, rfl, d, _, 2, .int r', rfl, rfl, SqL.of upd_same, rfl, _, rfl, _, _, rfl, rfl, ⟨m0, m1⟩, _, rfl, d, _, 2, 2, rfl, rfl, upd_same, rfl, ?_⟩
      have bv := mod_bd r' m0
      refine ⟨_, rfl, q _ _ (but_mut (but_mut (But.refl d H) (fun c' hc => by obtain ⟨_, ec⟩ := hc; rw [hd] at ec; cases ec; exact ⟨_, rfl⟩)) (fun c' hc => by obtain ⟨_, ec⟩ := hc; rw [upd_same] at ec; cases ec; exact ⟨_, rfl⟩)) ⟨c, xs, i', r' / m, k, t, upd_same, ?_, ncd, hx, i0', i1', Int.ediv_nonneg r0' (by omega), k0, by omega⟩ bv.1 bv.2⟩
      rw [upd_ne ncd, upd_ne ncd]
      exact hc
    · refine ⟨_, rfl, d, _, 3, .int k, rfl, rfl, SqL.of upd_same, rfl, _, _, rfl, rfl, _, rfl, d, _, 3, 3, rfl, rfl, upd_same, rfl, ?_⟩
      refine ⟨_, rfl, d, _, 4, .int t, rfl, rfl, SqL.of upd_same, rfl, _, rfl, d, _, 3, .int (k + 1), rfl, rfl, SqL.of upd_same, rfl, _, _, rfl, rfl, _, _, rfl, _, _, rfl, rfl, by omega, by omega, fun v v0 => ?_⟩
      refine ⟨_, rfl, _, _, rfl, rfl, m0, ?_⟩
      have bv := mod_bd v m0
      refine q _ _ (but_mut (but_mut (But.refl d H) (fun c' hc => by obtain ⟨_, ec⟩ := hc; rw [hd] at ec; cases ec; exact ⟨_, rfl⟩)) (fun c' hc => by obtain ⟨_, ec⟩ := hc; rw [upd_same] at ec; cases ec; exact ⟨_, rfl⟩)) ⟨c, xs, i', r', k + 1, t, upd_same, ?_, ncd, hx, i0', i1', r0', by omega, by omega⟩ bv.1 bv.2
      rw [upd_ne ncd, upd_ne ncd]
      exact hc
theorem ok_great (D : Top K mg "_law_great" s_great ["deck", "most"]) (h_next : Has P w K mg base CX0 2 "_law_next" ["deck", "many"] (sp2 (pNext 1))) : Has P w K mg base CX0 3 "_law_great" ["deck", "most"] (sp2 (pNext 2)) := by
  refine D.ok2 sc_great (fun f cdv A outer s H v1 v2 Q E hr h => ?_)
  obtain ⟨d, n, m, rfl, rfl, m0, m1, hD, hn, q⟩ := h
  refine ⟨_, (pss_one (ps_ret (pe_op op_mod (pe_op op_add (pe_op op_mulB (pe_own h_next (hr.mono (by decide)) pass0 (pa_cons (pv 0) (pa_cons (pe_op op_pow pe_int pe_int) pa_nil))) (pe_op op_pow pe_int pe_int)) (pe_own h_next (hr.mono (by decide)) pass0 (pa_cons (pv 0) (pa_cons (pe_op op_pow pe_int pe_int) pa_nil)))) (pv 1)))), ?_⟩
  have z : (10 : Int) ^ (6 : Int).toNat = 1000000 := by decide
  refine ⟨_, rfl, _, _, rfl, rfl, ⟨by decide, by decide, by decide⟩, _, _, rfl, d, n, _, rfl, rfl, by decide, by decide, hD, by omega, fun H1 v B1 D1 v0 v1 => ?_⟩
  rw [z] at v1
  refine ⟨_, _, rfl, rfl, ⟨by decide, by decide, by decide⟩, _, _, rfl, rfl, ⟨by unfold Big; omega, show Big 1000000 from ⟨by decide, by decide⟩⟩, ?_⟩
  refine ⟨_, rfl, _, _, rfl, rfl, ⟨by decide, by decide, by decide⟩, _, _, rfl, d, n + 1, _, rfl, rfl, by decide, by decide, D1, by omega, fun H2 u B2 D2 u0 u1 => ?_⟩
  refine ⟨_, _, rfl, rfl, _, rfl, _, _, rfl, rfl, m0, ?_⟩
  have bv := mod_bd (v * 10 ^ (6 : Int).toNat + u) m0
  exact q _ _ (B1.trans B2) D2 bv.1 bv.2
end
end Tw


namespace Tw
open PySem PySem.Spec PyProof.Rows L2
abbrev s_bound : Stmt := topS 10
theorem sc_bound : FnScope ["deck", "most", "way", "found", "k", "prime", "some"] ["deck", "most"] (defScope s_bound) := ⟨rfl, rfl, rfl, by decide +kernel, rfl, by decide +kernel, by decide +kernel⟩
section
variable {P : Program} {w : World} {K : PySem.W.Frag} {mg : Str → Option Value} {base : Heap}
theorem ok_bound (D : Top K mg "_law_bound" s_bound ["deck", "most"]) (h_next : Has P w K mg base CX0 2 "_law_next" ["deck", "many"] (sp2 (pNext 1))) (h_great : Has P w K mg base CX0 3 "_law_great" ["deck", "most"] (sp2 (pNext 2))) (z_len : mg "len" = none) (z_range : mg "range" = none) :
    Has P w K mg base CX0 4 "_law_bound" ["deck", "most"] (sp2 pBound) := by
  refine D.ok2 sc_bound (fun f cdv A outer s H v1 v2 Q E hr h => ?_)
  obtain ⟨d, n, m, rfl, rfl, m0, m1, hD, hn, q⟩ := h
  refine ⟨_, (pss_cons (ps_set (i := 2) sc_bound.nd rfl (.inl rfl) (pe_own h_next (hr.mono (by decide)) pass0 (pa_cons (pv 0) (pa_cons pe_int pa_nil))))
 (pss_cons (ps_if (pt_cmpR op_eq (pv 2) pe_int (nomark _)) (pss_one (ps_ret (pe_op op_add pe_int (pe_own h_next (hr.mono (by decide)) pass0 (pa_cons (pv 0) (pa_cons pe_int pa_nil)))))) pss_nil)
 (pss_cons (ps_if (pt_cmpR op_eq (pv 2) pe_int (nomark _)) (pss_one (ps_ret (pe_op op_add pe_int (pe_own h_great (hr.mono (by decide)) pass0 (pa_cons (pv 0) (pa_cons (pv 1) pa_nil)))))) pss_nil)
 (pss_cons (ps_if (pt_cmpR op_eq (pv 2) pe_int (nomark _)) (pss_cons (ps_set (i := 3) sc_bound.nd rfl (.inl rfl) pe_int)
 (pss_cons (ps_for PassesOwn.never rfl (pi_range1 (by rfl) z_range (pa_cons pe_int pa_nil)) (pg_name (i := 4) sc_bound.nd rfl (.inl rfl)) (pss_cons (ps_set (i := 5) sc_bound.nd rfl (.inl rfl) (pe_ix ix_list (pe_lst (pa_cons pe_int (pa_cons pe_int (pa_cons pe_int (pa_cons pe_int (pa_cons pe_int (pa_cons pe_int (pa_cons pe_int (pa_cons pe_int pa_nil))))))))) (pe_own h_next (hr.mono (by decide)) pass0 (pa_cons (pv 0) (pa_cons pe_int pa_nil))) (fun _ _ => rfl)))
 (pss_one (ps_if (pt_cmpR op_le (pe_op op_mulB (pv 3) (pv 5)) (pv 1) (nomark _)) (pss_one (ps_set (i := 3) sc_bound.nd rfl (.inl rfl) (pe_op op_mulB (pv 3) (pv 5)))) pss_nil))))
 (pss_one (ps_ret (pv 3))))) pss_nil)
 (pss_cons (ps_if (pt_cmpR op_eq (pv 2) pe_int (nomark _)) (pss_cons (ps_setLc (i := 6) (own := [("prime", 5)]) (by rfl) sc_bound.nd rfl rfl (sw_true rfl rfl rfl (by decide +kernel)) (pi_list (pe_lst (pa_cons pe_int (pa_cons pe_int (pa_cons pe_int (pa_cons pe_int (pa_cons pe_int (pa_cons pe_int (pa_cons pe_int (pa_cons pe_int pa_nil)))))))))) (blkOk_by (own := [("prime", 5)]) (N := ["deck", "most", "way", "found", "k", "prime", "some"]) (sc := defScope s_bound) (by decide +kernel)) (fun _ _ _ _ _ => pg_name (i := 5) sc_bound.nd rfl (Or.inl rfl)) (fun _ _ _ _ _ => pts_one (pt_cmpR op_le (pv 5) (pv 1) (nomark _))) (fun _ _ _ _ _ => (pv 5)))
 (pss_one (ps_ret (pe_ix ix_list (pv 6) (pe_own h_next (hr.mono (by decide)) pass0 (pa_cons (pv 0) (pa_cons (pe_callB (id := "len") call_len_seq (by rfl) z_len (by decide +kernel) (pa_cons (pv 6) pa_nil)) pa_nil))) (fun _ _ => rfl))))) pss_nil)
 (pss_cons (ps_if (pt_cmpR op_eq (pv 2) pe_int (nomark _)) (pss_one (ps_ret (pe_op op_sub (pv 1) (pe_own h_next (hr.mono (by decide)) pass0 (pa_cons (pv 0) (pa_cons pe_int pa_nil)))))) pss_nil)
 (pss_cons (ps_set (i := 3) sc_bound.nd rfl (.inl rfl) pe_int)
 (pss_cons (ps_set (i := 5) sc_bound.nd rfl (.inl rfl) (pe_ix ix_list (pe_lst (pa_cons pe_int (pa_cons pe_int (pa_cons pe_int (pa_cons pe_int pa_nil))))) (pe_own h_next (hr.mono (by decide)) pass0 (pa_cons (pv 0) (pa_cons pe_int pa_nil))) (fun _ _ => rfl)))
 (pss_cons (ps_for PassesOwn.never rfl (pi_range1 (by rfl) z_range (pa_cons (pe_op op_add pe_int (pe_own h_next (hr.mono (by decide)) pass0 (pa_cons (pv 0) (pa_cons pe_int pa_nil)))) pa_nil)) (pg_name (i := 4) sc_bound.nd rfl (.inl rfl)) (pss_one (ps_if (pt_cmpR op_le (pe_op op_mulB (pv 3) (pv 5)) (pv 1) (nomark _)) (pss_one (ps_set (i := 3) sc_bound.nd rfl (.inl rfl) (pe_op op_mulB (pv 3) (pv 5)))) pss_nil)))
 (pss_one (ps_ret (pv 3)))))))))))), ?_⟩
  refine ⟨_, rfl, _, _, rfl, d, n, 6, rfl, rfl, by decide, by decide, hD, by omega, fun H1 way B1 D1 w0 w1 => ?_⟩
  refine ⟨_, rfl, rfl, _, rfl, ifI (fun e => ?_) (fun e0 => ?_)⟩
  · refine ⟨_, rfl, _, _, rfl, d, n + 1, 12, rfl, rfl, by decide, by decide, D1, by omega, fun H2 v B2 D2 u0 u1 => ?_⟩
    exact ⟨_, _, rfl, rfl, q _ _ (B1.trans B2) (D2.mono (by omega)) (by omega) (by omega)⟩
  refine ⟨_, rfl, rfl, _, rfl, ifI (fun e => ?_) (fun e1 => ?_)⟩
  · refine ⟨_, rfl, _, rfl, _, _, rfl, d, n + 1, m, rfl, rfl, by omega, by omega, D1, by omega, fun H2 v B2 D2 u0 u1 => ?_⟩
    exact ⟨_, _, rfl, rfl, q _ _ (B1.trans B2) (D2.mono (by omega)) (by omega) (by omega)⟩
  refine ⟨_, rfl, rfl, _, rfl, ifI (fun e => ?_) (fun e2 => ?_)⟩
  · -- found = 1; for k in range(24)
    refine ⟨24, rfl, by decide, by decide, for_range (lo := 0) (n := 24) (fun i σ H' => ∃ (yk yp : Option V) (g : Int), σ = [some (.ref d), some (.int m), some (.int way), some (.int g), yk, yp, none] ∧ But d H H' ∧ Deck H' d (n + 1 + i) ∧ 1 ≤ g ∧ g ≤ m) ⟨none, none, 1, rfl, B1, D1, by omega, by omega⟩ ?_ ?_⟩
    · rintro i σ H' hi ⟨yk, yp, g, rfl, B2, D2, g0, g1⟩
      refine ⟨by show 8 ≤ sizeLine; decide, fun l nl => ?_⟩
      have s1 := same_new (o := .lst [.int 2, .int 2, .int 3, .int 3, .int 5, .int 7, .int 11, .int 13]) nl
      refine ⟨_, rfl, _, _, rfl, d, n + 1 + i, 8, rfl, rfl, by decide, by decide, D2.same s1, by omega, fun H3 v B3 D3 u0 u1 => ?_⟩
      obtain ⟨x, hx, ex⟩ := at_ints (ns := [2, 2, 3, 3, 5, 7, 11, 13]) u0 (by show v < 8; exact u1)
      have bx : 2 ≤ x ∧ x ≤ 13 := (by decide : ∀ x ∈ ([2, 2, 3, 3, 5, 7, 11, 13] : List Int), 2 ≤ x ∧ x ≤ 13) x hx
      have hl3 : H3 l = some (.lst [.int 2, .int 2, .int 3, .int 3, .int 5, .int 7, .int 11, .int 13]) := B3 _ _ (D2.ne nl) upd_same
      have B4 : But d H H3 := (B2.trans s1.but).trans B3
      have mb := mul_bd (show 0 ≤ g by omega) g1 (show 0 ≤ x by omega) bx.2
      refine ⟨l, _, v, _, rfl, rfl, SqL.of hl3, ex, ?_⟩
      refine ⟨_, rfl, _, rfl, _, _, rfl, rfl, ⟨by unfold Big; omega, by unfold Big; omega⟩, _, rfl, _, _, rfl, rfl, _, rfl, ifD (fun le => ?_) (fun le => ?_)⟩
      · refine ⟨_, rfl, _, rfl, _, _, rfl, rfl, ⟨by unfold Big; omega, by unfold Big; omega⟩, some (.int (0 + i)), some (.int x), g * x, rfl, B4, D3.mono (by omega), ?_, le⟩
        have := mul_bd (show (0:Int) ≤ 1 by decide) g0 (show (0:Int) ≤ 1 by decide) (show 1 ≤ x by omega)
        omega
      · exact ⟨some (.int (0 + i)), some (.int x), g, rfl, B4, D3.mono (by omega), g0, g1⟩
    · rintro σ H' ⟨yk, yp, g, rfl, B2, D2, g0, g1⟩
      exact ⟨_, rfl, q _ _ B2 (D2.mono (by omega)) g0 g1⟩
  refine ⟨_, rfl, rfl, _, rfl, ifI (fun e => ?_) (fun e3 => ?_)⟩
  · -- some = [prime for prime in [..] if prime <= most]
    refine ⟨by show 8 ≤ sizeLine; decide, fun l nl => ?_⟩
    have s1 := same_new (o := .lst [.int 2, .int 3, .int 7, .int 97, .int 1999, .int 10007, .int 999983, .int 999999999989]) nl
    refine ⟨l, rfl, ⟨_, SqL.of upd_same⟩, fun L nL => ?_⟩
    have nlL : l ≠ L := ne_of_none (upd_same (H := H1)) nL
    refine lc_list (K := K) (a := l) (xs := ([2, 3, 7, 97, 1999, 10007, 999983, 999999999989] : List Int).map V.int)
      (fun i H' => ∃ acc : List Int, H' = upd (upd H1 l (.lst [.int 2, .int 3, .int 7, .int 97, .int 1999, .int 10007, .int 999983, .int 999999999989])) L (.lst (acc.map V.int)) ∧ acc.length ≤ i ∧ (∀ x ∈ acc, 2 ≤ x ∧ x ≤ m) ∧ (0 < i → 0 < acc.length)) ⟨[], rfl, Nat.le_refl _, by simp, by omega⟩ ?_ ?_ ?_
    · rintro i H' _ ⟨acc, rfl, _⟩
      refine SqL.of ?_
      rw [upd_ne nlL, upd_same]
      rfl
    · rintro i x H' hi ⟨acc, rfl, al, ab, ap⟩
      obtain ⟨z, hz, rfl⟩ : ∃ z, ([2, 3, 7, 97, 1999, 10007, 999983, 999999999989] : List Int)[i]? = some z ∧ x = V.int z := by
        rw [List.getElem?_map] at hi
        cases ez : ([2, 3, 7, 97, 1999, 10007, 999983, 999999999989] : List Int)[i]? with
        | none => rw [ez] at hi; cases hi
        | some z => rw [ez] at hi; exact ⟨z, rfl, (Option.some.inj hi).symm⟩
      have i8 : i < 8 := (List.getElem?_eq_some_iff.mp hz).1
      have z2 : 2 ≤ z := (by decide : ∀ x ∈ ([2, 3, 7, 97, 1999, 10007, 999983, 999999999989] : List Int), 2 ≤ x) z (List.mem_of_getElem? hz)
      refine ⟨rfl, _, rfl, _, rfl, _, _, rfl, rfl, _, rfl, ifD (fun le => ?_) (fun le => ?_)⟩
      · refine ⟨_, rfl, _, upd_same, ?_, acc ++ [z], ?_, ?_, fun y hy => ?_, fun _ => ?_⟩
        · rw [List.length_map]
          exact szl (by omega)
        · rw [upd_upd, List.map_append]
          rfl
        · rw [List.length_append]
          show acc.length + 1 ≤ i + 1
          omega
        · rcases List.mem_append.mp hy with hy | hy
          · exact ab y hy
          · rw [List.mem_singleton.mp hy]
            exact ⟨z2, le⟩
        · rw [List.length_append]
          show 0 < acc.length + 1
          omega
      · refine ⟨acc, rfl, by omega, ab, fun _ => ?_⟩
        by_cases i0 : 0 < i
        · exact ap i0
        · have : i = 0 := by omega
          subst this
          have ez : (2 : Int) = z := Option.some.inj hz
          omega
    · rintro H' ⟨acc, rfl, al, ab, ap⟩
      have al8 : acc.length ≤ 8 := al
      have ap' : 0 < acc.length := ap (by decide)
      have s2 := same_new (o := .lst (acc.map V.int)) nL
      refine ⟨_, rfl, _, rfl, _, rfl, L, _, rfl, .inl (SqL.of upd_same), _, _, rfl, d, n + 1, _, rfl, rfl, ?_, ?_, (D1.same s1).same s2, by omega, fun H3 v B3 D3 u0 u1 => ?_⟩
      · rw [List.length_map]
        omega
      · rw [List.length_map]
        omega
      · rw [List.length_map] at u1
        obtain ⟨x, hx, ex⟩ := at_ints (ns := acc) u0 u1
        have hl3 : H3 L = some (.lst (acc.map V.int)) := B3 _ _ ((D1.same s1).ne nL) upd_same
        have bx := ab x hx
        exact ⟨L, _, v, _, rfl, rfl, SqL.of hl3, ex, q _ _ ((B1.trans (s1.trans s2).but).trans B3) (D3.mono (by omega)) (by omega) bx.2⟩
  refine ⟨_, rfl, rfl, _, rfl, ifI (fun e => ?_) (fun e4 => ?_)⟩
  · refine ⟨_, rfl, _, rfl, _, _, rfl, d, n + 1, 50, rfl, rfl, by decide, by decide, D1, by omega, fun H2 v B2 D2 u0 u1 => ?_⟩
    exact ⟨_, _, rfl, rfl, q _ _ (B1.trans B2) (D2.mono (by omega)) (by omega) (by omega)⟩
  -- a prime's power
  refine ⟨by show 4 ≤ sizeLine; decide, fun l nl => ?_⟩
  have s1 := same_new (o := .lst [.int 2, .int 3, .int 5, .int 7]) nl
  refine ⟨_, rfl, _, _, rfl, d, n + 1, 4, rfl, rfl, by decide, by decide, D1.same s1, by omega, fun H2 v B2 D2 u0 u1 => ?_⟩
  obtain ⟨x, hx, ex⟩ := at_ints (ns := [2, 3, 5, 7]) u0 (by show v < 4; exact u1)
  have bx : 2 ≤ x ∧ x ≤ 7 := (by decide : ∀ x ∈ ([2, 3, 5, 7] : List Int), 2 ≤ x ∧ x ≤ 7) x hx
  have hl2 : H2 l = some (.lst [.int 2, .int 3, .int 5, .int 7]) := B2 _ _ (D1.ne nl) upd_same
  refine ⟨l, _, v, _, rfl, rfl, SqL.of hl2, ex, ?_⟩
  refine ⟨_, rfl, _, _, rfl, d, n + 2, 40, rfl, rfl, by decide, by decide, D2, by omega, fun H3 c B3 D3 c0 c1 => ?_⟩
  have B4 : But d H H3 := ((B1.trans s1.but).trans B2).trans B3
  refine ⟨_, _, rfl, rfl, 1 + c, rfl, by omega, by omega, for_range (lo := 0) (n := (1 + c).toNat) (fun i σ H' => ∃ (yk : Option V) (g : Int), σ = [some (.ref d), some (.int m), some (.int way), some (.int g), yk, some (.int x), none] ∧ H' = H3 ∧ 1 ≤ g ∧ g ≤ m) ⟨none, 1, rfl, rfl, by omega, by omega⟩ ?_ ?_⟩
  · rintro i σ H' hi ⟨yk, g, rfl, rfl, g0, g1⟩
    have mb := mul_bd (show 0 ≤ g by omega) g1 (show 0 ≤ x by omega) bx.2
    refine ⟨_, rfl, _, rfl, _, _, rfl, rfl, ⟨by unfold Big; omega, by unfold Big; omega⟩, _, rfl, _, _, rfl, rfl, _, rfl, ifD (fun le => ?_) (fun le => ?_)⟩
    · refine ⟨_, rfl, _, rfl, _, _, rfl, rfl, ⟨by unfold Big; omega, by unfold Big; omega⟩, some (.int (0 + i)), g * x, rfl, rfl, ?_, le⟩
      have := mul_bd (show (0:Int) ≤ 1 by decide) g0 (show (0:Int) ≤ 1 by decide) (show 1 ≤ x by omega)
      omega
    · exact ⟨some (.int (0 + i)), g, rfl, rfl, g0, g1⟩
  · rintro σ H' ⟨yk, g, rfl, rfl, g0, g1⟩
    exact ⟨_, rfl, q _ _ B4 (D3.mono (by omega)) g0 g1⟩
end
end Tw


namespace Tw
open PySem PySem.Spec PyProof.Rows L2
abbrev s_rule : Stmt := topS 11
theorem sc_rule : FnScope ["deck", "most", "bound", "times", "way", "shared", "prime", "plus"] ["deck", "most"] (defScope s_rule) := ⟨rfl, rfl, rfl, by decide +kernel, rfl, by decide +kernel, by decide +kernel⟩
section
variable {P : Program} {w : World} {K : PySem.W.Frag} {mg : Str → Option Value} {base : Heap}
theorem ok_rule (D : Top K mg "_law_rule" s_rule ["deck", "most"]) (h_next : Has P w K mg base CX0 2 "_law_next" ["deck", "many"] (sp2 (pNext 1))) (h_great : Has P w K mg base CX0 3 "_law_great" ["deck", "most"] (sp2 (pNext 2))) (h_bound : Has P w K mg base CX0 4 "_law_bound" ["deck", "most"] (sp2 pBound)) :
    Has P w K mg base CX0 5 "_law_rule" ["deck", "most"] (sp2 pRule) := by
  refine D.ok2 sc_rule (fun f cdv A outer s H v1 v2 Q E hr h => ?_)
  obtain ⟨d, n, m, rfl, rfl, m0, m1, hD, hn, q⟩ := h
  refine ⟨_, (pss_cons (ps_set (i := 2) sc_rule.nd rfl (.inl rfl) (pe_own h_bound (hr.mono (by decide)) pass0 (pa_cons (pv 0) (pa_cons (pv 1) pa_nil))))
 (pss_cons (ps_set (i := 3) sc_rule.nd rfl (.inl rfl) (pe_own h_great (hr.mono (by decide)) pass0 (pa_cons (pv 0) (pa_cons (pv 2) pa_nil))))
 (pss_cons (ps_set (i := 4) sc_rule.nd rfl (.inl rfl) (pe_own h_next (hr.mono (by decide)) pass0 (pa_cons (pv 0) (pa_cons pe_int pa_nil))))
 (pss_cons (ps_set (i := 5) sc_rule.nd rfl (.inl rfl) pe_int)
 (pss_cons (ps_for PassesOwn.never rfl (pi_list (pe_lst (pa_cons pe_int (pa_cons pe_int (pa_cons pe_int (pa_cons pe_int (pa_cons pe_int (pa_cons pe_int pa_nil)))))))) (pg_name (i := 6) sc_rule.nd rfl (.inl rfl)) (pss_one (ps_if (pt_cmpR op_eq (pe_op op_mod (pv 2) (pv 6)) pe_int (nomark _)) (pss_one (ps_set (i := 5) sc_rule.nd rfl (.inl rfl) (pe_op op_mulB (pv 5) (pv 6)))) pss_nil)))
 (C8.pss_cut (ps_if (pt_cmpR op_lt (pv 4) pe_int (nomark _)) (pss_one (ps_set (i := 3) sc_rule.nd rfl (.inl rfl) (pe_ix ix_list (pe_lst (pa_cons pe_int (pa_cons pe_int (pa_cons (pe_op op_sub (pv 2) pe_int) pa_nil)))) (pv 4) (fun _ _ => rfl)))) pss_nil)
 (C8.pss_cut (ps_if (pt_cmpR op_eq (pv 4) pe_int (nomark _)) (pss_one (ps_set (i := 3) sc_rule.nd rfl (.inl rfl) (pe_op op_mulB (pv 3) (pv 5)))) pss_nil)
 (C8.pss_cut (ps_if (pt_cmpR op_in_seq (pv 4) (pe_tup (pa_cons pe_int (pa_cons pe_int pa_nil))) (by rfl)) (pss_one (ps_set (i := 3) sc_rule.nd rfl (.inl rfl) (pe_op op_add pe_int (pe_op op_mulB (pe_op op_mulB (pv 3) (pv 5)) (pe_ix ix_list (pe_lst (pa_cons pe_int (pa_cons pe_int pa_nil))) (pe_op op_sub (pv 4) pe_int) (fun _ _ => rfl)))))) pss_nil)
 (pss_cons (ps_set (i := 7) sc_rule.nd rfl (.inl rfl) (pe_ix ix_list (pe_lst (pa_cons (pe_own h_great (hr.mono (by decide)) pass0 (pa_cons (pv 0) (pa_cons (pv 2) pa_nil))) (pa_cons pe_int (pa_cons pe_int (pa_cons (pe_op op_sub (pv 2) pe_int) pa_nil))))) (pe_own h_next (hr.mono (by decide)) pass0 (pa_cons (pv 0) (pa_cons pe_int pa_nil))) (fun _ _ => rfl)))
 (pss_one (ps_ret (pe_tup (pa_cons (pe_op op_mod (pv 3) (pv 2)) (pa_cons (pe_op op_mod (pv 7) (pv 2)) (pa_cons (pv 2) pa_nil))))))))))))))), ?_⟩
  refine ⟨_, rfl, _, rfl, _, _, rfl, d, n, m, rfl, rfl, m0, m1, hD, by omega, fun H1 b B1 D1 b0 b1 => ?_⟩
  refine ⟨_, rfl, _, rfl, _, _, rfl, d, n + 50, b, rfl, rfl, by omega, by omega, D1, by omega, fun H2 t B2 D2 t0 t1 => ?_⟩
  refine ⟨_, rfl, _, _, rfl, d, n + 52, 8, rfl, rfl, by decide, by decide, D2, by omega, fun H3 way B3 D3 w0 w1 => ?_⟩
  have B4 : But d H H3 := (B1.trans B2).trans B3
  -- shared = 1; for prime in [..]
  refine ⟨by show 6 ≤ sizeLine; decide, fun l nl => ?_⟩
  have s1 := same_new (o := .lst [.int 2, .int 3, .int 5, .int 7, .int 11, .int 13]) nl
  have D4 := D3.same s1
  have B5 : But d H _ := B4.trans s1.but
  refine ⟨l, rfl, ⟨_, SqL.of upd_same⟩, for_list (K := K) (a := l) (xs := ([2, 3, 5, 7, 11, 13] : List Int).map V.int) (fun i σ H' => ∃ (yp : Option V) (g : Int), σ = [some (.ref d), some (.int m), some (.int b), some (.int t), some (.int way), some (.int g), yp, none] ∧ H' = upd H3 l (.lst [.int 2, .int 3, .int 5, .int 7, .int 11, .int 13]) ∧ 1 ≤ g ∧ g ≤ 13 ^ i) ⟨none, 1, rfl, rfl, by omega, by decide⟩ ?_ ?_ ?_⟩
  · rintro i σ H' _ ⟨yp, g, rfl, rfl, _⟩
    exact SqL.of upd_same
  · rintro i x σ H' hi ⟨yp, g, rfl, rfl, g0, g1⟩
    obtain ⟨z, hz, rfl⟩ : ∃ z, ([2, 3, 5, 7, 11, 13] : List Int)[i]? = some z ∧ x = V.int z := by
      rw [List.getElem?_map] at hi
      cases ez : ([2, 3, 5, 7, 11, 13] : List Int)[i]? with
      | none => rw [ez] at hi; cases hi
      | some z => rw [ez] at hi; exact ⟨z, rfl, (Option.some.inj hi).symm⟩
    have i6 : i < 6 := (List.getElem?_eq_some_iff.mp hz).1
    have z2 : 2 ≤ z ∧ z ≤ 13 := (by decide : ∀ x ∈ ([2, 3, 5, 7, 11, 13] : List Int), 2 ≤ x ∧ x ≤ 13) z (List.mem_of_getElem? hz)
    have p6 : (13 : Int) ^ i ≤ 371293 := by
      have : i = 0 ∨ i = 1 ∨ i = 2 ∨ i = 3 ∨ i = 4 ∨ i = 5 := by omega
      rcases this with rfl | rfl | rfl | rfl | rfl | rfl <;> decide
    have mb := mul_bd (show 0 ≤ g by omega) g1 (show 0 ≤ z by omega) z2.2
    have ps : (13 : Int) ^ (i + 1) = 13 ^ i * 13 := Int.pow_succ _ _
    refine ⟨_, rfl, _, rfl, _, _, rfl, rfl, (show (0 : Int) < z by omega), rfl, _, rfl, ifI (fun e => ?_) (fun e => ?_)⟩
    · refine ⟨_, rfl, _, rfl, _, _, rfl, rfl, ⟨by unfold Big; omega, by unfold Big; omega⟩, some (.int z), g * z, rfl, rfl, ?_, by omega⟩
      have := mul_bd (show (0:Int) ≤ 1 by decide) g0 (show (0:Int) ≤ 1 by decide) (show 1 ≤ z by omega)
      omega
    · exact ⟨some (.int z), g, rfl, rfl, g0, by omega⟩
  rintro σ H' ⟨yp, g, rfl, rfl, g0, g1⟩
  have g1' : g ≤ 4826809 := g1
  have tb := mul_bd t0 (show t ≤ 1000000000000 by omega) (show 0 ≤ g by omega) g1'
  -- if way < 3
  refine ⟨fun σ' H' => ∃ (t' : Int), σ' = [some (.ref d), some (.int m), some (.int b), some (.int t'), some (.int way), some (.int g), yp, none] ∧ But d H H' ∧ Deck H' d (n + 53) ∧ 0 ≤ t' ∧ t' ≤ 1000000000000, ?_, ?_⟩
  · refine ⟨_, rfl, _, _, rfl, rfl, _, rfl, ifD (fun e => ?_) (fun e => ?_)⟩
    · refine ⟨_, rfl, _, _, rfl, rfl, by show 3 ≤ sizeLine; decide, fun l2 nl2 => ?_⟩
      have s2 := same_new (o := .lst [.int 0, .int 1, .int (b - 1)]) nl2
      obtain ⟨x, hx, ex⟩ := at_ints (ns := [0, 1, b - 1]) w0 (by show way < 3; exact e)
      refine ⟨_, rfl, l2, _, way, _, rfl, rfl, SqL.of upd_same, ex, x, rfl, B5.trans s2.but, D4.same s2, ?_⟩
      simp at hx
      rcases hx with rfl | rfl | rfl <;> omega
    · exact ⟨t, rfl, B5, D4, t0, by omega⟩
  rintro σ' H5 ⟨t2, rfl, B6, D6, t20, t21⟩
  have tb2 := mul_bd t20 t21 (show 0 ≤ g by omega) g1'
  -- if way == 3
  refine ⟨fun σ' H' => ∃ (t' : Int), σ' = [some (.ref d), some (.int m), some (.int b), some (.int t'), some (.int way), some (.int g), yp, none] ∧ H' = H5 ∧ 0 ≤ t' ∧ t' ≤ 4826809000000000000, ?_, ?_⟩
  · refine ⟨_, rfl, rfl, _, rfl, ifI (fun e => ?_) (fun e => ?_)⟩
    · exact ⟨_, rfl, _, rfl, _, _, rfl, rfl, ⟨by unfold Big; omega, by unfold Big; omega⟩, _, rfl, rfl, by omega, by omega⟩
    · exact ⟨t2, rfl, rfl, by omega, by omega⟩
  rintro σ' _ ⟨t3, rfl, rfl, t30, t31⟩
  have tb3 := mul_bd t30 t31 (show 0 ≤ g by omega) g1'
  -- if way in (4, 5)
  refine ⟨fun σ' H' => ∃ (t' : Int), σ' = [some (.ref d), some (.int m), some (.int b), some (.int t'), some (.int way), some (.int g), yp, none] ∧ But d H H' ∧ Deck H' d (n + 53), ?_, ?_⟩
  · refine ⟨_, rfl, by show 2 ≤ sizeLine; decide, fun l2 nl2 => ?_⟩
    have s2 := same_new (o := .tup [.int 4, .int 5]) nl2
    refine ⟨l2, _, rfl, .inr (SqT.of upd_same), rfl, rfl, _, rfl, ifB (fun e => ?_) (fun e => ?_)⟩
    · have hw : way = 4 ∨ way = 5 := by
        have e' : ((4 == way) || ((5 == way) || false)) = true := e
        simp at e'
        omega
      refine ⟨_, rfl, _, rfl, _, _, rfl, rfl, ⟨by unfold Big; omega, by unfold Big; omega⟩, by show 2 ≤ sizeLine; decide, fun l3 nl3 => ?_⟩
      have s3 := same_new (o := .lst [.int 1, .int 2]) nl3
      obtain ⟨x, hx, ex⟩ := at_ints (ns := [1, 2]) (show 0 ≤ way - 4 by omega) (by show way - 4 < 2; omega)
      have bx : 1 ≤ x ∧ x ≤ 2 := (by decide : ∀ x ∈ ([1, 2] : List Int), 1 ≤ x ∧ x ≤ 2) x hx
      refine ⟨_, rfl, _, _, rfl, rfl, l3, _, way - 4, _, rfl, rfl, SqL.of upd_same, ex, _, _, rfl, rfl, ⟨by unfold Big; omega, by unfold Big; omega⟩, _, _, rfl, rfl, _, rfl, (B6.trans s2.but).trans s3.but, (D6.same s2).same s3⟩
    · exact ⟨t3, rfl, B6.trans s2.but, D6.same s2⟩
  rintro σ' H6 ⟨t4, rfl, B7, D7⟩
  -- plus
  refine ⟨_, rfl, _, rfl, _, _, rfl, d, n + 53, b, rfl, rfl, by omega, by omega, D7, by omega, fun H7 p B8 D8 p0 p1 => ?_⟩
  refine ⟨_, rfl, _, _, rfl, rfl, by show 4 ≤ sizeLine; decide, fun l2 nl2 => ?_⟩
  have s2 := same_new (o := .lst [.int p, .int 0, .int 1, .int (b - 1)]) nl2
  refine ⟨_, rfl, _, _, rfl, d, n + 55, 4, rfl, rfl, by decide, by decide, D8.same s2, by omega, fun H8 v B9 D9 u0 u1 => ?_⟩
  obtain ⟨x, hx, ex⟩ := at_ints (ns := [p, 0, 1, b - 1]) u0 (by show v < 4; exact u1)
  have hl2 : H8 l2 = some (.lst [.int p, .int 0, .int 1, .int (b - 1)]) := B9 _ _ (D8.ne nl2) upd_same
  refine ⟨l2, _, v, _, rfl, rfl, SqL.of hl2, ex, ?_⟩
  refine ⟨_, rfl, _, rfl, _, _, rfl, rfl, (show (0 : Int) < b by omega), _, rfl, _, rfl, _, _, rfl, rfl, (show (0 : Int) < b by omega), _, rfl, by show 3 ≤ sizeLine; decide, fun r nr => ?_⟩
  have s3 := same_new (o := .tup [.int (t4 % b), .int (x % b), .int b]) nr
  have bt := mod_bd t4 (show 0 < b by omega)
  have bp := mod_bd x (show 0 < b by omega)
  have Bf : But d H H8 := ((B7.trans B8).trans s2.but).trans B9
  exact q _ r _ _ _ (Bf.trans s3.but) ((D9.same s3).mono (by omega)) (Bf.free (D9.ne nr) nr) upd_same ⟨b0, by omega, bt.1, bt.2, bp.1, bp.2⟩ b1
end
end Tw


namespace Tw
open PySem PySem.Spec PyProof.Rows L2
abbrev s_common_divisor : Stmt := topS 1
theorem sc_common_divisor : FnScope ["one", "other"] ["one", "other"] (defScope s_common_divisor) := ⟨rfl, rfl, rfl, by decide +kernel, rfl, by decide +kernel, by decide +kernel⟩
section
variable {P : Program} {w : World} {K : PySem.W.Frag} {mg : Str → Option Value} {base : Heap}
theorem ok_common_divisor (D : Top K mg "common_divisor" s_common_divisor ["one", "other"]) : Has P w K mg base CX0 1 "common_divisor" ["one", "other"] (sp2 pGcd) := by
  refine D.ok2 sc_common_divisor (fun f cdv A outer s H v1 v2 Q E hr h => ?_)
  obtain ⟨x, y, rfl, rfl, x0, y0, q⟩ := h
  refine ⟨_, (pss_cons (ps_while PassesOwn.never (pt_cmpR op_ne (pv 1) pe_int (nomark _)) (pss_one (ps_par (i := 0) (j := 1) (by rfl) sc_common_divisor.nd rfl rfl (by decide) rfl rfl (pa_cons (pv 1) (pa_cons (pe_op op_mod (pv 0) (pv 1)) pa_nil)) (by rfl))))
 (pss_one (ps_ret (pv 0)))), ?_⟩
  refine ⟨fun k σ H' => ∃ a b : Int, σ = [some (.int a), some (.int b)] ∧ H' = H ∧ 0 ≤ a ∧ 0 ≤ b ∧ b.toNat = k ∧ Int.gcd a b = Int.gcd x y, ⟨y.toNat, x, y, rfl, rfl, x0, y0, rfl, rfl⟩, ?_⟩
  rintro k σ H' ⟨a, b, rfl, rfl, a0, b0, hk, hg⟩
  refine ⟨_, rfl, rfl, _, rfl, ifNI (fun nb => ?_) (fun nb => ?_)⟩
  · have bp : 0 < b := by omega
    have mr := mod_bd a bp
    refine ⟨fun σ' H1 => ∃ k', k' < k ∧ ∃ a b : Int, σ' = [some (.int a), some (.int b)] ∧ H1 = H' ∧ 0 ≤ a ∧ 0 ≤ b ∧ b.toNat = k' ∧ Int.gcd a b = Int.gcd x y, fun _ _ z => z, ?_⟩
    refine ⟨_, rfl, _, rfl, _, rfl, _, _, rfl, rfl, bp, _, _, rfl, (a % b).toNat, by omega, b, a % b, rfl, rfl, b0, mr.1, rfl, (gcd_step a0 bp).trans hg⟩
  · subst nb
    refine ⟨_, rfl, ?_⟩
    have e : ((Int.gcd x y : Nat) : Int) = a := by
      rw [← hg, Int.gcd_zero_right]
      omega
    rw [e] at q
    exact q
end
end Tw


namespace Tw
open PySem PySem.Spec PyProof.Rows L2
abbrev s_has_each_prime_of : Stmt := topS 4
theorem sc_has_each_prime_of : FnScope ["bound", "number", "left", "shared"] ["bound", "number"] (defScope s_has_each_prime_of) := ⟨rfl, rfl, rfl, by decide +kernel, rfl, by decide +kernel, by decide +kernel⟩
abbrev s_is_one_round : Stmt := topS 3
theorem sc_is_one_round : FnScope ["rule", "times", "plus", "bound"] ["rule"] (defScope s_is_one_round) := ⟨rfl, rfl, rfl, by decide +kernel, rfl, by decide +kernel, by decide +kernel⟩
section
variable {P : Program} {w : World} {K : PySem.W.Frag} {mg : Str → Option Value} {base : Heap}
theorem ok_has_each (D : Top K mg "has_each_prime_of" s_has_each_prime_of ["bound", "number"]) (h_common_divisor : Has P w K mg base CX0 1 "common_divisor" ["one", "other"] (sp2 pGcd)) : Has P w K mg base CX0 2 "has_each_prime_of" ["bound", "number"] (sp2 pEach) := by
  refine D.ok2 sc_has_each_prime_of (fun f cdv A outer s H v1 v2 Q E hr h => ?_)
  obtain ⟨m, x, rfl, rfl, m0, m1, x0, q⟩ := h
  refine ⟨_, (pss_cons (ps_set (i := 2) sc_has_each_prime_of.nd rfl (.inl rfl) (pv 0))
 (pss_cons (ps_set (i := 3) sc_has_each_prime_of.nd rfl (.inl rfl) (pe_own h_common_divisor (hr.mono (by decide)) pass0 (pa_cons (pv 2) (pa_cons (pv 1) pa_nil))))
 (pss_cons (ps_while PassesOwn.never (pt_cmpR op_ne (pv 3) pe_int (nomark _)) (pss_cons (ps_set (i := 2) sc_has_each_prime_of.nd rfl (.inl rfl) (pe_op op_fdivB (pv 2) (pv 3)))
 (pss_one (ps_set (i := 3) sc_has_each_prime_of.nd rfl (.inl rfl) (pe_own h_common_divisor (hr.mono (by decide)) pass0 (pa_cons (pv 2) (pa_cons (pv 1) pa_nil)))))))
 (pss_one (ps_ret (pe_cmpR op_eq (pv 2) pe_int (nomark _))))))), ?_⟩
  refine ⟨_, rfl, _, rfl, _, rfl, _, _, rfl, m, x, rfl, rfl, by omega, x0, ?_⟩
  refine ⟨fun k σ H' => ∃ l : Int, σ = [some (.int m), some (.int x), some (.int l), some (.int (Int.gcd l x : Nat))] ∧ H' = H ∧ 0 < l ∧ l ≤ m ∧ l ∣ m ∧ l.toNat = k ∧ (∀ q, Prm q → q ∣ m → q ∣ l ∨ q ∣ x), ⟨m.toNat, m, rfl, rfl, m0, Int.le_refl _, ⟨1, by omega⟩, rfl, fun q _ h => .inl h⟩, ?_⟩
  rintro k σ H' ⟨l, rfl, rfl, l0, lm, ld, hk, hp⟩
  have g1 : ((Int.gcd l x : Nat) : Int) ∣ l := Int.gcd_dvd_left ..
  have g2 : ((Int.gcd l x : Nat) : Int) ∣ x := Int.gcd_dvd_right ..
  have g0 : 0 < ((Int.gcd l x : Nat) : Int) := by
    have : Int.gcd l x ≠ 0 := fun z => by
      have := (Int.gcd_eq_zero_iff.mp z).1
      omega
    omega
  have gl := Int.le_of_dvd l0 g1
  refine ⟨_, rfl, rfl, _, rfl, ifNI (fun ne => ?_) (fun e => ?_)⟩
  · have ed := Int.mul_ediv_cancel' g1
    have l20 : 0 < l / (Int.gcd l x : Nat) := Int.ediv_pos_of_pos_of_dvd l0 (by omega) g1
    have l2l : l / (Int.gcd l x : Nat) < l := by
      have h3 := Int.mul_le_mul_of_nonneg_right (show (2 : Int) ≤ (Int.gcd l x : Nat) by omega) (Int.le_of_lt l20)
      omega
    refine ⟨fun σ' H1 => ∃ k', k' < k ∧ ∃ l : Int, σ' = [some (.int m), some (.int x), some (.int l), some (.int (Int.gcd l x : Nat))] ∧ H1 = H' ∧ 0 < l ∧ l ≤ m ∧ l ∣ m ∧ l.toNat = k' ∧ (∀ q, Prm q → q ∣ m → q ∣ l ∨ q ∣ x), fun _ _ z => z, ?_⟩
    refine ⟨_, rfl, _, rfl, _, _, rfl, rfl, ⟨g0, by omega⟩, ?_⟩
    refine ⟨_, rfl, _, rfl, _, _, rfl, _, x, rfl, rfl, by omega, x0, ?_⟩
    refine ⟨(l / (Int.gcd l x : Nat)).toNat, by omega, l / (Int.gcd l x : Nat), rfl, rfl, l20, by omega, Int.dvd_trans ⟨((Int.gcd l x : Nat) : Int), by rw [Int.mul_comm]; exact ed.symm⟩ ld, rfl, fun q hq hd => ?_⟩
    rcases hp q hq hd with h | h
    · rw [← ed] at h
      rcases prm_mul hq h with h | h
      · exact .inr (Int.dvd_trans h g2)
      · exact .inl h
    · exact .inr h
  · refine ⟨_, rfl, rfl, q _ ?_⟩
    have gg : Int.gcd l x = 1 := by omega
    constructor
    · intro h r hr hd
      have e1 : l = 1 := V.int.inj (of_decide_eq_true h)
      rcases hp r hr hd with h | h
      · rw [e1] at h
        have := Int.le_of_dvd (by decide) h
        have := hr.1
        omega
      · exact h
    · intro hA
      refine decide_eq_true ?_
      congr 1
      refine Classical.byContradiction fun hn => ?_
      obtain ⟨r, hr, hrl⟩ := prm_of (n := l) (by omega)
      have h2 := hA r hr (Int.dvd_trans hrl ld)
      have d := Int.dvd_coe_gcd hrl h2
      rw [gg] at d
      have := Int.le_of_dvd (by decide) d
      have := hr.1
      omega
theorem ok_is_one_round (D : Top K mg "is_one_round" s_is_one_round ["rule"]) (h_common_divisor : Has P w K mg base CX0 1 "common_divisor" ["one", "other"] (sp2 pGcd)) (h_has_each_prime_of : Has P w K mg base CX0 2 "has_each_prime_of" ["bound", "number"] (sp2 pEach)) : Has P w K mg base CX0 3 "is_one_round" ["rule"] (sp1 (pOneR K)) := by
  refine D.ok1 sc_is_one_round (fun f cdv A outer s H v1 Q E hr h => ?_)
  obtain ⟨r, t, p, m, rfl, h1, R, q⟩ := h
  refine ⟨_, (pss_cons (ps_asg (pv 0) (pg_tup rfl (pgs_cons (pg_name (i := 1) sc_is_one_round.nd rfl (.inl rfl)) (pgs_cons (pg_name (i := 2) sc_is_one_round.nd rfl (.inl rfl)) (pgs_cons (pg_name (i := 3) sc_is_one_round.nd rfl (.inl rfl)) pgs_nil)))))
 (pss_cons (ps_if (pt_cmpR op_ne (pe_own h_common_divisor (hr.mono (by decide)) pass0 (pa_cons (pv 2) (pa_cons (pv 3) pa_nil))) pe_int (nomark _)) (pss_one (ps_ret pe_bl)) pss_nil)
 (pss_cons (ps_if (PW.pt (pw_and (pt_cmpR op_eq (pe_op op_mod (pv 3) pe_int) pe_int (nomark _)) (pw_and1 (pt_cmpR op_ne (pe_op op_mod (pv 1) pe_int) pe_int (nomark _))))) (pss_one (ps_ret pe_bl)) pss_nil)
 (pss_one (ps_ret (pe_own h_has_each_prime_of (hr.mono (by decide)) pass0 (pa_cons (pv 3) (pa_cons (pe_op op_mod (pe_op op_sub (pv 1) pe_int) (pv 3)) pa_nil)))))))), ?_⟩
  have m0 : 0 < m := by have := R.b1; omega
  have p0 := R.p0
  have b2 := R.b2
  refine ⟨_, rfl, r, _, rfl, h1, rfl, _, _, rfl, _, _, rfl, _, _, rfl, rfl, ?_⟩
  refine ⟨_, rfl, _, rfl, _, _, rfl, p, m, rfl, rfl, p0, by omega, rfl, _, rfl, ifNI (fun ne => ?_) (fun e1 => ?_)⟩
  · exact q false ⟨fun h => absurd h Bool.false_ne_true, fun h => absurd (show ((Int.gcd p m : Nat) : Int) = 1 by rw [h.1]; rfl) ne⟩
  have g1 : Int.gcd p m = 1 := by omega
  have fin : (4 ∣ m → 4 ∣ t - 1) → ∀ b : Bool, (b = true ↔ AllP m ((t - 1) % m)) → (b = true ↔ Cls t p m) := fun h4 b hb => by
    rw [hb, allP_mod]
    exact ⟨fun h => ⟨g1, h, h4⟩, fun h => h.2.1⟩
  have xr := mod_bd (t - 1) m0
  refine ⟨_, rfl, _, _, rfl, rfl, (by show (0 : Int) < 4; decide), rfl, _, rfl, ifI (fun e4 => ?_) (fun n4 => ifF rfl ?_)⟩
  · refine ⟨_, rfl, _, _, rfl, rfl, (by show (0 : Int) < 4; decide), rfl, _, rfl, ifNI (fun n1 => ?_) (fun e5 => ?_)⟩
    · refine q false ⟨fun h => absurd h Bool.false_ne_true, fun h => ?_⟩
      obtain ⟨c, hc⟩ := h.2.2 (Int.dvd_of_emod_eq_zero e4)
      omega
    · refine ⟨_, rfl, _, rfl, _, _, rfl, rfl, _, rfl, _, _, rfl, rfl, m0, _, _, rfl, m, _, rfl, rfl, m0, b2, xr.1, fun b hb => q b (fin (fun _ => ⟨t / 4, by omega⟩) b hb)⟩
  · refine ⟨_, rfl, _, rfl, _, _, rfl, rfl, _, rfl, _, _, rfl, rfl, m0, _, _, rfl, m, _, rfl, rfl, m0, b2, xr.1, fun b hb => q b (fin (fun h4 => absurd (Int.emod_eq_zero_of_dvd h4) n4) b hb)⟩
end
end Tw


namespace Tw
open PySem PySem.Spec PyProof.Rows L2
abbrev s_goes_round : Stmt := topS 13
theorem sc_goes_round : FnScope ["rule", "one", "step"] ["rule"] (defScope s_goes_round) := ⟨rfl, rfl, rfl, by decide +kernel, rfl, by decide +kernel, by decide +kernel⟩
abbrev s_by_clauses : Stmt := topS 14
theorem sc_by_clauses : FnScope ["rule", "times", "plus", "bound", "one", "other", "power", "turn"] ["rule"] (defScope s_by_clauses) := ⟨rfl, rfl, rfl, by decide +kernel, rfl, by decide +kernel, by decide +kernel⟩
abbrev s_law : Stmt := topS 15
theorem sc_law : FnScope ["script", "deck", "turn", "rule", "times", "one", "due", "found", "great"] ["script"] (defScope s_law) := ⟨rfl, rfl, rfl, by decide +kernel, rfl, by decide +kernel, by decide +kernel⟩
section
variable {P : Program} {w : World} {K : PySem.W.Frag} {mg : Str → Option Value} {base : Heap}
theorem ok_goes_round (D : Top K mg "_law_goes_round" s_goes_round ["rule"]) (z_range : mg "range" = none) : Has P w K mg base CX0 1 "_law_goes_round" ["rule"] (sp1 (pGoes K)) := by
  refine D.ok1 sc_goes_round (fun f cdv A outer s H v1 Q E hr h => ?_)
  obtain ⟨r, t, p, m, rfl, h1, R, q⟩ := h
  refine ⟨_, (pss_cons (ps_set (i := 1) sc_goes_round.nd rfl (.inl rfl) pe_int)
 (pss_cons (ps_for PassesOwn.never rfl (pi_range1 (by rfl) z_range (pa_cons (pe_ix ix_tup (pv 0) pe_int (fun _ _ => rfl)) pa_nil)) (pg_name (i := 2) sc_goes_round.nd rfl (.inl rfl)) (pss_cons (ps_set (i := 1) sc_goes_round.nd rfl (.inl rfl) (pe_op op_mod (pe_op op_add (pe_op op_mulB (pe_ix ix_tup (pv 0) pe_int (fun _ _ => rfl)) (pv 1)) (pe_ix ix_tup (pv 0) pe_int (fun _ _ => rfl))) (pe_ix ix_tup (pv 0) pe_int (fun _ _ => rfl))))
 (pss_one (ps_if (pt_cmpR op_eq (pv 1) pe_int (nomark _)) (pss_one (ps_ret (pe_cmpR op_eq (pe_op op_add (pv 2) pe_int) (pe_ix ix_tup (pv 0) pe_int (fun _ _ => rfl)) (nomark _)))) pss_nil))))
 (pss_one (ps_ret pe_bl)))), ?_⟩
  have m0 : 0 < m := by have := R.b1; omega
  have t0 := R.t0
  have t1 := R.t1
  have b2 := R.b2
  refine ⟨_, rfl, r, _, 2, .int m, rfl, rfl, h1, rfl, m, rfl, by omega, by omega, for_range (lo := 0) (n := m.toNat) (fun i σ H' => ∃ (y : Option V), σ = [some (.ref r), some (.int (ahd t p m i 0)), y] ∧ H' = H ∧ ∀ n : Nat, 0 < n → n ≤ i → p * geo t n % m ≠ 0) ⟨none, ?_, rfl, fun n h0 h1 => by omega⟩ ?_ ?_⟩
  · rw [ahd_zero]
    show _ = [_, some (V.int (p * 0 % m)), _]
    rw [Int.mul_zero, Int.zero_emod]
    rfl
  · rintro i σ H' hi ⟨y, rfl, rfl, hno⟩
    have ar := ahd_rng (t := t) (p := p) m0 i 0
    refine ⟨_, rfl, r, _, 0, .int t, rfl, rfl, h1, rfl, _, rfl, _, _, rfl, rfl, ⟨by unfold Big; omega, by unfold Big; omega⟩, _, rfl, r, _, 1, .int p, rfl, rfl, h1, rfl, _, _, rfl, rfl, _, rfl, r, _, 2, .int m, rfl, rfl, h1, rfl, _, _, rfl, rfl, m0, ?_⟩
    have es : (t * ahd t p m i 0 + p) % m = ahd t p m (i + 1) 0 := by
      rw [ahd_add t p m i 1]
      generalize ahd t p m i 0 = y
      unfold ahd
      have g1 : geo t 1 = 1 := by show (0 : Int) + t ^ 0 = 1; rw [Int.pow_zero]; rfl
      rw [g1, Int.pow_one, Int.mul_one]
    refine ⟨_, rfl, rfl, _, rfl, ifI (fun e => ?_) (fun e => ?_)⟩
    · rw [es, ahd_zero] at e
      refine ⟨_, rfl, _, _, rfl, rfl, _, rfl, r, _, 2, .int m, rfl, rfl, h1, rfl, rfl, q _ ?_⟩
      constructor
      · intro h
        have e2 : 0 + (i : Int) + 1 = m := V.int.inj (of_decide_eq_true h)
        refine ⟨fun n n0 n1 => hno n n0 (by omega), ?_⟩
        rw [show m.toNat = i + 1 by omega]
        exact e
      · intro h
        refine decide_eq_true (congrArg V.int ?_)
        show 0 + (i : Int) + 1 = m
        refine Classical.byContradiction fun hn => ?_
        exact h.1 (i + 1) (by omega) (by omega) e
    · rw [es, ahd_zero] at e
      refine ⟨some (.int (0 + i)), ?_, rfl, fun n n0 n1 => ?_⟩
      · show [some (V.ref r), some (V.int ((t * ahd t p m i 0 + p) % m)), some (V.int (0 + i))] = _
        rw [es]
      · by_cases hl : n ≤ i
        · exact hno n n0 hl
        · rw [show n = i + 1 by omega]
          exact e
  · rintro σ H' ⟨y, rfl, rfl, hno⟩
    exact q false ⟨fun h => absurd h Bool.false_ne_true, fun h => absurd h.2 (hno m.toNat (by omega) (Nat.le_refl _))⟩
theorem ok_by_clauses (D : Top K mg "_law_by_clauses" s_by_clauses ["rule"]) (z_range : mg "range" = none) : Has P w K mg base CX0 1 "_law_by_clauses" ["rule"] (sp1 (pOneR K)) := by
  refine D.ok1 sc_by_clauses (fun f cdv A outer s H v1 Q E hr h => ?_)
  obtain ⟨r, t, p, m, rfl, h1, R, q⟩ := h
  refine ⟨_, (pss_cons (ps_asg (pv 0) (pg_tup rfl (pgs_cons (pg_name (i := 1) sc_by_clauses.nd rfl (.inl rfl)) (pgs_cons (pg_name (i := 2) sc_by_clauses.nd rfl (.inl rfl)) (pgs_cons (pg_name (i := 3) sc_by_clauses.nd rfl (.inl rfl)) pgs_nil)))))
 (pss_cons (ps_par (i := 4) (j := 5) (by rfl) sc_by_clauses.nd rfl rfl (by decide) rfl rfl (pa_cons (pv 2) (pa_cons (pv 3) pa_nil)) (by rfl))
 (pss_cons (ps_while PassesOwn.never (pt_cmpR op_gt (pv 5) pe_int (nomark _)) (pss_one (ps_par (i := 4) (j := 5) (by rfl) sc_by_clauses.nd rfl rfl (by decide) rfl rfl (pa_cons (pv 5) (pa_cons (pe_op op_mod (pv 4) (pv 5)) pa_nil)) (by rfl))))
 (pss_cons (ps_set (i := 6) sc_by_clauses.nd rfl (.inl rfl) pe_int)
 (pss_cons (ps_for PassesOwn.never rfl (pi_range1 (by rfl) z_range (pa_cons pe_int pa_nil)) (pg_name (i := 7) sc_by_clauses.nd rfl (.inl rfl)) (pss_one (ps_set (i := 6) sc_by_clauses.nd rfl (.inl rfl) (pe_op op_mod (pe_op op_mulB (pv 6) (pe_op op_sub (pv 1) pe_int)) (pv 3)))))
 (pss_one (ps_ret (pe_and (pe_cmpR op_eq (pv 4) pe_int (nomark _)) (pe_and (pe_cmpR op_eq (pe_op op_mod (pv 6) (pv 3)) pe_int (nomark _)) (pe_one (pe_or (pe_cmpR op_gt (pe_op op_mod (pv 3) pe_int) pe_int (nomark _)) (pe_one (pe_cmpR op_eq (pe_op op_mod (pe_op op_sub (pv 1) pe_int) pe_int) pe_int (nomark _)))))))))))))), ?_⟩
  have m0 : 0 < m := by have := R.b1; omega
  have t0 := R.t0
  have t1 := R.t1
  have p0 := R.p0
  have b2 := R.b2
  refine ⟨_, rfl, r, _, rfl, h1, rfl, _, _, rfl, _, _, rfl, _, _, rfl, rfl, ?_⟩
  refine ⟨_, rfl, _, rfl, _, _, rfl, ?_⟩
  refine ⟨fun k σ H' => ∃ a b : Int, σ = [some (.ref r), some (.int t), some (.int p), some (.int m), some (.int a), some (.int b), none, none] ∧ H' = H ∧ 0 ≤ a ∧ 0 ≤ b ∧ b.toNat = k ∧ Int.gcd a b = Int.gcd p m, ⟨m.toNat, p, m, rfl, rfl, p0, by omega, rfl, rfl⟩, ?_⟩
  rintro k σ H' ⟨a, b, rfl, rfl, a0, b0, hk, hg⟩
  refine ⟨_, rfl, _, _, rfl, rfl, _, rfl, ifD (fun bp => ?_) (fun nb => ?_)⟩
  · have mr := mod_bd a bp
    refine ⟨fun σ' H1 => ∃ k', k' < k ∧ ∃ a b : Int, σ' = [some (.ref r), some (.int t), some (.int p), some (.int m), some (.int a), some (.int b), none, none] ∧ H1 = H' ∧ 0 ≤ a ∧ 0 ≤ b ∧ b.toNat = k' ∧ Int.gcd a b = Int.gcd p m, fun _ _ z => z, ?_⟩
    refine ⟨_, rfl, _, rfl, _, rfl, _, _, rfl, rfl, bp, _, _, rfl, (a % b).toNat, by omega, b, a % b, rfl, rfl, b0, mr.1, rfl, (gcd_step a0 bp).trans hg⟩
  · obtain rfl : b = 0 := by omega
    have ea : ((Int.gcd p m : Nat) : Int) = a := by
      rw [← hg, Int.gcd_zero_right]
      omega
    refine ⟨40, rfl, by decide, by decide, for_range (lo := 0) (n := 40) (fun i σ H1 => ∃ (x : Int) (y : Option V), σ = [some (.ref r), some (.int t), some (.int p), some (.int m), some (.int a), some (.int 0), some (.int x), y] ∧ H1 = H' ∧ 0 ≤ x ∧ x ≤ m ∧ x % m = (t - 1) ^ i % m) ⟨1, none, rfl, rfl, by decide, by omega, by rw [Int.pow_zero]⟩ ?_ ?_⟩
    · rintro i σ H1 hi ⟨x, y, rfl, rfl, x0, x1, hx⟩
      have nr := mod_bd (x * (t - 1)) m0
      refine ⟨_, rfl, _, rfl, _, _, rfl, rfl, _, _, rfl, rfl, ⟨by unfold Big; omega, by unfold Big; omega⟩, _, rfl, _, _, rfl, rfl, m0, x * (t - 1) % m, some (.int (0 + i)), rfl, rfl, nr.1, by omega, ?_⟩
      rw [Int.emod_emod, Int.pow_succ, Int.mul_emod, hx, ← Int.mul_emod]
    · rintro σ H1 ⟨x, y, rfl, rfl, x0, x1, hx⟩
      have hA : AllP m (t - 1) ↔ x % m = 0 := by
        rw [allP_iff m0 (by have : (2 : Int) ^ 40 = 1099511627776 := by decide
                            omega), hx]
        exact ⟨Int.emod_eq_zero_of_dvd, Int.dvd_of_emod_eq_zero⟩
      refine ⟨_, rfl, rfl, _, rfl, ifI (fun e1 => ?_) (fun n1 => ?_)⟩
      · have g1 : Int.gcd p m = 1 := by omega
        refine ⟨_, rfl, _, rfl, _, _, rfl, rfl, m0, rfl, _, rfl, ifI (fun e2 => ?_) (fun n2 => ?_)⟩
        · refine ⟨_, rfl, _, _, rfl, rfl, (by show (0 : Int) < 4; decide), _, _, rfl, rfl, _, rfl, ifD (fun l4 => ?_) (fun l4 => ?_)⟩
          · exact q true ⟨fun _ => ⟨g1, hA.mpr e2, fun h => by have := Int.emod_eq_zero_of_dvd h; omega⟩, fun _ => rfl⟩
          · refine ⟨_, rfl, _, _, rfl, rfl, _, _, rfl, rfl, (by show (0 : Int) < 4; decide), rfl, q _ ?_⟩
            constructor
            · intro h
              have e3 : (t - 1) % 4 = 0 := V.int.inj (of_decide_eq_true h)
              exact ⟨g1, hA.mpr e2, fun _ => Int.dvd_of_emod_eq_zero e3⟩
            · intro h
              refine decide_eq_true ?_
              show V.int ((t - 1) % 4) = V.int 0
              refine congrArg V.int ?_
              have r4 := mod_bd m (show (0 : Int) < 4 by decide)
              exact Int.emod_eq_zero_of_dvd (h.2.2 (Int.dvd_of_emod_eq_zero (by omega)))
        · exact q false ⟨fun h => absurd h Bool.false_ne_true, fun h => absurd (hA.mp h.2.1) n2⟩
      · exact q false ⟨fun h => absurd h Bool.false_ne_true, fun h => absurd (show a = 1 by rw [← ea, h.1]; rfl) n1⟩
theorem cls_great : Cls 4194305 3 549755813888 := by
  refine ⟨by decide, fun q hq hd => ?_, fun _ => ⟨1048576, by decide⟩⟩
  have h2 : q ∣ (2 : Int) := prm_pow hq 39 (by rw [show (2 : Int) ^ 39 = 549755813888 by decide]; exact hd)
  exact Int.dvd_trans h2 ⟨2097152, by decide⟩
theorem ok_law {fL : Addr} {fdL : FuncData} (F : Fun K "law" "law" s_law fL fdL) (h_deck : Has P w K mg base CX0 1 "_law_deck" ["script"] (sp1 (pDeck K))) (h_rule : Has P w K mg base CX0 5 "_law_rule" ["deck", "most"] (sp2 pRule))
    (h_next : Has P w K mg base CX0 2 "_law_next" ["deck", "many"] (sp2 (pNext 1))) (h_by_clauses : Has P w K mg base CX0 1 "_law_by_clauses" ["rule"] (sp1 (pOneR K))) (h_goes_round : Has P w K mg base CX0 1 "_law_goes_round" ["rule"] (sp1 (pGoes K))) (h_is_one_round : Has P w K mg base CX0 3 "is_one_round" ["rule"] (sp1 (pOneR K)))
    (z_range : mg "range" = none) (z_isinstance : mg "isinstance" = none) (z_bool : mg "bool" = none) :
    FnOk P w K mg base CX0 8 fL fdL ["script"] (sp1 fun a H Q _ => ∃ (sa : Addr) (xs : List Int), a = .ref sa ∧ SqL K H sa (xs.map V.int) ∧ ∀ H', Q (.bl true) H') := by
  refine F.ok sc_law (fun vs H Q E h => by obtain ⟨_, rfl, _⟩ := h; rfl) (fun cdv A outer s H vs Q E hr h => ?_)
  obtain ⟨v1, rfl, sa, xs, rfl, hS, q⟩ := h
  refine ⟨_, (pss_cons (ps_set (i := 1) sc_law.nd rfl (.inl rfl) (pe_own h_deck (hr.mono (by decide)) pass0 (pa_cons (pv 0) pa_nil)))
 (pss_cons (ps_for PassesOwn.never rfl (pi_range1 (by rfl) z_range (pa_cons pe_int pa_nil)) (pg_name (i := 2) sc_law.nd rfl (.inl rfl)) (pss_cons (ps_set (i := 3) sc_law.nd rfl (.inl rfl) (pe_own h_rule (hr.mono (by decide)) pass0 (pa_cons (pv 1) (pa_cons (pe_ix ix_list (pe_lst (pa_cons pe_int (pa_cons (pe_op op_pow pe_int pe_int) pa_nil))) (pe_op op_mod (pv 2) pe_int) (fun _ _ => rfl)) pa_nil))))
 (pss_cons (ps_set (i := 4) sc_law.nd rfl (.inl rfl) (pe_op op_mod (pe_op op_add (pe_ix ix_tup (pv 3) pe_int (fun _ _ => rfl)) (pe_ix ix_list (pe_lst (pa_cons pe_int (pa_cons (pe_op op_fdivB (pe_ix ix_tup (pv 3) pe_int (fun _ _ => rfl)) pe_int) (pa_cons (pe_op op_fdivB (pe_ix ix_tup (pv 3) pe_int (fun _ _ => rfl)) pe_int) pa_nil)))) (pe_own h_next (hr.mono (by decide)) pass0 (pa_cons (pv 1) (pa_cons pe_int pa_nil))) (fun _ _ => rfl))) (pe_ix ix_tup (pv 3) pe_int (fun _ _ => rfl))))
 (pss_one (ps_for PassesOwn.never rfl (pi_list (pe_lst (pa_cons (pv 3) (pa_cons (pe_tup (pa_cons (pv 4) (pa_cons (pe_ix ix_tup (pv 3) pe_int (fun _ _ => rfl)) (pa_cons (pe_ix ix_tup (pv 3) pe_int (fun _ _ => rfl)) pa_nil)))) (pa_cons (pe_tup (pa_cons (pv 4) (pa_cons (pe_op op_mod pe_int (pe_ix ix_tup (pv 3) pe_int (fun _ _ => rfl))) (pa_cons (pe_ix ix_tup (pv 3) pe_int (fun _ _ => rfl)) pa_nil)))) pa_nil))))) (pg_name (i := 5) sc_law.nd rfl (.inl rfl)) (pss_cons (ps_set (i := 6) sc_law.nd rfl (.inl rfl) (pe_own h_by_clauses (hr.mono (by decide)) pass0 (pa_cons (pv 5) pa_nil)))
 (pss_cons (ps_if (PW.pt (pw_and (pt_cmpR op_le (pe_ix ix_tup (pv 5) pe_int (fun _ _ => rfl)) pe_int (nomark _)) (pw_and1 (pt_cmpR op_ne (pv 6) (pe_own h_goes_round (hr.mono (by decide)) pass0 (pa_cons (pv 5) pa_nil)) (nomark _))))) (pss_one (ps_ret pe_bl)) pss_nil)
 (pss_cons (ps_set (i := 7) sc_law.nd rfl (.inl rfl) (pe_own h_is_one_round (hr.mono (by decide)) pass0 (pa_cons (pv 5) pa_nil)))
 (pss_one (ps_if (PW.pt (pw_or (pt_not (pt_val (pe_callB (id := "isinstance") call_isA (by rfl) z_isinstance (by decide +kernel) (pa_cons (pv 7) (pa_cons (pe_bltn (v := .ty "bool") (by rfl) z_bool (by decide +kernel) rfl) pa_nil))))) (pw_or (pt_cmpR op_ne (pv 7) (pv 6) (nomark _)) (pw_or1 (pt_cmpR op_ne (pe_own h_is_one_round (hr.mono (by decide)) pass0 (pa_cons (pv 5) pa_nil)) (pv 6) (nomark _)))))) (pss_one (ps_ret pe_bl)) pss_nil))))))))))
 (pss_cons (ps_set (i := 8) sc_law.nd rfl (.inl rfl) (pe_tup (pa_cons (pe_op op_add (pe_op op_mulB (pe_op op_pow pe_int pe_int) pe_int) pe_int) (pa_cons pe_int (pa_cons (pe_op op_pow pe_int pe_int) pa_nil)))))
 (pss_one (ps_ret (pe_and (pe_cmpR op_isBl (pe_own h_is_one_round (hr.mono (by decide)) pass0 (pa_cons (pe_tup (pa_cons pe_int (pa_cons pe_int (pa_cons pe_int pa_nil)))) pa_nil)) pe_bl (nomark _)) (pe_and (pe_cmpR op_isBl (pe_own h_is_one_round (hr.mono (by decide)) pass0 (pa_cons (pe_tup (pa_cons pe_int (pa_cons pe_int (pa_cons pe_int pa_nil)))) pa_nil)) pe_bl (nomark _)) (pe_one (pe_cmpR op_isBl (pe_own h_is_one_round (hr.mono (by decide)) pass0 (pa_cons (pv 8) pa_nil)) pe_bl (nomark _)))))))))), ?_⟩
  refine ⟨_, rfl, _, rfl, sa, xs, rfl, hS, fun H1 d s1 nd D1 => ?_⟩
  refine ⟨14, rfl, by decide, by decide, for_range (lo := 0) (n := 14) (fun i σ H' => ∃ (y2 y3 y4 y5 y6 y7 : Option V), σ = [some (.ref sa), some (.ref d), y2, y3, y4, y5, y6, y7, none] ∧ Deck H' d (200 * i)) ⟨none, none, none, none, none, none, rfl, D1⟩ ?_ ?_⟩
  · rintro i σ H2 hi ⟨y2, y3, y4, y5, y6, y7, rfl, D2⟩
    refine ⟨_, rfl, _, _, rfl, rfl, ⟨by decide, by decide, by decide⟩, by show 2 ≤ sizeLine; decide, fun l nl => ?_⟩
    have s2 := same_new (o := .lst [.int 2000, .int (10 ^ (12 : Int).toNat)]) nl
    have ir := mod_bd (0 + (i : Int)) (show (0 : Int) < 2 by decide)
    obtain ⟨mo, hmo, emo⟩ := at_ints (ns := [2000, 10 ^ (12 : Int).toNat]) ir.1 (by show _ < (2 : Int); exact ir.2)
    have mr : 100 ≤ mo ∧ mo ≤ 1000000000000 := by
      have z12 : (10 : Int) ^ (12 : Int).toNat = 1000000000000 := by decide
      rw [z12] at hmo
      simp only [List.mem_cons, List.not_mem_nil, or_false] at hmo
      rcases hmo with rfl | rfl <;> omega
    refine ⟨_, rfl, _, _, rfl, rfl, (by show (0 : Int) < 2; decide), l, _, _, _, rfl, rfl, SqL.of upd_same, emo, ?_⟩
    refine ⟨_, _, rfl, d, 200 * i, mo, rfl, rfl, mr.1, mr.2, D2.same s2, by omega, fun H3 r t p b B3 D3 nr hr3 R bM => ?_⟩
    have b0 := R.b1
    have b2 := R.b2
    have t0 := R.t0
    have t1 := R.t1
    have p0 := R.p0
    have p1 := R.p1
    have bp : 0 < b := by omega
    -- times
    refine ⟨_, rfl, r, _, 0, .int t, rfl, rfl, SqT.of hr3, rfl, _, rfl, r, _, 2, .int b, rfl, rfl, SqT.of hr3, rfl, _, _, rfl, rfl, ⟨by decide, by decide⟩, _, rfl, r, _, 2, .int b, rfl, rfl, SqT.of hr3, rfl, _, _, rfl, rfl, ⟨by decide, by decide⟩, by show 3 ≤ sizeLine; decide, fun l2 nl2 => ?_⟩
    have s3 := same_new (o := .lst [.int 0, .int (b / 2), .int (b / 4)]) nl2
    refine ⟨_, rfl, _, _, rfl, d, 200 * i + 60, 3, rfl, rfl, by decide, by decide, D3.same s3, by omega, fun H4 v B4 D4 v0 v1 => ?_⟩
    have hl4 : H4 l2 = some (.lst [.int 0, .int (b / 2), .int (b / 4)]) := B4 _ _ (D3.ne nl2) upd_same
    have hr4 : H4 r = some (.tup [.int t, .int p, .int b]) := B4 _ _ ((D3.same s3).ne_tup (s3 _ _ hr3)) (s3 _ _ hr3)
    obtain ⟨x, hx, ex⟩ := at_ints (ns := [0, b / 2, b / 4]) v0 (by show v < 3; exact v1)
    refine ⟨l2, _, v, _, rfl, rfl, SqL.of hl4, ex, _, _, rfl, rfl, _, rfl, r, _, 2, .int b, rfl, rfl, SqT.of hr4, rfl, _, _, rfl, rfl, bp, ?_⟩
    have tr := mod_bd (t + x) bp
    have o1 := mod_bd 1 bp
    -- the three rules
    refine ⟨_, rfl, _, rfl, _, rfl, r, _, 1, .int p, rfl, rfl, SqT.of hr4, rfl, _, rfl, r, _, 2, .int b, rfl, rfl, SqT.of hr4, rfl, by show 3 ≤ sizeLine; decide, fun a1 na1 => ?_⟩
    have u1 := same_new (o := .tup [.int ((t + x) % b), .int p, .int b]) na1
    have hr5 := u1 _ _ hr4
    refine ⟨_, rfl, _, rfl, r, _, 2, .int b, rfl, rfl, SqT.of hr5, rfl, _, _, rfl, rfl, bp, _, rfl, r, _, 2, .int b, rfl, rfl, SqT.of hr5, rfl, by show 3 ≤ sizeLine; decide, fun a2 na2 => ?_⟩
    have u2 := same_new (o := .tup [.int ((t + x) % b), .int (1 % b), .int b]) na2
    refine ⟨by show 3 ≤ sizeLine; decide, fun a3 na3 => ?_⟩
    have u3 := same_new (o := .lst [.ref r, .ref a1, .ref a2]) na3
    have k1 : (upd (upd (upd H4 a1 (.tup [.int ((t + x) % b), .int p, .int b])) a2 (.tup [.int ((t + x) % b), .int (1 % b), .int b])) a3 (.lst [.ref r, .ref a1, .ref a2])) r = some (.tup [.int t, .int p, .int b]) := u3 _ _ (u2 _ _ hr5)
    have k2 : (upd (upd (upd H4 a1 (.tup [.int ((t + x) % b), .int p, .int b])) a2 (.tup [.int ((t + x) % b), .int (1 % b), .int b])) a3 (.lst [.ref r, .ref a1, .ref a2])) a1 = some (.tup [.int ((t + x) % b), .int p, .int b]) := u3 _ _ (u2 _ _ upd_same)
    have k3 : (upd (upd (upd H4 a1 (.tup [.int ((t + x) % b), .int p, .int b])) a2 (.tup [.int ((t + x) % b), .int (1 % b), .int b])) a3 (.lst [.ref r, .ref a1, .ref a2])) a2 = some (.tup [.int ((t + x) % b), .int (1 % b), .int b]) := u3 _ _ upd_same
    have R2 : Rule ((t + x) % b) p b := ⟨b0, b2, tr.1, tr.2, p0, p1⟩
    have R3 : Rule ((t + x) % b) (1 % b) b := ⟨b0, b2, tr.1, tr.2, o1.1, o1.2⟩
    have D5 := D4.same (u1.trans (u2.trans u3))
    refine ⟨a3, rfl, ⟨_, SqL.of upd_same⟩, for_list (K := K) (a := a3) (xs := [.ref r, .ref a1, .ref a2]) (fun j σ H' => ∃ (y5 y6 y7 : Option V), σ = [some (.ref sa), some (.ref d), some (.int (0 + i)), some (.ref r), some (.int ((t + x) % b)), y5, y6, y7, none] ∧ Same (upd (upd (upd H4 a1 (.tup [.int ((t + x) % b), .int p, .int b])) a2 (.tup [.int ((t + x) % b), .int (1 % b), .int b])) a3 (.lst [.ref r, .ref a1, .ref a2])) H')
      ⟨y5, y6, y7, rfl, Same.refl _⟩ (fun j σ H' _ ⟨_, _, _, _, sm⟩ => SqL.of (sm _ _ upd_same)) ?_ ?_⟩
    · rintro j xv σ H5 hj ⟨z5, z6, z7, rfl, sm⟩
      obtain ⟨o, T, Pp, rfl, ho, Ro⟩ : ∃ (o : Addr) (T Pp : Int), xv = .ref o ∧ H5 o = some (.tup [.int T, .int Pp, .int b]) ∧ Rule T Pp b := by
        have := List.mem_of_getElem? hj
        simp only [List.mem_cons, List.not_mem_nil, or_false] at this
        rcases this with rfl | rfl | rfl
        · exact ⟨r, t, p, rfl, sm _ _ k1, R⟩
        · exact ⟨a1, _, _, rfl, sm _ _ k2, R2⟩
        · exact ⟨a2, _, _, rfl, sm _ _ k3, R3⟩
      refine ⟨_, rfl, _, rfl, o, T, Pp, b, rfl, SqT.of ho, Ro, fun due hdue => ?_⟩
      have rest : ∀ (σ' : L2.St), σ' = [some (.ref sa), some (.ref d), some (.int (0 + i)), some (.ref r), some (.int ((t + x) % b)), some (.ref o), some (.bl due), z7, none] → True := fun _ _ => trivial
      have tail : ∀ found : Bool, (found = true ↔ Cls T Pp b) → found = due := fun found hf => iff_eq hf hdue
      refine ⟨_, rfl, o, _, 2, .int b, rfl, rfl, SqT.of ho, rfl, _, _, rfl, rfl, _, rfl, ifD (fun l2000 => ?_) (fun l2000 => ifF rfl ?_)⟩
      · refine ⟨_, rfl, _, rfl, _, rfl, o, T, Pp, b, rfl, SqT.of ho, Ro, fun gr hgr => ?_⟩
        have eg : gr = due := iff_eq (hgr.trans (full_iff bp)) hdue
        subst eg
        refine ⟨rfl, _, rfl, ifF (by simp) ?_⟩
        refine ⟨_, rfl, _, rfl, o, T, Pp, b, rfl, SqT.of ho, Ro, fun fo hfo => ?_⟩
        have ef := tail fo hfo
        subst ef
        refine ⟨_, rfl, .inr ⟨_, _, _, _, true, rfl, .ty _, .base (.bl _), kit_ty (by decide +kernel), _, rfl, ifF rfl ?_⟩⟩
        refine ⟨_, rfl, _, rfl, rfl, _, rfl, ifF (by simp) ?_⟩
        refine ⟨_, rfl, _, rfl, o, T, Pp, b, rfl, SqT.of ho, Ro, fun fo2 hfo2 => ?_⟩
        have ef2 := tail fo2 hfo2
        subst ef2
        exact ⟨_, rfl, rfl, _, rfl, ifF (by simp) ⟨some (.ref o), some (.bl fo2), some (.bl fo2), rfl, sm⟩⟩
      · refine ⟨_, rfl, _, rfl, o, T, Pp, b, rfl, SqT.of ho, Ro, fun fo hfo => ?_⟩
        have ef := tail fo hfo
        subst ef
        refine ⟨_, rfl, .inr ⟨_, _, _, _, true, rfl, .ty _, .base (.bl _), kit_ty (by decide +kernel), _, rfl, ifF rfl ?_⟩⟩
        refine ⟨_, rfl, _, rfl, rfl, _, rfl, ifF (by simp) ?_⟩
        refine ⟨_, rfl, _, rfl, o, T, Pp, b, rfl, SqT.of ho, Ro, fun fo2 hfo2 => ?_⟩
        have ef2 := tail fo2 hfo2
        subst ef2
        exact ⟨_, rfl, rfl, _, rfl, ifF (by simp) ⟨some (.ref o), some (.bl fo2), some (.bl fo2), rfl, sm⟩⟩
    · rintro σ H5 ⟨z5, z6, z7, rfl, sm⟩
      exact ⟨some (.int (0 + i)), some (.ref r), some (.int ((t + x) % b)), z5, z6, z7, rfl, (D5.same sm).mono (by omega)⟩
  · rintro σ H2 ⟨y2, y3, y4, y5, y6, y7, rfl, D2⟩
    refine ⟨_, _, rfl, rfl, ⟨by decide, by decide, by decide⟩, _, _, rfl, rfl, ⟨show Big 1048576 from ⟨by decide, by decide⟩, show Big 4 from ⟨by decide, by decide⟩⟩, _, _, rfl, rfl, _, _, rfl, rfl, ⟨by decide, by decide, by decide⟩, by show 3 ≤ sizeLine; decide, fun ag nag => ?_⟩
    have hg : (upd H2 ag (.tup [.int (2 ^ (20 : Int).toNat * 4 + 1), .int 3, .int (2 ^ (39 : Int).toNat)])) ag = some (.tup [.int 4194305, .int 3, .int 549755813888]) := by
      rw [upd_same, show (2 : Int) ^ (20 : Int).toNat * 4 + 1 = 4194305 by decide, show (2 : Int) ^ (39 : Int).toNat = 549755813888 by decide]
    refine ⟨by show 3 ≤ sizeLine; decide, fun a na => ?_⟩
    have w1 := same_new (o := .tup [.int 0, .int 0, .int 1]) na
    refine ⟨_, rfl, a, 0, 0, 1, rfl, SqT.of upd_same, ⟨by decide, by decide, by decide, by decide, by decide, by decide⟩, fun b1 hb1 => ?_⟩
    have e1 : b1 = true := hb1.mpr ⟨by decide, fun q hq hd => by
      have := Int.le_of_dvd (by decide) hd
      have := hq.1
      omega, fun h => absurd (Int.le_of_dvd (by decide) h) (by decide)⟩
    subst e1
    refine ⟨_, _, rfl, rfl, _, rfl, ifT rfl ?_⟩
    refine ⟨by show 3 ≤ sizeLine; decide, fun a2 na2 => ?_⟩
    have w2 := same_new (o := .tup [.int 3, .int 1, .int 4]) na2
    refine ⟨_, rfl, a2, 3, 1, 4, rfl, SqT.of upd_same, ⟨by decide, by decide, by decide, by decide, by decide, by decide⟩, fun b2 hb2 => ?_⟩
    have e2 : b2 = false := by
      cases b2 with
      | false => rfl
      | true =>
        obtain ⟨c, hc⟩ := (hb2.mp rfl).2.2 ⟨1, rfl⟩
        omega
    subst e2
    refine ⟨_, _, rfl, rfl, _, rfl, ifT rfl ?_⟩
    refine ⟨_, rfl, _, rfl, ag, 4194305, 3, 549755813888, rfl, SqT.of (w2 _ _ (w1 _ _ hg)), ⟨by decide, by decide, by decide, by decide, by decide, by decide⟩, fun b3 hb3 => ?_⟩
    have e3 : b3 = true := hb3.mpr cls_great
    subst e3
    exact ⟨_, _, rfl, rfl, q _⟩
end
end Tw


namespace Tw
open PySem PySem.Spec PyProof.Rows L2

def spLaw (K : PySem.W.Frag) : Sp := sp1 fun a H Q _ => ∃ (sa : Addr) (xs : List Int), a = .ref sa ∧ SqL K H sa (xs.map V.int) ∧ ∀ H', Q (.bl true) H'
theorem all_mk {l : PySem.W.OpenLaw} {w : World} {K : PySem.W.Frag} {h : Heap} {mg : Str → Option Value} {fa f0 f1 f2 f3 f4 f5 f6 f7 f8 f9 f10 f11 : Addr} (X : K.In h) (G : h.Ns mainGlobals mg) (hfa : mg "law" = some (.ref fa))
    {oc0 kV0 dc0 pm0 cd0 ct0 : Value} {od0 an0 : Option Addr} {sl0 : Array (Option Value)}
    {oc1 kV1 dc1 pm1 cd1 ct1 : Value} {od1 an1 : Option Addr} {sl1 : Array (Option Value)}
    {oc2 kV2 dc2 pm2 cd2 ct2 : Value} {od2 an2 : Option Addr} {sl2 : Array (Option Value)}
    {oc3 kV3 dc3 pm3 cd3 ct3 : Value} {od3 an3 : Option Addr} {sl3 : Array (Option Value)}
    {oc4 kV4 dc4 pm4 cd4 ct4 : Value} {od4 an4 : Option Addr} {sl4 : Array (Option Value)}
    {oc5 kV5 dc5 pm5 cd5 ct5 : Value} {od5 an5 : Option Addr} {sl5 : Array (Option Value)}
    {oc6 kV6 dc6 pm6 cd6 ct6 : Value} {od6 an6 : Option Addr} {sl6 : Array (Option Value)}
    {oc7 kV7 dc7 pm7 cd7 ct7 : Value} {od7 an7 : Option Addr} {sl7 : Array (Option Value)}
    {oc8 kV8 dc8 pm8 cd8 ct8 : Value} {od8 an8 : Option Addr} {sl8 : Array (Option Value)}
    {oc9 kV9 dc9 pm9 cd9 ct9 : Value} {od9 an9 : Option Addr} {sl9 : Array (Option Value)}
    {oc10 kV10 dc10 pm10 cd10 ct10 : Value} {od10 an10 : Option Addr} {sl10 : Array (Option Value)}
    {oc11 kV11 dc11 pm11 cd11 ct11 : Value} {od11 an11 : Option Addr} {sl11 : Array (Option Value)}
    (a0 : PySem.W.nsIn K mainGlobals "_law_mix" = some (some (.ref f0)))
    (l0 : K.lookup f0 = some ⟨oc0, od0, .func (PySem.W.fnOf "_law_mix" "_law_mix" (defArgs s_mix) (defBody s_mix) (defScope s_mix) .none kV0 dc0 pm0 an0 cd0 ct0), sl0⟩)
    (c0 : PySem.W.codeIn K cd0 "_law_mix" = true)
    (k0 : PySem.W.keepIn K (.ref f0) = true)
    (a1 : PySem.W.nsIn K mainGlobals "_law_deck" = some (some (.ref f1)))
    (l1 : K.lookup f1 = some ⟨oc1, od1, .func (PySem.W.fnOf "_law_deck" "_law_deck" (defArgs s_deck) (defBody s_deck) (defScope s_deck) .none kV1 dc1 pm1 an1 cd1 ct1), sl1⟩)
    (c1 : PySem.W.codeIn K cd1 "_law_deck" = true)
    (k1 : PySem.W.keepIn K (.ref f1) = true)
    (a2 : PySem.W.nsIn K mainGlobals "_law_next" = some (some (.ref f2)))
    (l2 : K.lookup f2 = some ⟨oc2, od2, .func (PySem.W.fnOf "_law_next" "_law_next" (defArgs s_next) (defBody s_next) (defScope s_next) .none kV2 dc2 pm2 an2 cd2 ct2), sl2⟩)
    (c2 : PySem.W.codeIn K cd2 "_law_next" = true)
    (k2 : PySem.W.keepIn K (.ref f2) = true)
    (a3 : PySem.W.nsIn K mainGlobals "_law_great" = some (some (.ref f3)))
    (l3 : K.lookup f3 = some ⟨oc3, od3, .func (PySem.W.fnOf "_law_great" "_law_great" (defArgs s_great) (defBody s_great) (defScope s_great) .none kV3 dc3 pm3 an3 cd3 ct3), sl3⟩)
    (c3 : PySem.W.codeIn K cd3 "_law_great" = true)
    (k3 : PySem.W.keepIn K (.ref f3) = true)
    (a4 : PySem.W.nsIn K mainGlobals "_law_bound" = some (some (.ref f4)))
    (l4 : K.lookup f4 = some ⟨oc4, od4, .func (PySem.W.fnOf "_law_bound" "_law_bound" (defArgs s_bound) (defBody s_bound) (defScope s_bound) .none kV4 dc4 pm4 an4 cd4 ct4), sl4⟩)
    (c4 : PySem.W.codeIn K cd4 "_law_bound" = true)
    (k4 : PySem.W.keepIn K (.ref f4) = true)
    (a5 : PySem.W.nsIn K mainGlobals "_law_rule" = some (some (.ref f5)))
    (l5 : K.lookup f5 = some ⟨oc5, od5, .func (PySem.W.fnOf "_law_rule" "_law_rule" (defArgs s_rule) (defBody s_rule) (defScope s_rule) .none kV5 dc5 pm5 an5 cd5 ct5), sl5⟩)
    (c5 : PySem.W.codeIn K cd5 "_law_rule" = true)
    (k5 : PySem.W.keepIn K (.ref f5) = true)
    (a6 : PySem.W.nsIn K mainGlobals "common_divisor" = some (some (.ref f6)))
    (l6 : K.lookup f6 = some ⟨oc6, od6, .func (PySem.W.fnOf "common_divisor" "common_divisor" (defArgs s_common_divisor) (defBody s_common_divisor) (defScope s_common_divisor) .none kV6 dc6 pm6 an6 cd6 ct6), sl6⟩)
    (c6 : PySem.W.codeIn K cd6 "common_divisor" = true)
    (k6 : PySem.W.keepIn K (.ref f6) = true)
    (a7 : PySem.W.nsIn K mainGlobals "has_each_prime_of" = some (some (.ref f7)))
    (l7 : K.lookup f7 = some ⟨oc7, od7, .func (PySem.W.fnOf "has_each_prime_of" "has_each_prime_of" (defArgs s_has_each_prime_of) (defBody s_has_each_prime_of) (defScope s_has_each_prime_of) .none kV7 dc7 pm7 an7 cd7 ct7), sl7⟩)
    (c7 : PySem.W.codeIn K cd7 "has_each_prime_of" = true)
    (k7 : PySem.W.keepIn K (.ref f7) = true)
    (a8 : PySem.W.nsIn K mainGlobals "is_one_round" = some (some (.ref f8)))
    (l8 : K.lookup f8 = some ⟨oc8, od8, .func (PySem.W.fnOf "is_one_round" "is_one_round" (defArgs s_is_one_round) (defBody s_is_one_round) (defScope s_is_one_round) .none kV8 dc8 pm8 an8 cd8 ct8), sl8⟩)
    (c8 : PySem.W.codeIn K cd8 "is_one_round" = true)
    (k8 : PySem.W.keepIn K (.ref f8) = true)
    (a9 : PySem.W.nsIn K mainGlobals "_law_goes_round" = some (some (.ref f9)))
    (l9 : K.lookup f9 = some ⟨oc9, od9, .func (PySem.W.fnOf "_law_goes_round" "_law_goes_round" (defArgs s_goes_round) (defBody s_goes_round) (defScope s_goes_round) .none kV9 dc9 pm9 an9 cd9 ct9), sl9⟩)
    (c9 : PySem.W.codeIn K cd9 "_law_goes_round" = true)
    (k9 : PySem.W.keepIn K (.ref f9) = true)
    (a10 : PySem.W.nsIn K mainGlobals "_law_by_clauses" = some (some (.ref f10)))
    (l10 : K.lookup f10 = some ⟨oc10, od10, .func (PySem.W.fnOf "_law_by_clauses" "_law_by_clauses" (defArgs s_by_clauses) (defBody s_by_clauses) (defScope s_by_clauses) .none kV10 dc10 pm10 an10 cd10 ct10), sl10⟩)
    (c10 : PySem.W.codeIn K cd10 "_law_by_clauses" = true)
    (k10 : PySem.W.keepIn K (.ref f10) = true)
    (a11 : PySem.W.nsIn K mainGlobals "law" = some (some (.ref f11)))
    (l11 : K.lookup f11 = some ⟨oc11, od11, .func (PySem.W.fnOf "law" "law" (defArgs s_law) (defBody s_law) (defScope s_law) .none kV11 dc11 pm11 an11 cd11 ct11), sl11⟩)
    (c11 : PySem.W.codeIn K cd11 "law" = true)
    (k11 : PySem.W.keepIn K (.ref f11) = true)
    (y_sum : PySem.W.nsIn K mainGlobals "sum" = some none)
    (y_len : PySem.W.nsIn K mainGlobals "len" = some none)
    (y_range : PySem.W.nsIn K mainGlobals "range" = some none)
    (y_isinstance : PySem.W.nsIn K mainGlobals "isinstance" = some none)
    (y_bool : PySem.W.nsIn K mainGlobals "bool" = some none) :
    ∃ fd : FuncData, (∀ (s : Shared) (v : Value), BindsTo s fd ⟨[v], []⟩ [("script", v)]) ∧ ∀ base : Heap, K.In base → base.Ns mainGlobals mg → FnOk l.prog w K mg base CX0 8 fa fd ["script"] (spLaw K) := by
  have e := hfa.symm.trans (PySem.W.mg_of X G a11)
  cases e
  have T_mix : Top K mg "_law_mix" s_mix ["cell", "k"] := top_mk X G a0 l0 c0 k0 fun _ _ _ _ _ _ us hl => match us, hl with | [_, _], _ => rfl
  have T_deck : Top K mg "_law_deck" s_deck ["script"] := top_mk X G a1 l1 c1 k1 fun _ _ _ _ _ _ us hl => match us, hl with | [_], _ => rfl
  have T_next : Top K mg "_law_next" s_next ["deck", "many"] := top_mk X G a2 l2 c2 k2 fun _ _ _ _ _ _ us hl => match us, hl with | [_, _], _ => rfl
  have T_great : Top K mg "_law_great" s_great ["deck", "most"] := top_mk X G a3 l3 c3 k3 fun _ _ _ _ _ _ us hl => match us, hl with | [_, _], _ => rfl
  have T_bound : Top K mg "_law_bound" s_bound ["deck", "most"] := top_mk X G a4 l4 c4 k4 fun _ _ _ _ _ _ us hl => match us, hl with | [_, _], _ => rfl
  have T_rule : Top K mg "_law_rule" s_rule ["deck", "most"] := top_mk X G a5 l5 c5 k5 fun _ _ _ _ _ _ us hl => match us, hl with | [_, _], _ => rfl
  have T_common_divisor : Top K mg "common_divisor" s_common_divisor ["one", "other"] := top_mk X G a6 l6 c6 k6 fun _ _ _ _ _ _ us hl => match us, hl with | [_, _], _ => rfl
  have T_has_each_prime_of : Top K mg "has_each_prime_of" s_has_each_prime_of ["bound", "number"] := top_mk X G a7 l7 c7 k7 fun _ _ _ _ _ _ us hl => match us, hl with | [_, _], _ => rfl
  have T_is_one_round : Top K mg "is_one_round" s_is_one_round ["rule"] := top_mk X G a8 l8 c8 k8 fun _ _ _ _ _ _ us hl => match us, hl with | [_], _ => rfl
  have T_goes_round : Top K mg "_law_goes_round" s_goes_round ["rule"] := top_mk X G a9 l9 c9 k9 fun _ _ _ _ _ _ us hl => match us, hl with | [_], _ => rfl
  have T_by_clauses : Top K mg "_law_by_clauses" s_by_clauses ["rule"] := top_mk X G a10 l10 c10 k10 fun _ _ _ _ _ _ us hl => match us, hl with | [_], _ => rfl
  have T_law : Top K mg "law" s_law ["script"] := top_mk X G a11 l11 c11 k11 fun _ _ _ _ _ _ us hl => match us, hl with | [_], _ => rfl
  have z_sum := PySem.W.mg_none_of X G y_sum
  have z_len := PySem.W.mg_none_of X G y_len
  have z_range := PySem.W.mg_none_of X G y_range
  have z_isinstance := PySem.W.mg_none_of X G y_isinstance
  have z_bool := PySem.W.mg_none_of X G y_bool
  refine ⟨PySem.W.fnOf "law" "law" (defArgs s_law) (defBody s_law) (defScope s_law) .none kV11 dc11 pm11 an11 cd11 ct11, fun s v => .of_eq rfl, fun base _ _ => ?_⟩
  have FL := fun_mk (st := s_law) l11 c11 k11

  have o_mix := ok_mix (P := l.prog) (w := w) (base := base) T_mix
  have o_next := ok_next T_next o_mix z_len
  have o_great := ok_great T_great o_next
  have o_bound := ok_bound T_bound o_next o_great z_len z_range
  have o_rule := ok_rule T_rule o_next o_great o_bound
  have o_gcd := ok_common_divisor (P := l.prog) (w := w) (base := base) T_common_divisor
  exact ok_law FL (ok_deck T_deck z_sum) o_rule o_next (ok_by_clauses T_by_clauses z_range) (ok_goes_round T_goes_round z_range) (ok_is_one_round T_is_one_round o_gcd (ok_has_each T_has_each_prime_of o_gcd)) z_range z_isinstance z_bool
end Tw
open PySem PySem.W PyProof.Rows
set_option maxHeartbeats 0 in
theorem PySem.Challenge.cw_timesrow_k09_all_in_one_round_holds : PySem.Challenge.rw_timesrow_k09_all_in_one_round.Holds := by
  w_on; o_law; k_head; (case hw => w_witness2)
  k_fill
  refine L2.walk_of (l := PySem.Challenge.rw_timesrow_k09_all_in_one_round) (n := 63) (k := 8) (x := "script") (CX := fun _ => L2.CX0) (sp := fun w => Tw.spLaw _) rfl (by decide) rfl ⟨rfl, by decide, by decide⟩ (fun w h Y => PySem.W.kIn_of Y) ?F (fun _ _ a ns hl _ hS => ⟨_, rfl, a, ns, rfl, hS, fun _ => rfl⟩) (fun _ _ _ _ _ h => h)
  case F =>
    intro w mg fa h KX G hmg
    refine' Tw.all_mk KX G hmg ?a0 ?l0 ?c0 ?k0 ?a1 ?l1 ?c1 ?k1 ?a2 ?l2 ?c2 ?k2 ?a3 ?l3 ?c3 ?k3 ?a4 ?l4 ?c4 ?k4 ?a5 ?l5 ?c5 ?k5 ?a6 ?l6 ?c6 ?k6 ?a7 ?l7 ?c7 ?k7 ?a8 ?l8 ?c8 ?k8 ?a9 ?l9 ?c9 ?k9 ?a10 ?l10 ?c10 ?k10 ?a11 ?l11 ?c11 ?k11 ?y_sum ?y_len ?y_range ?y_isinstance ?y_bool
    (case a0 => first | k_is | rfl | k_exc)
    (case l0 => first | k_is | rfl | k_exc)
    (case c0 => first | k_is | rfl | k_exc)
    (case k0 => first | k_is | rfl | k_exc)
    (case a1 => first | k_is | rfl | k_exc)
    (case l1 => first | k_is | rfl | k_exc)
    (case c1 => first | k_is | rfl | k_exc)
    (case k1 => first | k_is | rfl | k_exc)
    (case a2 => first | k_is | rfl | k_exc)
    (case l2 => first | k_is | rfl | k_exc)
    (case c2 => first | k_is | rfl | k_exc)
    (case k2 => first | k_is | rfl | k_exc)
    (case a3 => first | k_is | rfl | k_exc)
    (case l3 => first | k_is | rfl | k_exc)
    (case c3 => first | k_is | rfl | k_exc)
    (case k3 => first | k_is | rfl | k_exc)
    (case a4 => first | k_is | rfl | k_exc)
    (case l4 => first | k_is | rfl | k_exc)
    (case c4 => first | k_is | rfl | k_exc)
    (case k4 => first | k_is | rfl | k_exc)
    (case a5 => first | k_is | rfl | k_exc)
    (case l5 => first | k_is | rfl | k_exc)
    (case c5 => first | k_is | rfl | k_exc)
    (case k5 => first | k_is | rfl | k_exc)
    (case a6 => first | k_is | rfl | k_exc)
    (case l6 => first | k_is | rfl | k_exc)
    (case c6 => first | k_is | rfl | k_exc)
    (case k6 => first | k_is | rfl | k_exc)
    (case a7 => first | k_is | rfl | k_exc)
    (case l7 => first | k_is | rfl | k_exc)
    (case c7 => first | k_is | rfl | k_exc)
    (case k7 => first | k_is | rfl | k_exc)
    (case a8 => first | k_is | rfl | k_exc)
    (case l8 => first | k_is | rfl | k_exc)
    (case c8 => first | k_is | rfl | k_exc)
    (case k8 => first | k_is | rfl | k_exc)
    (case a9 => first | k_is | rfl | k_exc)
    (case l9 => first | k_is | rfl | k_exc)
    (case c9 => first | k_is | rfl | k_exc)
    (case k9 => first | k_is | rfl | k_exc)
    (case a10 => first | k_is | rfl | k_exc)
    (case l10 => first | k_is | rfl | k_exc)
    (case c10 => first | k_is | rfl | k_exc)
    (case k10 => first | k_is | rfl | k_exc)
    (case a11 => first | k_is | rfl | k_exc)
    (case l11 => first | k_is | rfl | k_exc)
    (case c11 => first | k_is | rfl | k_exc)
    (case k11 => first | k_is | rfl | k_exc)
    (case y_sum => first | k_is | rfl | k_exc)
    (case y_len => first | k_is | rfl | k_exc)
    (case y_range => first | k_is | rfl | k_exc)
    (case y_isinstance => first | k_is | rfl | k_exc)
    (case y_bool => first | k_is | rfl | k_exc)

