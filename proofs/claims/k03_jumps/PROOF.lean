import PyProof.Rows.All
import Wide.All
import OpenK.AllK
import Wide.FinOn
import PyProof.EqAt
import PyProof.EqKinds
import PyProof.TupleCall
import KE.KExcIs
import HandS.ForMost
import HandS.ForExc
import HandS.ExcInit
import HandS.ExcField
import HandS.IsInst
import HandS.ClsMeth
import HandS.Wide
import HandS.SetFor
import HandS.Codes
import HandS.NoneIn
import PySem.Challenge.RW_timesrow_k03_jumps
set_option Elab.async false
set_option linter.all false
set_option maxRecDepth 100000
set_option maxHeartbeats 4000000
/-! Own rules over the hand layer: a caught exception kept as a value, its class asked, its field read; the base's own initialiser reached through an own class; products and quotients by plain bounds. -/
namespace Tw
open PySem PySem.Spec PyProof.Rows L2

/-! ### an exception held as a value -/
def exv (a : Addr) (cls : Value) (d : Option Addr) : HO := .ext fun h => ∃ (oe : Obj) (vs : Array Value), h.get? a = some oe ∧ Zc cls d oe ∧ oe.data = .fields vs
theorem exv_ok {P : Program} {w : World} {H : Hp} {h : Heap} {a : Addr} {cls : Value} {d : Option Addr} {oe : Obj} {vs : Array Value} (he : h.get? a = some oe) (hz : Zc cls d oe) (hd : oe.data = .fields vs) : ObjOk P w H h a (exv a cls d) :=
  ⟨⟨oe, vs, he, hz, hd⟩, ⟨oe, he⟩, fun _ _ z k => by
    obtain ⟨o, v, e, q⟩ := z
    exact ⟨o, v, k _ e, q⟩⟩
theorem exv_at {P : Program} {w : World} {H : Hp} {h : Heap} {a : Addr} {cls : Value} {d : Option Addr} (hok : HOk P w H h) (he : H a = some (exv a cls d)) : ∃ (oe : Obj) (vs : Array Value), h.get? a = some oe ∧ Zc cls d oe ∧ oe.data = .fields vs := by
  have x : ObjOk P w H h a (.ext fun h => ∃ (oe : Obj) (vs : Array Value), h.get? a = some oe ∧ Zc cls d oe ∧ oe.data = .fields vs) := hok a _ he
  exact x.1
section
variable {X : Cx} {pins : List (Addr × Obj)} {σ : L2.St} {H : Hp} {s : Shared}
/-- an object of ours that was not tracked is tracked from here on -/
theorem track {a : Addr} {o : HO} (I : Inv X pins σ H s) (na : H a = none) (h0 : ∀ ob, X.s_0.heap.get? a = some ob → X.H_0 a = none → a ∉ X.ex → False) (hL : a ≠ X.env.locals)
    (hc : ∀ x c, X.env.cells.lookup x = some c → c ≠ a) (hp : ∀ p ∈ X.pn ++ pins, p.1 ≠ a) (new : ObjOk X.prog X.w (upd H a o) s.heap a o) : Inv X pins σ (upd H a o) s := by
  have ne : ∀ {b : Addr} {u : HO}, H b = some u → b ≠ a := fun {b u} e => ne_of_none e na
  refine ⟨I.ok, I.os, I.bare, ⟨I.base.keep, I.base.slot, fun b ob e n hx => ?_, I.base.there, fun b xs e => ?_, fun b ob u e => ?_, fun b ps e => ?_⟩, I.loc, I.cell, ?_, fun x c e => ?_, fun p q => ?_, fun b u e => ?_, I.len⟩
  · have nb : b ≠ a := fun z => h0 ob (z ▸ e) (z ▸ n) (z ▸ hx)
    rw [upd_ne nb]
    exact I.base.free b ob e n hx
  · have q := I.base.tups b xs e
    rw [upd_ne (ne q)]
    exact q
  · have q := I.base.frzs b ob u e
    rw [upd_ne (ne q)]
    exact q
  · obtain ⟨more, q⟩ := I.base.tbls b ps e
    exact ⟨more, by rw [upd_ne (ne q)]; exact q⟩
  · rw [upd_ne (Ne.symm hL)]
    exact I.free
  · rw [upd_ne (hc x c e)]
    exact I.freeC x c e
  · obtain ⟨e, n, l, f, d⟩ := I.pin p q
    exact ⟨e, by rw [upd_ne (hp p q)]; exact n, l, f, d⟩
  · by_cases hb : b = a
    · subst hb
      rw [upd_same] at e
      cases e
      exact new
    · rw [upd_ne hb] at e
      exact (I.hok b u e).stay (fun _ _ _ q => q) (fun c q => by rw [upd_ne (ne q)]; exact q) (fun c xs q => by rw [upd_ne (ne q)]; exact q)
/-- into an except suite and out of it: nothing more is pinned there than was before -/
theorem toSuite (I : Inv X pins σ H s) (a : Addr) : Inv (X.suite a (X.pn ++ pins)) [] σ H s :=
  { ok := I.ok.suite _ _, os := I.os, bare := I.bare, base := I.base, loc := I.loc, cell := I.cell, free := I.free, freeC := I.freeC, hok := I.hok, len := I.len
    pin := fun p hp => I.pin p ((List.append_nil (X.pn ++ pins)) ▸ hp) }
theorem ofSuite {a : Addr} {more : List (Addr × Obj)} (I : Inv (X.suite a (X.pn ++ pins)) more σ H s) (ok : X.Ok) : Inv X pins σ H s :=
  { ok := ok, os := I.os, bare := I.bare, base := I.base, loc := I.loc, cell := I.cell, free := I.free, freeC := I.freeC, hok := I.hok, len := I.len
    pin := fun p hp => I.pin p (List.mem_append_left more hp) }
/-- no frame is a record -/
theorem rec_noframe {h B : Heap} {l : List Env} {a : Addr} {o : Obj} {vs : Array Value} (ff : h.FunFrames B l) (e : h.get? a = some o) (dd : o.data = .fields vs) : a ∉ frs l := fun hm => by
  obtain ⟨_, o2, e2, nf⟩ := ff.mem hm
  have z := Option.some.inj (e.symm.trans e2)
  subst z
  exact nf vs dd
/-- an address that the ground does not know is younger than the def's entry, and is not pinned -/
theorem young {B : Heap} {a : Addr} (J : Inv X pins σ H s) (gr : ∀ b o, s.heap.get? b = some o → b ∉ frs X.stack → B.get? b = some o) (hB : B.get? a = none) (nS : a ∉ frs X.stack) (nF : a ∉ X.fs) :
    (∀ ob, X.s_0.heap.get? a = some ob → X.H_0 a = none → a ∉ X.ex → False) ∧ ∀ p ∈ X.pn ++ pins, p.1 ≠ a := by
  constructor
  · intro ob e n hx
    have z := gr a ob (J.base.keep a ob e n nF hx) nS
    rw [hB] at z
    cases z
  · intro p hp z
    obtain ⟨e, _, l, f, _⟩ := J.pin p hp
    have y := gr p.1 p.2 e (fun hm => (List.mem_cons.mp (J.stkSub p.1 hm)).elim l f)
    rw [z, hB] at y
    cases y
end
/-- what the clause wishes of an exception of the body: the clause takes it; it is held, and stays held behind the suite -/
def wKeep (K : PySem.W.Frag) (c : Value) (i : Nat) (ts : TS) (D : Ends) : WX := fun cls d σ H =>
  PySem.W.exmOne K cls c = some true ∧ ∀ a, H a = none → ts { nx := fun σ1 H1 => D.nx (σ1.set i none) H1, rt := D.rt, bk := fun σ1 H1 => D.bk (σ1.set i none) H1, ct := fun σ1 H1 => D.ct (σ1.set i none) H1 } (σ.set i (some (.ref a))) (upd H a (exv a cls d))
section
variable {X : Cx} {x n : Str} {c : Value} {i : Nat} {body suite : List Stmt} {b0 : Stmt} {np pos pos' : Pos} {tb : WX → TS} {ts : TS}
/-- the clause's name is looked up while the exception is handled -/
theorem clause_name {pins : List (Addr × Obj)} {σ : L2.St} {H : Hp} {s : Shared} {a : Addr} {Q : Value → Shared → Prop} {E : Value → Shared → Prop} (hc : Names X x c) (I : Inv X pins σ H s) (q : Q c s) :
    wpAny (model X.prog X.w) (X.A.mark (some (.ref a))) (eval (.Name x np) X.env) Q E s := by
  have J := toSuite I a
  obtain ⟨g, nd, m | ⟨m, v, nn⟩⟩ := hc
  · exact ld_glob (X := X.suite a (X.pn ++ pins)) J g m q nd
  · exact ld_blt (X := X.suite a (X.pn ++ pins)) J g m v q nn nd
/-- behind the suite: the name goes, and the way goes on as it would -/
theorem suite_done {pins : List (Addr × Obj)} {a : Addr} {D : Ends} {fl : Flow} {s : Shared} (ok : X.Ok) (hN : X.N.Nodup) (hi : X.N[i]? = some n) (hln : X.env.kindOf n = some .local)
    (h : SP (X.suite a (X.pn ++ pins)) [] { nx := fun σ1 H1 => D.nx (σ1.set i none) H1, rt := D.rt, bk := fun σ1 H1 => D.bk (σ1.set i none) H1, ct := fun σ1 H1 => D.ct (σ1.set i none) H1 } fl s) :
    wpAny (model X.prog X.w) X.A (do bindName X.env n .none; unbindBehindTheSuite X.env n pos') (fun _ s7 => SP X pins D fl s7) X.xe s := by
  cases fl with
  | next => obtain ⟨_, _, S, q⟩ := h; exact gone_ok (ofSuite S ok) hN hi hln fun _ J => ⟨_, _, J, q⟩
  | brk => obtain ⟨_, _, S, q⟩ := h; exact gone_ok (ofSuite S ok) hN hi hln fun _ J => ⟨_, _, J, q⟩
  | cont => obtain ⟨_, _, S, q⟩ := h; exact gone_ok (ofSuite S ok) hN hi hln fun _ J => ⟨_, _, J, q⟩
  | ret u => obtain ⟨_, _, _, S, r, q⟩ := h; exact gone_ok (ofSuite S ok) hN hi hln fun _ J => ⟨_, _, _, J, r, q⟩
/-- an exception in the air of the try's body, met by the clause -/
theorem met {pins : List (Addr × Obj)} {xe : Value → Shared → Prop} {D : Ends} {u : Value} {s1 : Shared} (ok : X.Ok) (hs : X.stack = X.env :: X.outer) (hf : X.env.frame = some X.env.locals) (hN : X.N.Nodup) (hi : X.N[i]? = some n) (hln : X.env.kindOf n = some .local) (hc : Names X x c)
    (hsu : ∀ (a : Addr) (pn : List (Addr × Obj)), PSs (X.suite a pn) (b0 :: suite) ts) (air : XE (X.tr (X.pn ++ pins) xe) (wKeep X.K c i ts D) u s1) :
    wpAny (model X.prog X.w) X.A (noteFrame u X.env) (fun _ s2 => wpAny (model X.prog X.w) X.A (setFlight u none) (fun _ s3 =>
      wpAny (model X.prog X.w) X.A (handleBy u X.env [.ExceptHandler (some (.Name x np)) (some n) (b0 :: suite) pos']) (SP X pins D) X.xe s3) X.xe s2) X.xe s1 := by
  obtain ⟨a, B, sI, _, σ1, H1, cls, d, rfl, J0, gr, up, sky, na, os, ag, xm, yes⟩ := air
  have J : Inv X pins σ1 H1 sI := J0.ofTry ok
  have top : X.A.frames = some (X.env :: X.outer) := ok.frames.trans (congrArg some hs)
  have sky1 : Sky B (X.env :: X.outer) a (Zc cls d) X.env.locals s1.heap := hs ▸ sky
  refine Sky.land Zc.steady top hf sky1 fun h3 fly3 up3 => ?_
  have J3 : Inv X pins σ1 H1 { s1 with heap := h3 } := J.landed gr fly3.1 (up.trans up3) os ag
  obtain ⟨oe3, vs3, at3, z3, d3⟩ := fly3.there
  have nfr : a ∉ frs (X.env :: X.outer) := rec_noframe fly3.2.2.1 at3 d3
  have nS : a ∉ frs X.stack := hs ▸ nfr
  have nL : a ≠ X.env.locals := fun z => nfr (List.mem_filterMap.mpr ⟨X.env, List.mem_cons_self, by rw [hf, z]⟩)
  have nF : a ∉ X.fs := fun hm => let ⟨e, he, q⟩ := List.mem_filterMap.mp hm; nfr (List.mem_filterMap.mpr ⟨e, List.mem_cons_of_mem _ he, q⟩)
  have TY : PySem.W.Looks (model X.prog X.w) h3 (typeOf (.ref a)) cls := fun _ _ _ _ k q => wpAny_typeOf_ref (k _ _ at3) (z3.1.symm ▸ q)
  refine wpAny_handleBy_cons (codeAny_handlers_test (clause_name hc J3 ((PySem.W.exm_one (M := model X.prog X.w) J3.kIn TY xm).here ?_))) (fun q => by cases q)
  refine codeAny_handlers_suite_as (HandSPX.lands_againZ fly3 fun h4 fly4 up4 => ?_)
  have J4 : Inv X pins σ1 H1 { s1 with heap := h4 } := J.landed gr fly4.1 ((up.trans up3).trans up4) os ag
  obtain ⟨oe, vs, at4, z4, d4⟩ := fly4.there
  obtain ⟨y1, y2⟩ := young J gr fly4.2.1 nS nF
  have ncell : ∀ y cc, X.env.cells.lookup y = some cc → cc ≠ a := fun y cc e z => by
    obtain ⟨_, oc, hoc, hdc⟩ := J4.cell y cc e
    subst z
    have w1 : oe = oc := Option.some.inj (at4.symm.trans hoc)
    rw [← w1, d4] at hdc
    cases hdc
  have J5 := toSuite (track (o := exv a cls d) J4 na y1 nL ncell y2 (exv_ok at4 z4 d4)) a
  refine store_ok (X := X.suite a (X.pn ++ pins)) (v := .ref a) J5 hN hi (.inl hln) rfl (fun s5 S5 => ?_) (.inr hln)
  exact wpAny_mono ((hsu a (X.pn ++ pins)).run [] s5 _ _ _ S5 (yes a na)) (fun fl s6 h6 => suite_done ok hN hi hln h6) (fun _ _ z => z.elim)
theorem ps_try_keep (hs : X.stack = X.env :: X.outer) (hf : X.env.frame = some X.env.locals) (hN : X.N.Nodup) (hi : X.N[i]? = some n) (hln : X.env.kindOf n = some .local) (hc : Names X x c)
    (hb : ∀ (W : WX) (pn : List (Addr × Obj)) (xe : Value → Shared → Prop), Takes (X.tr pn xe) W → PassesOwn (model X.prog X.w) X.A X.env xe → PSs (X.tr pn xe) body (tb W))
    (hsu : ∀ (a : Addr) (pn : List (Addr × Obj)), PSs (X.suite a pn) (b0 :: suite) ts) :
    PS X (.Try body [.ExceptHandler (some (.Name x np)) (some n) (b0 :: suite) pos'] [] [] pos) (fun D σ H => tb (wKeep X.K c i ts D) D σ H) := by
  refine ⟨fun pins s σ H D I h => wpAny_Try_except ?_⟩
  have ok := I.ok
  refine wpAny_mono ((hb _ (X.pn ++ pins) _ (fun u s1 air => met ok hs hf hN hi hln hc hsu air) PassesOwn.looking).run [] s σ H D (I.toTry _) h) (fun fl s1 r => ?_) (fun _ _ q => q)
  cases fl with
  | next => obtain ⟨_, _, J, q⟩ := r; exact wpAny_execs_nil ⟨_, _, J.ofTry ok, q⟩
  | brk => obtain ⟨_, _, J, q⟩ := r; exact ⟨_, _, J.ofTry ok, q⟩
  | cont => obtain ⟨_, _, J, q⟩ := r; exact ⟨_, _, J.ofTry ok, q⟩
  | ret u => obtain ⟨_, _, _, J, v, q⟩ := r; exact ⟨_, _, _, J.ofTry ok, v, q⟩
end

/-! ### isinstance of a held exception -/
/-- what is asked of an own exception class -/
structure XcC (K : PySem.W.Frag) (D : Addr) : Prop where
  hc : PySem.W.isClsIn K D = true
  hg : PySem.W.findIn K (.ref D) "__getattribute__" = some (some (.builtin "BaseException.__getattribute__"))
  hk : PySem.W.findIn K (.ref D) "__getattr__" = some none
  hs : PySem.W.subIn K (.ref D) (.type "BaseException") = some true
  hd : PySem.W.hasDictIn K D = true
  ha : PySem.W.findIn K (.ref D) "__class__" = some (some (.builtin "object.__class__"))
  hn : PySem.W.specialIn K (.builtin "object.__class__") "__get__" = some (some (.builtin "getset_descriptor.__get__"))
  ht : PySem.W.takesIn K (.builtin "object.__class__") = some true
  hm : PySem.W.mroIn K D (.type "object") = some true
section
variable {X : Cx} {pins : List (Addr × Obj)} {σ : L2.St} {H : Hp} {s : Shared}
/-- a held exception, its dict as the heap tells it -/
def HasD (H : Hp) (d : Option Addr) : Prop := ∀ dx, d = some dx → ∃ fs, H dx = some (.xd fs)
theorem inst_of {a D : Addr} {d : Option Addr} (I : Inv X pins σ H s) (e : H a = some (exv a (.ref D) d)) (hd : HasD H d) : ∃ oe od, PySem.W.InstAt s.heap a oe D od := by
  obtain ⟨oe, vs, he, hz, hv⟩ := exv_at I.hok e
  have nc : PySem.W.notCls oe = true := by unfold PySem.W.notCls; rw [hv] <;> rfl
  cases d with
  | none => exact ⟨oe, none, he, hz.1, nc, by rw [hz.2]; trivial⟩
  | some dx =>
    obtain ⟨fs, ed⟩ := hd dx rfl
    have hx : ObjOk X.prog X.w H s.heap dx (.xd fs) := I.hok dx _ ed
    obtain ⟨mA, hns, hr⟩ := hx
    obtain ⟨od, ho, hl⟩ := lookIn_ns hns
    exact ⟨oe, some od, he, hz.1, nc, by rw [hz.2]; exact ho⟩
end
/-- isinstance(e, c), e a held exception of the class at D -/
def rIsX (K : PySem.W.Frag) : List V → Hp → VK → Prop := fun xs H Q => ∃ (a D : Addr) (d : Option Addr) (c : V) (u : Value) (b : Bool), xs = [.ref a, c] ∧ ClsV c u ∧ H a = some (exv a (.ref D) d) ∧ HasD H d ∧ XcC K D ∧ PySem.W.kitOne K (.ref D) u = some b ∧ Q (.bl b) H
theorem call_isX {X : Cx} : CallR X (.builtin "isinstance") (rIsX X.K) := by
  intro pins s σ H xs us Q I r h
  obtain ⟨a, D, d, c, u, b, rfl, k, ea, hd, T, e, q⟩ := h
  obtain ⟨u1, u2, rfl, r1, r2⟩ := vals2 r
  cases (show u1 = Value.ref a from r1)
  have e2 := k.eq r2
  subst e2
  obtain ⟨oe, od, J⟩ := inst_of I ea hd
  exact PySem.W.kia_one (PySem.W.kitx_exc T.hc T.hg T.hk T.hs T.ha T.hn T.ht T.hm) I.kIn J e (fun z => nomatch z) fun tk => ⟨.bl b, H, I.tok tk, rfl, q⟩
/-- both: a held exception, or anything that the layer knows -/
def rIsA (K : PySem.W.Frag) : List V → Hp → VK → Prop := fun xs H Q => rIsX K xs H Q ∨ rIsi K xs H Q
theorem call_isA {X : Cx} : CallR X (.builtin "isinstance") (rIsA X.K) := by
  intro pins s σ H xs us Q I r h
  rcases h with h | h
  · exact call_isX pins s σ H xs us Q I r h
  · exact call_isi pins s σ H xs us Q I r h

/-! ### a field of a held exception -/
def tXv (K : PySem.W.Frag) (f : Str) (te : TE) : TE := fun σ H Q => te σ H fun x H1 => ∃ (a C dd : Addr) (fs : List (Str × V)) (v : V), x = .ref a ∧ H1 a = some (exv a (.ref C) (some dd)) ∧ XcC K C ∧ PySem.W.findIn K (.ref C) f = some none ∧ H1 dd = some (.xd fs) ∧ fs.lookup f = some v ∧ Q v H1
theorem pe_xv {X : Cx} {e : Expr} {te : TE} {pos : Pos} {n : Str} (he : PE X e te) (hb : attributeBase e n X.env (eval e X.env) = eval e X.env := by rfl) : PE X (.Attribute e n pos) (tXv X.K n te) := by
  refine ⟨fun pins s σ H Q I h => ?_⟩
  refine attr_of hb (thn (he.run pins s σ H _ I h) fun u s1 hh => ?_)
  obtain ⟨x, H1, I1, rx, a, C, dd, fs, v, ex, ea, T, hno, ed, l, q⟩ := hh
  subst ex
  obtain rfl : u = Value.ref a := rx
  obtain ⟨oe, vs, ha, hz, hd⟩ := exv_at I1.hok ea
  have hx : ObjOk X.prog X.w H1 s1.heap dd (.xd fs) := I1.hok dd _ ed
  obtain ⟨mA, hns, hr⟩ := hx
  obtain ⟨od, ho, hl⟩ := lookIn_ns hns
  obtain ⟨u, hu, ru⟩ := RelO.some_of (v := v) (o := mA n) (by rw [← l]; exact hr n)
  have J : PySem.W.InstAt s1.heap a oe C (some od) := ⟨ha, hz.1, by unfold PySem.W.notCls; rw [hd] <;> rfl, by rw [hz.2]; exact ho⟩
  exact HandSPX.exc_get I1.kIn J T.hg T.hk T.hs (PySem.W.findObj_own T.hd hno rfl (by rw [hl, hu])) (handed_of ru) ⟨v, H1, I1.tok _, ru, q⟩

/-! ### B.__init__(self, ..), B an own class over ValueError -/
theorem pe_ownInit {X : Cx} {B : Addr} {mc : Value} {x : Str} {e : Expr} {es : List Expr} {ta : TA} {p1 p2 pos : Pos} {pl : Sem Bool} (hg : Gl X x) (hm : X.mg x = some (.ref B)) (r : ClX.CRead X.K B mc)
    (k : PySem.W.findCls X.K (.ref B) mc "__init__" = some (.val (.builtin "ValueError.__init__"))) (ha : PA X (e :: es) ta)
    (hc : eval (.Call (.Attribute (.Name x p1) "__init__" p2) (e :: es) [] pos) X.env = (do
      let ov ← eval (.Name x p1) X.env
      standAt p2.atName
      let (f, first) ← holding [ov] (getMethod ov "__init__" pl)
      callWith pos f first (backTo pos (starEach (e :: es) X.env)) (backToKw pos (keywordEach [] X.env))) := by rfl)
    (he : starEach (e :: es) X.env = (false, eval e X.env) :: starEach es X.env := by rfl) (hpl : (backTo pos (starEach es X.env)).any (·.1) = false := by rfl) (hdb : (x == ("__debug__" : Str)) = false := by decide) :
    PE X (.Call (.Attribute (.Name x p1) "__init__" p2) (e :: es) [] pos) (tVeI X.K ta) := by
  refine ⟨fun pins s σ H Q I h => ?_⟩
  refine PySem.W.methodCall_KW (ld_glob I hg hm ?_ hdb) hc
  refine PySem.W.method_cls I.kIn r.ga (PySem.W.cls_value I.kIn r.rd k rfl ?_)
  show wpAny _ _ (callWith pos (Value.builtin "ValueError.__init__") [] (backTo pos (starEach (e :: es) X.env)) []) _ _ _
  refine PyProof.Rows.callWith_method1 (thn (ha.run pos pins _ σ H _ (I.tok _) h) fun us s1 ⟨vs, H1, I1, r1, a, C, ws, ev, hl, T, ea, q⟩ => ?_) he hpl
  subst ev
  cases r1 with
  | @cons _ u0 _ ur ra rw' =>
    obtain rfl : u0 = Value.ref a := ra
    have hlen : ur.length ≤ sizeLine := by
      rw [← Paired.length rw', sizeLine_eq]
      omega
    exact oinit_ok T I1 ea hlen fun s' J => ⟨.non, H1, J, rfl, q⟩

/-! ### products and quotients by plain bounds -/
def Big (i : Int) : Prop := -1000000000000000000000000000000000000000000 < i ∧ i < 1000000000000000000000000000000000000000000
theorem Big.abs {i : Int} (h : Big i) : i.natAbs < 2 ^ 140 := by
  obtain ⟨a, b⟩ := h
  have : (2 : Nat) ^ 140 = 1393796574908163946345982392040522594123776 := by decide
  rw [this]
  omega
def CMulB (i j : Int) : Prop := Big i ∧ Big j
def CDivB (_ j : Int) : Prop := 0 < j ∧ j < 1000000000000000000000000000000000000000000
theorem op_mulB {X : Cx} : OpR X (binaryOp .Mult) (rI CMulB fun i j => .int (i * j)) := by
  intro pins s σ H x y u v Q I r1 r2 h
  obtain ⟨i, j, e1, e2, hc, q⟩ := h
  exact op_mulW pins s σ H x y u v Q I r1 r2 ⟨i, j, e1, e2, wide_mul hc.1.abs hc.2.abs (by decide) (by decide) (by decide), q⟩
theorem op_fdivB {X : Cx} : OpR X (binaryOp .FloorDiv) (rI CDivB fun i j => .int (i / j)) := by
  intro pins s σ H x y u v Q I r1 r2 h
  obtain ⟨i, j, e1, e2, hc, q⟩ := h
  have hb : Big j := ⟨by have := hc.1; omega, hc.2⟩
  exact op_fdivW pins s σ H x y u v Q I r1 r2 ⟨i, j, e1, e2, wide_div hc.1 hb.abs (by decide) (by decide), q⟩
end Tw

/-! Short words: a def of the top, its promise, its call; readings. -/
namespace Tw
open PySem PySem.Spec PyProof.Rows L2

/-- a def of the text as the top has left it -/
def Top (K : PySem.W.Frag) (mg : Str → Option Value) (x : Str) (st : Stmt) (ps : List Str) : Prop :=
  ∃ (f : Addr) (fd : FuncData), Fun K x x st f fd ∧ mg x = some (.ref f) ∧ Binds K fd ps []
/-- a def that keeps its promise, ready to be called -/
def Lk (K : PySem.W.Frag) (f : Addr) (fd : FuncData) : Prop := ∃ (oc : Value) (od : Option Addr) (osl : Array (Option Value)), K.lookup f = some ⟨oc, od, .func fd, osl⟩
theorem Lk.eq {K : PySem.W.Frag} {f : Addr} {fd fe : FuncData} (a : Lk K f fd) (b : Lk K f fe) : fd = fe := by
  obtain ⟨oc, od, osl, e⟩ := a
  obtain ⟨oc', od', osl', e'⟩ := b
  rw [e] at e'
  cases e'
  rfl
theorem lk_of {K : PySem.W.Frag} {x q : Str} {st : Stmt} {f : Addr} {fd : FuncData} (F : Fun K x q st f fd) : Lk K f fd := by
  obtain ⟨oc, od, kV, doc, pm, an, cdv, ct, osl, _, lk, _⟩ := F.ex
  exact ⟨oc, od, osl, lk⟩
def Has (P : Program) (w : World) (K : PySem.W.Frag) (mg : Str → Option Value) (base : Heap) (CX : CXT) (k : Nat) (x : Str) (ps : List Str) (sp : Sp) : Prop :=
  ∃ (f : Addr) (fd : FuncData), FnOk P w K mg base CX k f fd ps sp ∧ mg x = some (.ref f) ∧ PySem.W.keepIn K (.ref f) = true ∧ Binds K fd ps [] ∧ Lk K f fd
theorem Has.mono {P : Program} {w : World} {K : PySem.W.Frag} {mg : Str → Option Value} {base : Heap} {CX : CXT} {j k : Nat} {x : Str} {ps : List Str} {sp : Sp} (h : Has P w K mg base CX j x ps sp) (l : j ≤ k) : Has P w K mg base CX k x ps sp := by
  obtain ⟨f, fd, F, g, kp, b, lk⟩ := h
  exact ⟨f, fd, F.mono l, g, kp, b, lk⟩
/-! promises by the number of arguments -/
def sp1 (p : V → Hp → VK → XK → Prop) : Sp := fun vs H Q E => ∃ a, vs = [a] ∧ p a H Q E
def sp2 (p : V → V → Hp → VK → XK → Prop) : Sp := fun vs H Q E => ∃ a b, vs = [a, b] ∧ p a b H Q E
def sp3 (p : V → V → V → Hp → VK → XK → Prop) : Sp := fun vs H Q E => ∃ a b c, vs = [a, b, c] ∧ p a b c H Q E
def sp4 (p : V → V → V → V → Hp → VK → XK → Prop) : Sp := fun vs H Q E => ∃ a b c d, vs = [a, b, c, d] ∧ p a b c d H Q E
section
variable {P : Program} {w : World} {K : PySem.W.Frag} {mg : Str → Option Value} {base : Heap} {x : Str} {st : Stmt} {N : List Str} {k : Nat}
theorem Top.ok {ps : List Str} {sp : Sp} (D : Top K mg x st ps) (S : FnScope N ps (defScope st)) (len : ∀ vs H Q E, sp vs H Q E → vs.length = ps.length)
    (hbody : ∀ (f : Addr) (cdv : Value) (A : Around) (outer : List Env) (s : Shared) (H : Hp) (vs : List V) (Q : VK) (E : XK), Room k (A.deeper (envOfC x (defScope st) s.heap.objs.size f cdv)) → sp vs H Q E →
      ∃ t, PSs (cxOf CX0 P w K mg base N x (defScope st) f cdv A outer s H E).nox (defBody st) t ∧ t { nx := fun _ H' => Q .non H', rt := Q } (start N vs) H) : Has P w K mg base CX0 (k + 1) x ps sp := by
  obtain ⟨f, fd, F, g, b⟩ := D
  exact ⟨f, fd, F.ok S len (fun cdv A outer s H vs Q E hr h => hbody f cdv A outer s H vs Q E hr h), g, F.kp, b, lk_of F⟩
theorem Top.okX {ps : List Str} {sp : Sp} (D : Top K mg x st ps) (S : FnScope N ps (defScope st)) (len : ∀ vs H Q E, sp vs H Q E → vs.length = ps.length)
    (hbody : ∀ (f : Addr) (cdv : Value) (A : Around) (outer : List Env) (s : Shared) (H : Hp) (vs : List V) (Q : VK) (E : XK), Room k (A.deeper (envOfC x (defScope st) s.heap.objs.size f cdv)) → sp vs H Q E →
      ∃ t, PSs (cxOf (L2.CX P w) P w K mg base N x (defScope st) f cdv A outer s H E) (defBody st) t ∧ t { nx := fun _ H' => Q .non H', rt := Q } (start N vs) H) : Has P w K mg base (L2.CX P w) (k + 1) x ps sp := by
  obtain ⟨f, fd, F, g, b⟩ := D
  exact ⟨f, fd, F.okX S len (fun cdv A outer s H vs Q E hr h => hbody f cdv A outer s H vs Q E hr h), g, F.kp, b, lk_of F⟩
theorem Top.ok1 {a : Str} {p : V → Hp → VK → XK → Prop} (D : Top K mg x st [a]) (S : FnScope N [a] (defScope st))
    (hbody : ∀ (f : Addr) (cdv : Value) (A : Around) (outer : List Env) (s : Shared) (H : Hp) (v1 : V) (Q : VK) (E : XK), Room k (A.deeper (envOfC x (defScope st) s.heap.objs.size f cdv)) → p v1 H Q E →
      ∃ t, PSs (cxOf CX0 P w K mg base N x (defScope st) f cdv A outer s H E).nox (defBody st) t ∧ t { nx := fun _ H' => Q .non H', rt := Q } (start N [v1]) H) : Has P w K mg base CX0 (k + 1) x [a] (sp1 p) :=
  D.ok S (fun vs H Q E h => by obtain ⟨_, rfl, _⟩ := h; rfl) (fun f cdv A outer s H vs Q E hr h => by obtain ⟨v1, rfl, h⟩ := h; exact hbody f cdv A outer s H v1 Q E hr h)
theorem Top.ok2 {a b : Str} {p : V → V → Hp → VK → XK → Prop} (D : Top K mg x st [a, b]) (S : FnScope N [a, b] (defScope st))
    (hbody : ∀ (f : Addr) (cdv : Value) (A : Around) (outer : List Env) (s : Shared) (H : Hp) (v1 v2 : V) (Q : VK) (E : XK), Room k (A.deeper (envOfC x (defScope st) s.heap.objs.size f cdv)) → p v1 v2 H Q E →
      ∃ t, PSs (cxOf CX0 P w K mg base N x (defScope st) f cdv A outer s H E).nox (defBody st) t ∧ t { nx := fun _ H' => Q .non H', rt := Q } (start N [v1, v2]) H) : Has P w K mg base CX0 (k + 1) x [a, b] (sp2 p) :=
  D.ok S (fun vs H Q E h => by obtain ⟨_, _, rfl, _⟩ := h; rfl) (fun f cdv A outer s H vs Q E hr h => by obtain ⟨v1, v2, rfl, h⟩ := h; exact hbody f cdv A outer s H v1 v2 Q E hr h)
theorem Top.ok3 {a b c : Str} {p : V → V → V → Hp → VK → XK → Prop} (D : Top K mg x st [a, b, c]) (S : FnScope N [a, b, c] (defScope st))
    (hbody : ∀ (f : Addr) (cdv : Value) (A : Around) (outer : List Env) (s : Shared) (H : Hp) (v1 v2 v3 : V) (Q : VK) (E : XK), Room k (A.deeper (envOfC x (defScope st) s.heap.objs.size f cdv)) → p v1 v2 v3 H Q E →
      ∃ t, PSs (cxOf CX0 P w K mg base N x (defScope st) f cdv A outer s H E).nox (defBody st) t ∧ t { nx := fun _ H' => Q .non H', rt := Q } (start N [v1, v2, v3]) H) : Has P w K mg base CX0 (k + 1) x [a, b, c] (sp3 p) :=
  D.ok S (fun vs H Q E h => by obtain ⟨_, _, _, rfl, _⟩ := h; rfl) (fun f cdv A outer s H vs Q E hr h => by obtain ⟨v1, v2, v3, rfl, h⟩ := h; exact hbody f cdv A outer s H v1 v2 v3 Q E hr h)
theorem Top.ok1X {a : Str} {p : V → Hp → VK → XK → Prop} (D : Top K mg x st [a]) (S : FnScope N [a] (defScope st))
    (hbody : ∀ (f : Addr) (cdv : Value) (A : Around) (outer : List Env) (s : Shared) (H : Hp) (v1 : V) (Q : VK) (E : XK), Room k (A.deeper (envOfC x (defScope st) s.heap.objs.size f cdv)) → p v1 H Q E →
      ∃ t, PSs (cxOf (L2.CX P w) P w K mg base N x (defScope st) f cdv A outer s H E) (defBody st) t ∧ t { nx := fun _ H' => Q .non H', rt := Q } (start N [v1]) H) : Has P w K mg base (L2.CX P w) (k + 1) x [a] (sp1 p) :=
  D.okX S (fun vs H Q E h => by obtain ⟨_, rfl, _⟩ := h; rfl) (fun f cdv A outer s H vs Q E hr h => by obtain ⟨v1, rfl, h⟩ := h; exact hbody f cdv A outer s H v1 Q E hr h)
theorem Top.ok2X {a b : Str} {p : V → V → Hp → VK → XK → Prop} (D : Top K mg x st [a, b]) (S : FnScope N [a, b] (defScope st))
    (hbody : ∀ (f : Addr) (cdv : Value) (A : Around) (outer : List Env) (s : Shared) (H : Hp) (v1 v2 : V) (Q : VK) (E : XK), Room k (A.deeper (envOfC x (defScope st) s.heap.objs.size f cdv)) → p v1 v2 H Q E →
      ∃ t, PSs (cxOf (L2.CX P w) P w K mg base N x (defScope st) f cdv A outer s H E) (defBody st) t ∧ t { nx := fun _ H' => Q .non H', rt := Q } (start N [v1, v2]) H) : Has P w K mg base (L2.CX P w) (k + 1) x [a, b] (sp2 p) :=
  D.okX S (fun vs H Q E h => by obtain ⟨_, _, rfl, _⟩ := h; rfl) (fun f cdv A outer s H vs Q E hr h => by obtain ⟨v1, v2, rfl, h⟩ := h; exact hbody f cdv A outer s H v1 v2 Q E hr h)
theorem Top.ok3X {a b c : Str} {p : V → V → V → Hp → VK → XK → Prop} (D : Top K mg x st [a, b, c]) (S : FnScope N [a, b, c] (defScope st))
    (hbody : ∀ (f : Addr) (cdv : Value) (A : Around) (outer : List Env) (s : Shared) (H : Hp) (v1 v2 v3 : V) (Q : VK) (E : XK), Room k (A.deeper (envOfC x (defScope st) s.heap.objs.size f cdv)) → p v1 v2 v3 H Q E →
      ∃ t, PSs (cxOf (L2.CX P w) P w K mg base N x (defScope st) f cdv A outer s H E) (defBody st) t ∧ t { nx := fun _ H' => Q .non H', rt := Q } (start N [v1, v2, v3]) H) : Has P w K mg base (L2.CX P w) (k + 1) x [a, b, c] (sp3 p) :=
  D.okX S (fun vs H Q E h => by obtain ⟨_, _, _, rfl, _⟩ := h; rfl) (fun f cdv A outer s H vs Q E hr h => by obtain ⟨v1, v2, v3, rfl, h⟩ := h; exact hbody f cdv A outer s H v1 v2 v3 Q E hr h)
end
section
variable {X : Cx} {CX : CXT} {k : Nat} {ps : List Str} {sp : Sp} {E : XK} {x : Str} {p pos : Pos} {e : Expr} {es : List Expr} {t : TA}
/-- f(e, ..): what may be raised is taken by E -/
theorem pe_own (h : Has X.prog X.w X.K X.mg X.base CX k x ps sp) (hr : Room k X.A) (hx : Passes CX X E) (ha : PA X (e :: es) t) (hg : Gl X x := by rfl)
    (hdb : (x == ("__debug__" : Str)) = false := by decide) (he : starEach (e :: es) X.env = (false, eval e X.env) :: starEach es X.env := by rfl) (hpl : (backTo pos (starEach es X.env)).any (·.1) = false := by rfl) :
    PE X (.Call (.Name x p) (e :: es) [] pos) (tCall sp [] E t) := by
  obtain ⟨f, fd, F, g, kp, b, _⟩ := h
  exact pe_call F hr hg g kp b .nil hx ha hdb he hpl
theorem pe_ownS {E : L2.St → XK} (h : Has X.prog X.w X.K X.mg X.base CX k x ps sp) (hr : Room k X.A) (hx : ∀ σ, PassesAt CX X σ (E σ)) (ha : PA X (e :: es) t) (hg : Gl X x := by rfl)
    (hdb : (x == ("__debug__" : Str)) = false := by decide) (he : starEach (e :: es) X.env = (false, eval e X.env) :: starEach es X.env := by rfl) (hpl : (backTo pos (starEach es X.env)).any (·.1) = false := by rfl) :
    PE X (.Call (.Name x p) (e :: es) [] pos) (tCallS sp E t) := by
  obtain ⟨f, fd, F, g, kp, b, _⟩ := h
  exact pe_callS F hr hg g kp b hx ha hdb he hpl
end
/-! ### tests -/
theorem ifD {p A B : Prop} [Decidable p] (h1 : p → A) (h2 : ¬ p → B) : if decide p = true then A else B := by
  by_cases h : p
  · rw [if_pos (decide_eq_true h)]; exact h1 h
  · rw [if_neg (by simp [h])]; exact h2 h
theorem ifN {p A B : Prop} [Decidable p] (h1 : ¬ p → A) (h2 : p → B) : if (!decide p) = true then A else B := by
  by_cases h : p
  · rw [if_neg (by simp [h])]; exact h2 h
  · rw [if_pos (by simp [h])]; exact h1 h
theorem ifI {i j : Int} {A B : Prop} (h1 : i = j → A) (h2 : i ≠ j → B) : if decide (V.int i = V.int j) = true then A else B := ifD (fun e => h1 (V.int.inj e)) (fun e => h2 fun z => e (by rw [z]))
theorem ifNI {i j : Int} {A B : Prop} (h1 : i ≠ j → A) (h2 : i = j → B) : if (!decide (V.int i = V.int j)) = true then A else B := ifN (fun e => h1 fun z => e (by rw [z])) (fun e => h2 (V.int.inj e))
theorem ifB {c : Bool} {A B : Prop} (h1 : c = true → A) (h2 : c = false → B) : if c = true then A else B := by
  cases c with
  | true => exact iteT (h1 rfl)
  | false => exact iteF (h2 rfl)
theorem ifT {c : Bool} {A B : Prop} (e : c = true) (h : A) : if c = true then A else B := by rw [if_pos e]; exact h
theorem ifF {c : Bool} {A B : Prop} (e : c = false) (h : B) : if c = true then A else B := by rw [e]; exact iteF h
/-! ### heaps -/
/-- the list at d begins with the object at c -/
def At (H : Hp) (d c : Addr) : Prop := ∃ r : List V, H d = some (.lst (.ref c :: r))
/-- all but what stands at d is as it was; a list at d keeps its first item -/
structure But (d : Addr) (H H' : Hp) : Prop where
  keep : ∀ b o, b ≠ d → H b = some o → H' b = some o
  hd : ∀ c, At H d c → At H' d c
instance {d : Addr} {H H' : Hp} : CoeFun (But d H H') (fun _ => ∀ b o, b ≠ d → H b = some o → H' b = some o) := ⟨But.keep⟩
theorem But.refl (d : Addr) (H : Hp) : But d H H := ⟨fun _ _ _ h => h, fun _ h => h⟩
theorem But.trans {d : Addr} {H H1 H2 : Hp} (a : But d H H1) (b : But d H1 H2) : But d H H2 := ⟨fun c o n h => b c o n (a c o n h), fun c h => b.hd c (a.hd c h)⟩
theorem _root_.L2.Same.but {d : Addr} {H H1 : Hp} (a : Same H H1) : But d H H1 := ⟨fun c o _ h => a c o h, fun c h => by
  obtain ⟨r, e⟩ := h
  exact ⟨r, a _ _ e⟩⟩
theorem same_new {H : Hp} {p : Addr} {o : HO} (h : H p = none) : Same H (upd H p o) := fun b x e => by
  rw [upd_ne (ne_of_none e h)]
  exact e
theorem same_mut {H H' : Hp} {p : Addr} {o : HO} (e : Same H H') (h : H p = none) : Same H (upd H' p o) := fun a u ha => by
  rw [upd_ne (ne_of_none ha h)]
  exact e a u ha
theorem but_mut {H H' : Hp} {d : Addr} {o : HO} (e : But d H H') (ho : ∀ c, At H' d c → ∃ r : List V, o = .lst (.ref c :: r)) : But d H (upd H' d o) := ⟨fun a u n ha => by
  rw [upd_ne n]
  exact e a u n ha, fun c h => by
  obtain ⟨r, z⟩ := ho c (e.hd c h)
  exact ⟨r, by rw [upd_same, z]⟩⟩
theorem but_mut2 {H H' : Hp} {d p : Addr} {o : HO} (e : But d H H') (h : H p = none) : But d H (upd H' p o) := ⟨fun a u n ha => by
  rw [upd_ne (ne_of_none ha h)]
  exact e a u n ha, fun c k => by
  obtain ⟨r, z⟩ := e.hd c k
  obtain ⟨_, y⟩ := k
  exact ⟨r, by rw [upd_ne (ne_of_none y h)]; exact z⟩⟩
theorem But.free {d : Addr} {H H' : Hp} (e : But d H H') {l : Addr} (n : l ≠ d) (h : H' l = none) : H l = none := by
  cases q : H l with
  | none => rfl
  | some o =>
    rw [e l o n q] at h
    cases h
theorem _root_.L2.Same.tup {K : PySem.W.Frag} {H H' : Hp} {a : Addr} {xs : List V} (e : Same H H') (h : SqT K H a xs) : SqT K H' a xs := by
  rcases h with (h | ⟨o, h⟩) | h
  · exact .inl (.inl (e _ _ h))
  · exact .inl (.inr ⟨o, e _ _ h⟩)
  · exact .inr h
theorem sz {n : Nat} (h : n ≤ 100000) : n ≤ sizeLine := Nat.le_trans h (by decide)
theorem szl {n : Nat} (h : n < 100000) : n < sizeLine := Nat.lt_of_lt_of_le h (by decide)
theorem szM {n : Nat} (h : n ≤ 1000000) : n < sizeLine := Nat.lt_of_le_of_lt h (by decide)
/-! ### arithmetic -/
theorem mul_bd {a b A B : Int} (ha : 0 ≤ a) (ha' : a ≤ A) (hb : 0 ≤ b) (hb' : b ≤ B) : 0 ≤ a * b ∧ a * b ≤ A * B :=
  ⟨Int.mul_nonneg ha hb, Int.mul_le_mul ha' hb' hb (Int.le_trans ha ha')⟩
theorem mod_bd (a : Int) {b : Int} (h : 0 < b) : 0 ≤ a % b ∧ a % b < b := ⟨Int.emod_nonneg a (by omega), Int.emod_lt_of_pos a h⟩
/-! ### xs.count(y), flat items -/
def rCntA (K : PySem.W.Frag) : V → List V → Hp → VK → Prop := fun x xs H Q => ∃ (p : Addr) (ys : List V) (y : V), x = .ref p ∧ xs = [y] ∧ SqL K H p ys ∧ flatV y = true ∧ ys.all flatV = true ∧ Q (.int (ys.countP (fun z => eqV z y) : Nat)) H
theorem countP_eqU {x : V} : ∀ {xs : List V} {us : List Value}, Vals xs us → xs.all flatV = true → us.countP (eqU x) = xs.countP fun y => eqV y x
  | _, _, .nil, _ => rfl
  | y :: xs, u :: us, .cons r t, f => by
    rw [List.all_cons, Bool.and_eq_true] at f
    rw [List.countP_cons, List.countP_cons, eqU_of r f.1, countP_eqU t f.2]
theorem mt_countA {X : Cx} : MtR X "list.count" (rCntA X.K) := by
  intro pins s σ H x xs v us Q I rx rxs h
  obtain ⟨p, ys, y, rfl, rfl, hs, fy, fs, q⟩ := h
  cases rx
  obtain ⟨u, rfl, ru⟩ := rxs.one
  obtain ⟨its, rv, ⟨⟨cls, dd, data, sl⟩, n, ho, hc, hdn, hd⟩, hlen⟩ := I.list hs
  simp only at hc hd
  subst hc hd
  refine call_meets PySem.F.slot_list_count ⟨_, ho, rfl⟩ PySem.F.entry_list_count (PySem.F.args_list_count_2 _ _)
    (SeqAt.list_countAt p its.toArray n dd sl u (eqU y)) ⟨ho, fun z hz => mem_eqAt ru fy rv fs z (by simpa using hz), ?_⟩
  have ec : its.toArray.toList.countP (eqU y) = ys.countP fun z => eqV z y := countP_eqU rv fs
  refine ⟨.int (ys.countP (fun z => eqV z y) : Nat), H, I.tok _, ⟨s.toks, ?_⟩, q⟩
  show Value.int ((its.toArray.toList.countP (eqU y) : Nat) : Int) s.toks = _
  rw [ec]
/-- while True -/
theorem pt_true {X : Cx} {j pos} : PT X (.Constant (.bool true) j pos) (fun _ H Q => Q true H) := by
  have h : PT X (.Constant (.bool true) j pos) (tB (tC (.bl true))) := pt_val pe_bl
  exact ⟨fun pins s σ H Q I q => h.run pins s σ H Q I ⟨true, rfl, q⟩⟩
/-- an item of a list of ints -/
theorem at_ints {ns : List Int} {v : Int} (h0 : 0 ≤ v) (h1 : v < ns.length) : ∃ x, x ∈ ns ∧ atI (ns.map V.int) v = some (.int x) := by
  obtain ⟨j, rfl⟩ := Int.eq_ofNat_of_zero_le h0
  have jl : j < ns.length := by omega
  refine ⟨ns[j], List.getElem_mem jl, atI_nat ?_⟩
  rw [List.getElem?_map, List.getElem?_eq_getElem jl]
  rfl
end Tw

/-! The draws: what each of the common defs promises. -/
namespace Tw
open PySem PySem.Spec PyProof.Rows L2

def pMix : V → V → Hp → VK → XK → Prop := fun a b H Q _ => ∃ c k : Int, a = .int c ∧ b = .int k ∧ 0 ≤ k ∧ k < 1000000000 ∧ ∀ v : Int, 0 ≤ v → Q (.int v) H
/-- a deck: its cells, where it stands, what is left of a great cell, how many were mixed, the sum -/
def Deck (H : Hp) (d : Addr) (n : Nat) : Prop := ∃ (c : Addr) (xs : List Int) (i r k t : Int), H d = some (.lst [.ref c, .int i, .int r, .int k, .int t]) ∧ H c = some (.lst (xs.map V.int)) ∧ c ≠ d ∧ xs.length ≤ 63 ∧ 0 ≤ i ∧ i ≤ (xs.length : Int) ∧ 0 ≤ r ∧ 0 ≤ k ∧ k ≤ (n : Int)
theorem Deck.mono {H : Hp} {d : Addr} {n m : Nat} (h : Deck H d n) (l : n ≤ m) : Deck H d m := by
  obtain ⟨c, xs, i, r, k, t, a1, a2, a3, a4, a5, a6, a7, a8, a9⟩ := h
  exact ⟨c, xs, i, r, k, t, a1, a2, a3, a4, a5, a6, a7, a8, by omega⟩
theorem Deck.same {H H' : Hp} {d : Addr} {n : Nat} (h : Deck H d n) (s : Same H H') : Deck H' d n := by
  obtain ⟨c, xs, i, r, k, t, a1, a2, a3⟩ := h
  exact ⟨c, xs, i, r, k, t, s _ _ a1, s _ _ a2, a3⟩
theorem Deck.ne {H : Hp} {d p : Addr} {n : Nat} (h : Deck H d n) (e : H p = none) : p ≠ d := by
  obtain ⟨c, xs, i, r, k, t, a1, _⟩ := h
  intro z
  rw [z, a1] at e
  cases e
theorem Deck.ne_tup {H : Hp} {d p : Addr} {n : Nat} {xs : List V} (h : Deck H d n) (e : H p = some (.tup xs)) : p ≠ d := by
  obtain ⟨c, xs, i, r, k, t, a1, _⟩ := h
  intro z
  rw [z, a1] at e
  cases e
theorem Deck.fresh {H H' : Hp} {d p : Addr} {n m : Nat} (h : Deck H d n) (h' : Deck H' d m) (b : But d H H') (e : H' p = none) : H p = none := b.free (h'.ne e) e
/-- a list that is none of the deck's -/
def Out (H : Hp) (d L : Addr) : Prop := L ≠ d ∧ ∀ c, At H d c → c ≠ L
theorem Deck.out {H : Hp} {d L : Addr} {n : Nat} {o : HO} (D : Deck H d n) (e : H L = none) : Out (upd H L o) d L := by
  obtain ⟨c, xs, i, r, k, t, a1, a2, a3⟩ := D
  have n1 : L ≠ d := fun z => by rw [z, a1] at e; cases e
  have n2 : c ≠ L := fun z => by rw [← z, a2] at e; cases e
  refine ⟨n1, fun c' h => ?_⟩
  obtain ⟨r', y⟩ := h
  rw [upd_ne (Ne.symm n1), a1] at y
  cases y
  exact n2
theorem Out.but {H H' : Hp} {d L : Addr} {n m : Nat} (h : Out H d L) (D : Deck H d n) (D' : Deck H' d m) (b : But d H H') : Out H' d L := by
  obtain ⟨c, xs, i, r, k, t, a1, a2, a3⟩ := D
  obtain ⟨r1, e1⟩ := b.hd c ⟨_, a1⟩
  refine ⟨h.1, fun c' hc => ?_⟩
  obtain ⟨r2, e2⟩ := hc
  rw [e1] at e2
  cases e2
  exact h.2 _ ⟨_, a1⟩
theorem Out.mut {H : Hp} {d L : Addr} {o : HO} (h : Out H d L) : Out (upd H L o) d L := ⟨h.1, fun c hc => h.2 c (by
  obtain ⟨r, e⟩ := hc
  rw [upd_ne (Ne.symm h.1)] at e
  exact ⟨r, e⟩)⟩
theorem Deck.mut {H : Hp} {d L : Addr} {n : Nat} {o : HO} (D : Deck H d n) (h : Out H d L) : Deck (upd H L o) d n := by
  obtain ⟨c, xs, i, r, k, t, a1, a2, a3⟩ := D
  exact ⟨c, xs, i, r, k, t, by rw [upd_ne (Ne.symm h.1)]; exact a1, by rw [upd_ne (h.2 c ⟨_, a1⟩)]; exact a2, a3⟩
def pDeck (K : PySem.W.Frag) : V → Hp → VK → XK → Prop := fun a H Q _ => ∃ (s : Addr) (xs : List Int), a = .ref s ∧ SqL K H s (xs.map V.int) ∧ ∀ H' d, Same H H' → H d = none → Deck H' d 0 → Q (.ref d) H'
/-- a draw below m -/
def pNext (c : Nat) : V → V → Hp → VK → XK → Prop := fun a b H Q _ => ∃ (d : Addr) (n : Nat) (m : Int), a = .ref d ∧ b = .int m ∧ 0 < m ∧ m < 1000000000000000000000000000000000000000000 ∧ Deck H d n ∧ n + c ≤ 100000000 ∧
  ∀ (H' : Hp) (v : Int), But d H H' → Deck H' d (n + c) → 0 ≤ v → v < m → Q (.int v) H'
/-- a bound -/
def pBound : V → V → Hp → VK → XK → Prop := fun a b H Q _ => ∃ (d : Addr) (n : Nat) (m : Int), a = .ref d ∧ b = .int m ∧ 100 ≤ m ∧ m ≤ 1000000000000 ∧ Deck H d n ∧ n < 90000000 ∧
  ∀ (H' : Hp) (v : Int), But d H H' → Deck H' d (n + 50) → 1 ≤ v → v ≤ m → Q (.int v) H'
/-- a rule (times, plus, bound), read at r -/
structure Rule (t p b : Int) : Prop where
  b1 : 1 ≤ b
  b2 : b ≤ 1000000000000
  t0 : 0 ≤ t
  t1 : t < b
  p0 : 0 ≤ p
  p1 : p < b
def pRule : V → V → Hp → VK → XK → Prop := fun a b H Q _ => ∃ (d : Addr) (n : Nat) (m : Int), a = .ref d ∧ b = .int m ∧ 100 ≤ m ∧ m ≤ 1000000000000 ∧ Deck H d n ∧ n < 80000000 ∧
  ∀ (H' : Hp) (r : Addr) (t p b : Int), But d H H' → Deck H' d (n + 60) → H r = none → H' r = some (.tup [.int t, .int p, .int b]) → Rule t p b → b ≤ m → Q (.ref r) H'
theorem cut_take (xs : List V) (n : Nat) : cutV xs none (some (n : Int)) = xs.take n := by
  unfold cutV
  rw [HT.sIx_none, HT.sIx_nat]
  show List.take (min n xs.length - 0) (List.drop 0 xs) = _
  rw [List.drop_zero, Nat.sub_zero]
  by_cases h : n ≤ xs.length
  · rw [Nat.min_eq_left h]
  · rw [Nat.min_eq_right (by omega), List.take_of_length_le (Nat.le_refl _), List.take_of_length_le (by omega)]
/-- the classes of the refusals as the top has left them -/
structure Err (K : PySem.W.Frag) (mg : Str → Option Value) (CR CA CB CF CN CU : Addr) : Prop where
  gR : mg "RowError" = some (.ref CR)
  gA : mg "NoAsk" = some (.ref CA)
  gB : mg "NoBack" = some (.ref CB)
  gF : mg "NoFit" = some (.ref CF)
  gN : mg "NoNumber" = some (.ref CN)
  gU : mg "NoRule" = some (.ref CU)
/-- an error's class against all: which of the five it is -/
structure Kit (K : PySem.W.Frag) (C CR CA CB CF CN CU : Addr) (a b f n u : Bool) : Prop where
  xc : XcC K C
  r : PySem.W.kitOne K (.ref C) (.ref CR) = some true
  v : PySem.W.kitOne K (.ref C) (.type "ValueError") = some true
  a : PySem.W.kitOne K (.ref C) (.ref CA) = some a
  b : PySem.W.kitOne K (.ref C) (.ref CB) = some b
  f : PySem.W.kitOne K (.ref C) (.ref CF) = some f
  n : PySem.W.kitOne K (.ref C) (.ref CN) = some n
  u : PySem.W.kitOne K (.ref C) (.ref CU) = some u
/-- a number that is none: kept by the error -/
def pKindN (CN : Addr) : V → Hp → VK → XK → Prop := fun a H Q _ => ∃ (e dd : Addr) (v : V), a = .ref e ∧ H e = some (exv e (.ref CN) (some dd)) ∧ H dd = some (.xd [("number", v)]) ∧
  ∀ H' p, Same H H' → H p = none → H' p = some (.tup [.str "number", v]) → Q (.ref p) H'
/-- a number that is none of a bound's -/
def pWrong : V → V → Hp → VK → XK → Prop := fun a b H Q _ => ∃ (d : Addr) (n : Nat) (m : Int), a = .ref d ∧ b = .int m ∧ 0 < m ∧ m ≤ 1000000000000 ∧ Deck H d n ∧ n + 4 ≤ 100000000 ∧
  ∀ (H' : Hp) (v : Int), But d H H' → Deck H' d (n + 4) → (v < 0 ∨ m ≤ v) → Q (.int v) H'
end Tw

/-! The program's steps and rounds: the mathematics of a walk, and the promises. -/
namespace Tw
open PySem PySem.Spec PyProof.Rows L2

/-! ### walks -/
def stp (t p m x : Int) : Int := (t * x + p) % m
theorem stp_rng {t p m : Int} (h : 0 < m) (x : Int) : 0 ≤ stp t p m x ∧ stp t p m x < m := mod_bd _ h
def wk (f : Int → Int) : Nat → List Int → Int → List Int × Int
  | 0, ws, x => (ws, x)
  | k + 1, ws, x => if x ∈ ws then (ws, x) else wk f k (ws ++ [x]) (f x)
theorem wk_in {f : Int → Int} {ws : List Int} {x : Int} (h : x ∈ ws) : ∀ k, wk f k ws x = (ws, x)
  | 0 => rfl
  | k + 1 => by unfold wk; rw [if_pos h]
theorem wk_out {f : Int → Int} {ws : List Int} {x : Int} (h : x ∉ ws) (k : Nat) : wk f (k + 1) ws x = wk f k (ws ++ [x]) (f x) := by
  conv => lhs; unfold wk
  rw [if_neg h]
theorem nat_len : ∀ (n : Nat) (l : List Nat), l.Nodup → (∀ x ∈ l, x < n) → l.length ≤ n
  | 0, l, _, h => by
    cases l with
    | nil => exact Nat.le_refl _
    | cons a r => exact absurd (h a List.mem_cons_self) (Nat.not_lt_zero _)
  | n + 1, l, nd, h => by
    by_cases hn : n ∈ l
    · have ih := nat_len n (l.erase n) (nd.erase n) (fun x hx => by
        obtain ⟨h1, h2⟩ := nd.mem_erase_iff.mp hx
        have := h x h2
        omega)
      rw [List.length_erase_of_mem hn] at ih
      omega
    · have ih := nat_len n l nd (fun x hx => by
        have := h x hx
        have : x ≠ n := fun e => hn (e ▸ hx)
        omega)
      omega
def Rng (m : Int) (ws : List Int) : Prop := ∀ x ∈ ws, 0 ≤ x ∧ x < m
theorem int_len {m : Int} {ws : List Int} (nd : ws.Nodup) (h : Rng m ws) : ws.length ≤ m.toNat := by
  have h1 : (ws.map Int.toNat).Nodup := by
    rw [List.nodup_iff_pairwise_ne] at nd ⊢
    rw [List.pairwise_map]
    refine List.Pairwise.imp_of_mem (fun {a b} ha hb hne => ?_) nd
    have := h a ha
    have := h b hb
    omega
  have := nat_len m.toNat (ws.map Int.toNat) h1 (fun x hx => by
    obtain ⟨y, hy, rfl⟩ := List.mem_map.mp hx
    have := h y hy
    omega)
  rw [List.length_map] at this
  exact this
theorem nodup_snoc {ws : List Int} {x : Int} (nd : ws.Nodup) (h : x ∉ ws) : (ws ++ [x]).Nodup := by
  rw [List.nodup_append]
  refine ⟨nd, by simp, fun a ha b hb => ?_⟩
  rw [List.mem_singleton] at hb
  subst hb
  exact fun e => h (e ▸ ha)
theorem rng_snoc {m : Int} {ws : List Int} {x : Int} (h : Rng m ws) (hx : 0 ≤ x ∧ x < m) : Rng m (ws ++ [x]) := fun y hy => by
  rcases List.mem_append.mp hy with hy | hy
  · exact h y hy
  · rw [List.mem_singleton.mp hy]; exact hx
theorem wk_good {t p m : Int} (m0 : 0 < m) : ∀ (k : Nat) (ws : List Int) (x : Int), ws.Nodup → Rng m ws → 0 ≤ x ∧ x < m → m.toNat + 1 ≤ k + ws.length →
    (wk (stp t p m) k ws x).1.Nodup ∧ Rng m (wk (stp t p m) k ws x).1 ∧ (wk (stp t p m) k ws x).2 ∈ (wk (stp t p m) k ws x).1
  | 0, ws, x, nd, rg, hx, hk => by
    have := int_len nd rg
    omega
  | k + 1, ws, x, nd, rg, hx, hk => by
    by_cases h : x ∈ ws
    · rw [wk_in h]
      exact ⟨nd, rg, h⟩
    · rw [wk_out h]
      exact wk_good m0 k (ws ++ [x]) (stp t p m x) (nodup_snoc nd h) (rng_snoc rg hx) (stp_rng m0 x) (by rw [List.length_append]; show m.toNat + 1 ≤ k + (ws.length + 1); omega)
/-! ### a dict of places -/
def enumD : Nat → List Int → List (Key × V)
  | _, [] => []
  | i, w :: ws => (Sum.inl w, V.int (i : Int)) :: enumD (i + 1) ws
theorem enumD_len : ∀ (i : Nat) (ws : List Int), (enumD i ws).length = ws.length
  | _, [] => rfl
  | i, w :: ws => by show (enumD (i + 1) ws).length + 1 = ws.length + 1; rw [enumD_len]
theorem enumD_snoc : ∀ (i : Nat) (ws : List Int) (x : Int), enumD i (ws ++ [x]) = enumD i ws ++ [(Sum.inl x, V.int ((i + ws.length : Nat) : Int))]
  | i, [], x => rfl
  | i, w :: ws, x => by
    show (Sum.inl w, V.int (i : Int)) :: enumD (i + 1) (ws ++ [x]) = (Sum.inl w, V.int (i : Int)) :: enumD (i + 1) ws ++ [(Sum.inl x, V.int ((i + (ws.length + 1) : Nat) : Int))]
    rw [enumD_snoc, show i + 1 + ws.length = i + (ws.length + 1) by omega]
    rfl
theorem enumD_none : ∀ (i : Nat) {ws : List Int} {x : Int}, x ∉ ws → valV (enumD i ws) (Sum.inl x) = none
  | _, [], _, _ => rfl
  | i, w :: ws, x, h => by
    show valV ((Sum.inl w, V.int (i : Int)) :: enumD (i + 1) ws) (Sum.inl x) = none
    rw [valV_neg (fun e => h (by rw [← Sum.inl.inj e]; exact List.mem_cons_self))]
    exact enumD_none (i + 1) (fun hm => h (List.mem_cons_of_mem _ hm))
theorem enumD_some : ∀ (i : Nat) {ws : List Int} {x : Int}, x ∈ ws → valV (enumD i ws) (Sum.inl x) = some (V.int ((i + ws.idxOf x : Nat) : Int))
  | i, w :: ws, x, h => by
    show valV ((Sum.inl w, V.int (i : Int)) :: enumD (i + 1) ws) (Sum.inl x) = _
    by_cases e : w = x
    · subst e
      rw [valV_pos rfl, List.idxOf_cons_self]
      rfl
    · have e2 : (w :: ws).idxOf x = ws.idxOf x + 1 := by
        rw [List.idxOf_cons]
        simp [beq_eq_false_iff_ne.mpr e]
      rw [valV_neg (fun z => e (Sum.inl.inj z)), e2, enumD_some (i + 1) ((List.mem_cons.mp h).resolve_left (fun z => e z.symm))]
      congr 2
      omega
theorem upd_self {H : Hp} {a : Addr} {o : HO} (h : H a = some o) : upd H a o = H := by
  funext b
  by_cases e : b = a
  · rw [e, upd_same, h]
  · rw [upd_ne e]
theorem sqT_upd {K : PySem.W.Frag} {H : Hp} {r a : Addr} {xs : List V} {o u : HO} (h : SqT K H r xs) (ha : H a = some u) (n1 : ∀ ys, u ≠ .tup ys) (n2 : ∀ ob v, u ≠ .frz ob v) : SqT K (upd H a o) r xs := by
  rcases h with (h | ⟨ob, h⟩) | h
  · refine .inl (.inl ?_)
    rw [upd_ne (fun e => n1 xs (by rw [e, ha] at h; exact Option.some.inj h))]
    exact h
  · refine .inl (.inr ⟨ob, ?_⟩)
    rw [upd_ne (fun e => n2 ob _ (by rw [e, ha] at h; exact Option.some.inj h))]
    exact h
  · exact .inr h
/-! ### refusals -/
/-- the error behind a number that is none: its own dict d, new -/
def Bad (CN : Addr) (n : Int) (H : Hp) (E : XK) : Prop := ∀ d, H d = none → E (.ref CN) (some d) (upd H d (.xd [("number", .int n)]))
theorem made_eq {H : Hp} {a d : Addr} {C : Addr} {fs : List (Str × V)} (na : H a = none) (nd : d ≠ a) :
    upd (L2.del (upd (upd (upd H a (exo a C none)) d (exd d fs)) a (exo a C (some d))) a) d (.xd fs) = upd H d (.xd fs) := by
  funext b
  by_cases hb : b = d
  · rw [hb, upd_same, upd_same]
  · rw [upd_ne hb, upd_ne hb]
    by_cases ha : b = a
    · rw [ha, del_same, na]
    · rw [del_ne ha, upd_ne ha, upd_ne hb, upd_ne ha]
def spInit (K : PySem.W.Frag) : Sp := sp2 fun x v H Q _ => ∃ (a C : Addr), x = .ref a ∧ OexC K C ∧ PySem.W.findIn K (.ref C) "number" = some none ∧ H a = some (exo a C none) ∧ ∀ d, H d = none → d ≠ a → Q .non (upd (upd H d (exd d [("number", v)])) a (exo a C (some d)))
def pWhole : V → Hp → VK → XK → Prop := fun a H Q _ => ∃ n : Int, a = .int n ∧ Q (.bl true) H
def pIsNum : V → V → Hp → VK → XK → Prop := fun a b H Q _ => ∃ n m : Int, a = .int n ∧ b = .int m ∧ Q (.bl (decide (0 ≤ n ∧ n < m))) H
def pCheck (CN : Addr) : V → V → Hp → VK → XK → Prop := fun a b H Q E => ∃ n m : Int, a = .int n ∧ b = .int m ∧ (0 ≤ n → n < m → Q .non H) ∧ (¬ (0 ≤ n ∧ n < m) → Bad CN n H E)
def pNextOf (K : PySem.W.Frag) (CN : Addr) : V → V → Hp → VK → XK → Prop := fun a b H Q E => ∃ (r : Addr) (t p m n : Int), a = .ref r ∧ b = .int n ∧ SqT K H r [.int t, .int p, .int m] ∧ Rule t p m ∧
  (0 ≤ n → n < m → Q (.int (stp t p m n)) H) ∧ (¬ (0 ≤ n ∧ n < m) → Bad CN n H E)
def pWalk (K : PySem.W.Frag) : V → V → V → Hp → VK → XK → Prop := fun a b c H Q _ => ∃ (r : Addr) (t p m s : Int) (l : Addr) (ws : List Int), a = .ref r ∧ b = .int s ∧ c = .ref l ∧ SqT K H r [.int t, .int p, .int m] ∧ Rule t p m ∧ m ≤ 1000000 ∧ 0 ≤ s ∧ s < m ∧
  H l = some (.dK (enumD 0 ws)) ∧ ws.Nodup ∧ Rng m ws ∧ Q (.int (wk (stp t p m) (m.toNat + 1 - ws.length) ws s).2) (upd H l (.dK (enumD 0 (wk (stp t p m) (m.toNat + 1 - ws.length) ws s).1)))
/-- tail and length -/
def rndW (t p m s : Int) : List Int × Int := wk (stp t p m) (m.toNat + 1) [] s
def rndT (t p m s : Int) : Int := (((rndW t p m s).1.idxOf (rndW t p m s).2 : Nat) : Int)
def rndL (t p m s : Int) : Int := ((rndW t p m s).1.length : Int) - rndT t p m s
def pRound (K : PySem.W.Frag) (CN : Addr) : V → V → Hp → VK → XK → Prop := fun a b H Q E => ∃ (r : Addr) (t p m s : Int), a = .ref r ∧ b = .int s ∧ SqT K H r [.int t, .int p, .int m] ∧ Rule t p m ∧ m ≤ 1000000 ∧
  (0 ≤ s → s < m → ∀ H' q, Same H H' → H q = none → H' q = some (.tup [.int (rndT t p m s), .int (rndL t p m s)]) → Q (.ref q) H') ∧ (¬ (0 ≤ s ∧ s < m) → Bad CN s H E)
def pRoundL (K : PySem.W.Frag) : V → V → Hp → VK → XK → Prop := fun a b H Q _ => ∃ (r : Addr) (t p m s : Int), a = .ref r ∧ b = .int s ∧ SqT K H r [.int t, .int p, .int m] ∧ Rule t p m ∧ m ≤ 1000000 ∧ 0 ≤ s ∧ s < m ∧
  ∀ H' q, Same H H' → H q = none → H' q = some (.tup [.int (rndT t p m s), .int (rndL t p m s)]) → Q (.ref q) H'
/-- a refusal that was asked for: True -/
def pRefR (K : PySem.W.Frag) : V → V → Hp → VK → XK → Prop := fun a b H Q _ => ∃ (r : Addr) (t p m n : Int), a = .ref r ∧ b = .int n ∧ SqT K H r [.int t, .int p, .int m] ∧ Rule t p m ∧ m ≤ 1000000 ∧ (n < 0 ∨ m ≤ n) ∧ ∀ H', Same H H' → Q (.bl true) H'
/-- data that are alike -/
theorem eqv_self {d : PyData} (h : SeqAt.shaped d = true) : PyData.eqv d d = true := SeqAt.eqv_refl d (SeqAt.canLay_of_shaped h)
theorem shp_sn (n : Int) : SeqAt.shaped (.tuple [.str "number", .int n]) = true := by
  have h : PyData.canLay0 (.str "number") = true := by decide +kernel
  show (PyData.canLay0 (.tuple [.str "number", .int n]) && decide (PyData.depth (.tuple [.str "number", .int n]) ≤ 64)) = true
  simp [PyData.canLay0, PyData.canLayAll0] at h ⊢
  exact ⟨h, of_decide_eq_true rfl⟩
theorem dp_ints {K : PySem.W.Frag} {H : Hp} : ∀ ns : List Int, DpAll K H (ns.map V.int) (ns.map PyData.int)
  | [] => .nil
  | n :: ns => .cons (.int n) (dp_ints ns)
/-! ### what the top has left -/
theorem top_mk {K : PySem.W.Frag} {h : Heap} {mg : Str → Option Value} {x : Str} {st : Stmt} {ps : List Str} {f : Addr} {oc : Value} {od an : Option Addr} {sl : Array (Option Value)} {kV dc pm cd ct : Value} (X : K.In h) (G : h.Ns mainGlobals mg)
    (a : PySem.W.nsIn K mainGlobals x = some (some (.ref f))) (l : K.lookup f = some ⟨oc, od, .func (PySem.W.fnOf x x (defArgs st) (defBody st) (defScope st) .none kV dc pm an cd ct), sl⟩) (c : PySem.W.codeIn K cd x = true) (k : PySem.W.keepIn K (.ref f) = true)
    (hb : ∀ (kV doc pm : Value) (an : Option Addr) (cdv ct : Value) (us : List Value), us.length = ps.length → bindArgs (PySem.W.fnOf x x (defArgs st) (defBody st) (defScope st) .none kV doc pm an cdv ct) ⟨us, []⟩ = pure (ps.zip us)) : Top K mg x st ps :=
  ⟨f, _, fun_mk l c k, PySem.W.mg_of X G a, (fun_mk l c k).binds hb⟩
end Tw

/-! Powers, sums of powers, common divisors, inverses. -/
namespace Tw
open PySem PySem.Spec PyProof.Rows L2
def geo (t : Int) : Nat → Int
  | 0 => 0
  | n + 1 => geo t n + t ^ n
theorem geo_add (t : Int) (a : Nat) : ∀ b, geo t (a + b) = geo t a + t ^ a * geo t b
  | 0 => by show geo t a = geo t a + t ^ a * 0; grind
  | b + 1 => by
    show geo t (a + b) + t ^ (a + b) = geo t a + t ^ a * (geo t b + t ^ b)
    rw [geo_add t a b, Int.pow_add]
    grind
theorem geo_mul (t : Int) : ∀ n, (t - 1) * geo t n = t ^ n - 1
  | 0 => by rw [Int.pow_zero]; show (t - 1) * 0 = 1 - 1; grind
  | n + 1 => by
    have ih := geo_mul t n
    show (t - 1) * (geo t n + t ^ n) = t ^ (n + 1) - 1
    rw [Int.pow_succ]
    grind
/-- what a rule of n steps is -/
def rsT (t m : Int) (n : Nat) : Int := t ^ n % m
def rsP (t p m : Int) (n : Nat) : Int := p * geo t n % m
theorem rs_T (t m : Int) (a c : Nat) : rsT t m c * rsT t m a % m = rsT t m (a + c) := by
  unfold rsT
  rw [← Int.mul_emod, Int.pow_add, Int.mul_comm]
theorem rs_P (t p m : Int) (a c : Nat) : (rsT t m c * rsP t p m a + rsP t p m c) % m = rsP t p m (a + c) := by
  unfold rsT rsP
  rw [Int.add_emod, Int.emod_emod, ← Int.mul_emod, ← Int.add_emod, Nat.add_comm a c, geo_add]
  congr 1
  grind
theorem rs_rng {t p m : Int} (h : 0 < m) (n : Nat) : (0 ≤ rsT t m n ∧ rsT t m n < m) ∧ 0 ≤ rsP t p m n ∧ rsP t p m n < m := ⟨mod_bd _ h, mod_bd _ h⟩
theorem Rule.rs {t p m : Int} (R : Rule t p m) (n : Nat) : Rule (rsT t m n) (rsP t p m n) m :=
  have h := rs_rng (t := t) (p := p) (show 0 < m by have := R.b1; omega) n
  ⟨R.b1, R.b2, h.1.1, h.1.2, h.2.1, h.2.2⟩
/-- ahead -/
def ahd (t p m : Int) (n : Nat) (x : Int) : Int := (t ^ n * x + p * geo t n) % m
theorem stp_rs (t p m : Int) (n : Nat) (x : Int) : stp (rsT t m n) (rsP t p m n) m x = ahd t p m n x := by
  unfold stp rsT rsP ahd
  rw [Int.add_emod_emod, Int.add_emod, Int.mul_emod, Int.emod_emod, ← Int.mul_emod, ← Int.add_emod]
theorem ahd_rng {t p m : Int} (h : 0 < m) (n : Nat) (x : Int) : 0 ≤ ahd t p m n x ∧ ahd t p m n x < m := mod_bd _ h
/-- the number from which n steps lead to s -/
def Back (t p m : Int) (n : Nat) (s y : Int) : Prop := 0 ≤ y ∧ y < m ∧ ahd t p m n y = s
theorem cop_pow {t m : Int} (h : Int.gcd t m = 1) (n : Nat) : Nat.Coprime m.natAbs (t ^ n).natAbs := by
  rw [Int.natAbs_pow]
  exact (Nat.Coprime.pow_left n (show Nat.Coprime t.natAbs m.natAbs from h)).symm
theorem Back.uniq {t p m : Int} {n : Nat} {s y z : Int} (hc : Int.gcd t m = 1) (h : Back t p m n s y) (k : Back t p m n s z) : y = z := by
  obtain ⟨y0, y1, ye⟩ := h
  obtain ⟨z0, z1, ze⟩ := k
  have e : (t ^ n * y + p * geo t n) % m = (t ^ n * z + p * geo t n) % m := ye.trans ze.symm
  have e2 := Int.emod_eq_emod_iff_emod_sub_eq_zero.mp e
  have e3 : m ∣ t ^ n * (y - z) := by
    have := Int.dvd_of_emod_eq_zero e2
    rw [show t ^ n * (y - z) = t ^ n * y + p * geo t n - (t ^ n * z + p * geo t n) by grind]
    exact this
  have e4 : m.natAbs ∣ (y - z).natAbs := by
    have h1 := Int.natAbs_dvd_natAbs.mpr e3
    rw [Int.natAbs_mul] at h1
    exact Nat.Coprime.dvd_of_dvd_mul_left (cop_pow hc n) h1
  have e5 : (y - z).natAbs = 0 := Nat.eq_zero_of_dvd_of_lt e4 (by omega)
  omega
/-- undone by the inverse -/
theorem back_of {t p m u : Int} (m0 : 0 < m) (hu : t * u % m = 1 % m) (s : Int) (s0 : 0 ≤ s) (s1 : s < m) : ∀ n : Nat, Back t p m n s (ahd u (-u * p % m) m n s) := by
  intro n
  refine ⟨(ahd_rng m0 n s).1, (ahd_rng m0 n s).2, ?_⟩
  obtain ⟨e, he⟩ := Int.dvd_of_emod_eq_zero (Int.emod_eq_emod_iff_emod_sub_eq_zero.mp hu)
  have htu : t * u = m * e + 1 := by omega
  have key : ∀ k : Nat, m ∣ t ^ k * (u ^ k * s + (-u * p) * geo u k) + p * geo t k - s := by
    intro k
    induction k with
    | zero =>
      rw [Int.pow_zero, Int.pow_zero]
      show m ∣ 1 * (1 * s + (-u * p) * 0) + p * 0 - s
      exact ⟨0, by grind⟩
    | succ k ih =>
      obtain ⟨c, hc⟩ := ih
      have g1 : geo u (k + 1) = 1 + u * geo u k := by
        rw [Nat.add_comm, geo_add]
        show 0 + u ^ 0 + u ^ 1 * geo u k = _
        rw [Int.pow_zero, Int.pow_one]
        grind
      have g2 : geo t (k + 1) = geo t k + t ^ k := rfl
      rw [g1, g2, Int.pow_succ, Int.pow_succ]
      generalize u ^ k = U at *
      generalize t ^ k = T at *
      generalize geo u k = G at *
      generalize geo t k = J at *
      refine ⟨c + T * e * (U * s + (-u * p) * G - p), ?_⟩
      have e1 : T * t * (U * u * s + -u * p * (1 + u * G)) + p * (J + T) - s = T * ((t * u) * (U * s + -u * p * G - p) + p) + p * J - s := by grind
      rw [e1, htu]
      have e2 : T * ((m * e + 1) * (U * s + -u * p * G - p) + p) + p * J - s = (T * (U * s + -u * p * G) + p * J - s) + m * (T * e * (U * s + -u * p * G - p)) := by grind
      rw [e2, hc]
      grind
  obtain ⟨c, hc⟩ := key n
  have hy : ∃ b, ahd u (-u * p % m) m n s = (u ^ n * s + (-u * p) * geo u n) + m * b := by
    unfold ahd
    have a1 := Int.mul_ediv_add_emod (u ^ n * s + (-u * p % m) * geo u n) m
    have a2 := Int.mul_ediv_add_emod (-u * p) m
    refine ⟨-((u ^ n * s + (-u * p % m) * geo u n) / m) - (-u * p / m) * geo u n, ?_⟩
    generalize (u ^ n * s + (-u * p % m) * geo u n) / m = d1 at *
    generalize (u ^ n * s + (-u * p % m) * geo u n) % m = d2 at *
    generalize -u * p / m = d3 at *
    generalize -u * p % m = d4 at *
    grind
  obtain ⟨b, hb⟩ := hy
  rw [hb]
  show (t ^ n * (u ^ n * s + -u * p * geo u n + m * b) + p * geo t n) % m = s
  have e3 : t ^ n * (u ^ n * s + -u * p * geo u n + m * b) + p * geo t n = s + m * (c + t ^ n * b) := by grind
  rw [e3, Int.add_mul_emod_self_left]
  exact Int.emod_eq_of_lt s0 s1
/-! ### common divisors -/
theorem gcd_step {x y : Int} (h0 : 0 ≤ x) (h1 : 0 < y) : Int.gcd y (x % y) = Int.gcd x y := by
  obtain ⟨a, rfl⟩ := Int.eq_ofNat_of_zero_le h0
  obtain ⟨b, rfl⟩ := Int.eq_ofNat_of_zero_le (Int.le_of_lt h1)
  show Nat.gcd b ((a : Int) % (b : Int)).natAbs = Nat.gcd a b
  rw [← Int.natCast_emod, Int.natAbs_natCast, Nat.gcd_comm b, ← Nat.gcd_rec, Nat.gcd_comm]
/-! ### powers by squaring -/
theorem sq_pow (t : Int) (n : Nat) : t ^ n = (if n % 2 = 1 then t else 1) * (t * t) ^ (n / 2) := by
  have e : n = 2 * (n / 2) + n % 2 := by omega
  have h2 : (t * t) ^ (n / 2) = t ^ (2 * (n / 2)) := by rw [Int.pow_mul, show t ^ 2 = t * t by rw [Int.pow_succ, Int.pow_one]]
  rw [h2]
  by_cases h : n % 2 = 1
  · rw [if_pos h]
    conv => lhs; rw [e, h, Int.pow_succ]
    exact Int.mul_comm _ _
  · rw [if_neg h, Int.one_mul]
    conv => lhs; rw [e, show n % 2 = 0 by omega, Nat.add_zero]
/-- the law's sum of powers, by a power of the bound times one less -/
theorem shares {t m P : Int} {n : Nat} (m0 : 0 < m) (t2 : 2 ≤ t) (hP : P = t ^ n % (m * (t - 1))) : P % m = t ^ n % m ∧ (P - 1) / (t - 1) % m = geo t n % m := by
  have d1 := Int.mul_ediv_add_emod (t ^ n) (m * (t - 1))
  rw [← hP] at d1
  have g := geo_mul t n
  constructor
  · rw [hP, Int.emod_emod_of_dvd _ ⟨t - 1, rfl⟩]
  · have e : P - 1 = (t - 1) * (geo t n - m * (t ^ n / (m * (t - 1)))) := by
      generalize t ^ n / (m * (t - 1)) = q at *
      grind
    rw [e, Int.mul_ediv_cancel_left _ (by omega)]
    rw [Int.sub_emod, Int.mul_emod_right, Int.sub_zero, Int.emod_emod]
theorem pow_zero_pos {n : Nat} (h : 0 < n) : (0 : Int) ^ n = 0 := by
  obtain ⟨k, rfl⟩ : ∃ k, n = k + 1 := ⟨n - 1, by omega⟩
  rw [Int.pow_succ, Int.mul_zero]
theorem geo_zero : ∀ {n : Nat}, 0 < n → geo 0 n = 1
  | 1, _ => by show (0 : Int) + 0 ^ 0 = 1; rw [Int.pow_zero]; rfl
  | n + 2, _ => by
    show geo 0 (n + 1) + 0 ^ (n + 1) = 1
    rw [geo_zero (Nat.succ_pos n), pow_zero_pos (Nat.succ_pos n)]
    rfl
theorem geo_one : ∀ n : Nat, geo 1 n = n
  | 0 => rfl
  | n + 1 => by
    show geo 1 n + 1 ^ n = ((n + 1 : Nat) : Int)
    rw [geo_one n, Int.one_pow]
    rfl
/-! ### promises -/
def pGcd : V → V → Hp → VK → XK → Prop := fun a b H Q _ => ∃ x y : Int, a = .int x ∧ b = .int y ∧ 0 ≤ x ∧ 0 ≤ y ∧ Q (.int (Int.gcd x y : Nat)) H
def pInv : V → V → Hp → VK → XK → Prop := fun a b H Q _ => ∃ x m : Int, a = .int x ∧ b = .int m ∧ 0 ≤ x ∧ 0 < m ∧ m ≤ 1000000000000 ∧ Int.gcd x m = 1 ∧ ∀ H' v, Same H H' → 0 ≤ v → v < m → x * v % m = 1 % m → Q (.int v) H'
def pChained (K : PySem.W.Frag) : V → V → Hp → VK → XK → Prop := fun a b H Q _ => ∃ (r1 r2 : Addr) (t1 p1 t2 p2 m : Int), a = .ref r1 ∧ b = .ref r2 ∧ SqT K H r1 [.int t1, .int p1, .int m] ∧ SqT K H r2 [.int t2, .int p2, .int m] ∧ Rule t1 p1 m ∧ Rule t2 p2 m ∧
  ∀ H' q, Same H H' → H q = none → H' q = some (.tup [.int (t2 * t1 % m), .int ((t2 * p1 + p2) % m), .int m]) → Q (.ref q) H'
def pRos (K : PySem.W.Frag) : V → V → Hp → VK → XK → Prop := fun a b H Q _ => ∃ (r : Addr) (t p m n : Int), a = .ref r ∧ b = .int n ∧ SqT K H r [.int t, .int p, .int m] ∧ Rule t p m ∧ 0 ≤ n ∧
  ∀ H' q, Same H H' → H' q = some (.tup [.int (rsT t m n.toNat), .int (rsP t p m n.toNat), .int m]) → Q (.ref q) H'
def pRback (K : PySem.W.Frag) (CB : Addr) : V → Hp → VK → XK → Prop := fun a H Q E => ∃ (r : Addr) (t p m : Int), a = .ref r ∧ SqT K H r [.int t, .int p, .int m] ∧ Rule t p m ∧
  (Int.gcd t m = 1 → ∀ H' q u, Same H H' → H q = none → 0 ≤ u → u < m → t * u % m = 1 % m → H' q = some (.tup [.int u, .int (-u * p % m), .int m]) → Q (.ref q) H') ∧ (Int.gcd t m ≠ 1 → E (.ref CB) none H)
def pJump (K : PySem.W.Frag) (CN CB : Addr) : V → V → V → Hp → VK → XK → Prop := fun a b c H Q E => ∃ (r : Addr) (t p m s n : Int), a = .ref r ∧ b = .int s ∧ c = .int n ∧ SqT K H r [.int t, .int p, .int m] ∧ Rule t p m ∧
  (¬ (0 ≤ s ∧ s < m) → Bad CN s H E) ∧ (0 ≤ s ∧ s < m → 0 ≤ n → ∀ H', Same H H' → Q (.int (ahd t p m n.toNat s)) H') ∧
  (0 ≤ s ∧ s < m → n < 0 → Int.gcd t m = 1 → ∀ H' y, Same H H' → Back t p m (-n).toNat s y → Q (.int y) H') ∧ (0 ≤ s ∧ s < m → n < 0 → Int.gcd t m ≠ 1 → E (.ref CB) none H)
end Tw
namespace Tw
open PySem PySem.Spec PyProof.Rows L2
/-- an error without a number: its kind's name alone -/
def pKindO (C : Addr) (nm : Str) : V → Hp → VK → XK → Prop := fun a H Q _ => ∃ e : Addr, a = .ref e ∧ H e = some (exv e (.ref C) none) ∧ ∀ H' p, Same H H' → H p = none → H' p = some (.tup [.str nm]) → Q (.ref p) H'
def pPow : V → V → V → Hp → VK → XK → Prop := fun a b c H Q _ => ∃ x n m : Int, a = .int x ∧ b = .int n ∧ c = .int m ∧ 0 ≤ x ∧ x ≤ 1000000000000 ∧ 0 ≤ n ∧ 0 < m ∧ m ≤ 1000000000000000000000000 ∧ Q (.int (x ^ n.toNat % m)) H
def pShares (K : PySem.W.Frag) : V → V → Hp → VK → XK → Prop := fun a b H Q _ => ∃ (r : Addr) (t p m n : Int), a = .ref r ∧ b = .int n ∧ SqT K H r [.int t, .int p, .int m] ∧ Rule t p m ∧ 0 ≤ n ∧
  ∀ H' q, Same H H' → H q = none → H' q = some (.lst [.int (t ^ n.toNat % m), .int (geo t n.toNat % m)]) → Q (.ref q) H'
def pAhead (K : PySem.W.Frag) : V → V → V → Hp → VK → XK → Prop := fun a b c H Q _ => ∃ (r : Addr) (t p m s n : Int), a = .ref r ∧ b = .int s ∧ c = .int n ∧ SqT K H r [.int t, .int p, .int m] ∧ Rule t p m ∧ 0 ≤ s ∧ s < m ∧ 0 ≤ n ∧ ∀ H', Same H H' → Q (.int (ahd t p m n.toNat s)) H'
theorem ahd_shares (t p m : Int) (n : Nat) (s : Int) : (t ^ n % m * s + geo t n % m * p) % m = ahd t p m n s := by
  unfold ahd
  rw [Int.add_emod, Int.mul_emod, Int.emod_emod, ← Int.mul_emod, Int.mul_emod (geo t n % m), Int.emod_emod, ← Int.mul_emod, ← Int.add_emod, Int.mul_comm (geo t n)]
def pStepsL : V → Hp → VK → XK → Prop := fun a H Q _ => ∃ (d : Addr) (n : Nat), a = .ref d ∧ Deck H d n ∧ n + 5 ≤ 100000000 ∧ ∀ (H' : Hp) (v : Int), But d H H' → Deck H' d (n + 5) → Q (.int v) H'
def pTold3 (K : PySem.W.Frag) : V → V → V → Hp → VK → XK → Prop := fun a b c H Q _ => ∃ (r : Addr) (t p m s n : Int), a = .ref r ∧ b = .int s ∧ c = .int n ∧ SqT K H r [.int t, .int p, .int m] ∧ Rule t p m ∧
  (¬ (0 ≤ s ∧ s < m) → ∀ H' q, Same H H' → H q = none → H' q = some (.tup [.str "number", .int s]) → Q (.ref q) H') ∧
  (0 ≤ s ∧ s < m → 0 ≤ n → ∀ H' q, Same H H' → H q = none → H' q = some (.lst [.int (ahd t p m n.toNat s)]) → Q (.ref q) H') ∧
  (0 ≤ s ∧ s < m → n < 0 → Int.gcd t m = 1 → ∀ H' q y, Same H H' → H q = none → Back t p m (-n).toNat s y → H' q = some (.lst [.int y]) → Q (.ref q) H') ∧
  (0 ≤ s ∧ s < m → n < 0 → Int.gcd t m ≠ 1 → ∀ H' q, Same H H' → H q = none → H' q = some (.tup [.str "back"]) → Q (.ref q) H')
def pRight3 (K : PySem.W.Frag) : V → V → V → Hp → VK → XK → Prop := fun a b c H Q _ => ∃ (r : Addr) (t p m s n : Int), a = .ref r ∧ b = .int s ∧ c = .int n ∧ SqT K H r [.int t, .int p, .int m] ∧ Rule t p m ∧ 0 ≤ s ∧ s < m ∧ ∀ H', Same H H' → Q (.bl true) H'
theorem shp_s {x : Str} (h : PyData.canLay0 (.str x) = true) : SeqAt.shaped (.tuple [.str x]) = true := by
  show (PyData.canLay0 (.tuple [.str x]) && decide (PyData.depth (.tuple [.str x]) ≤ 64)) = true
  simp [PyData.canLay0, PyData.canLayAll0] at h ⊢
  exact ⟨h, of_decide_eq_true rfl⟩
theorem shp_back : SeqAt.shaped (.tuple [.str "back"]) = true := shp_s (by decide +kernel)
end Tw
namespace Tw
theorem pow_em (a m : Int) : ∀ k : Nat, (a % m) ^ k % m = a ^ k % m
  | 0 => by rw [Int.pow_zero, Int.pow_zero]
  | k + 1 => by rw [Int.pow_succ, Int.pow_succ, Int.mul_emod, pow_em a m k, Int.emod_emod, ← Int.mul_emod]
end Tw


namespace Tw
open PySem PySem.Spec PyProof.Rows L2
def topS (i : Nat) : Stmt := PySem.Challenge.pw_timesrow_k03_jumps.main.body.getD i (.Pass ⟨0, 0, 0, 0⟩)
abbrev s_mix : Stmt := topS 20
theorem sc_mix : FnScope ["cell", "k", "number"] ["cell", "k"] (defScope s_mix) := ⟨rfl, rfl, rfl, by decide +kernel, rfl, by decide +kernel, by decide +kernel⟩
abbrev s_deck : Stmt := topS 21
theorem sc_deck : FnScope ["script"] ["script"] (defScope s_deck) := ⟨rfl, rfl, rfl, by decide +kernel, rfl, by decide +kernel, by decide +kernel⟩
abbrev s_next : Stmt := topS 22
theorem sc_next : FnScope ["deck", "many", "cell", "found"] ["deck", "many"] (defScope s_next) := ⟨rfl, rfl, rfl, by decide +kernel, rfl, by decide +kernel, by decide +kernel⟩
abbrev s_great : Stmt := topS 23
theorem sc_great : FnScope ["deck", "most"] ["deck", "most"] (defScope s_great) := ⟨rfl, rfl, rfl, by decide +kernel, rfl, by decide +kernel, by decide +kernel⟩
section
variable {P : Program} {w : World} {K : PySem.W.Frag} {mg : Str → Option Value} {base : Heap}
theorem ok_mix (D : Top K mg "_law_mix" s_mix ["cell", "k"]) : Has P w K mg base CX0 1 "_law_mix" ["cell", "k"] (sp2 pMix) := by
  refine D.ok2 sc_mix (fun f cdv A outer s H v1 v2 Q E hr h => ?_)
  obtain ⟨c, k, rfl, rfl, k0, k1, q⟩ := h
  refine ⟨_, (pss_cons (ps_set (i := 2) sc_mix.nd rfl (.inl rfl) (pe_op op_add (pe_op op_mod (pv 0) pe_int) (pe_op op_mulB (pe_op op_mulB pe_int (pv 1)) (pv 1))))
 (pss_cons (ps_set (i := 2) sc_mix.nd rfl (.inl rfl) (pe_op op_mod (pe_op op_add (pv 2) (pe_op op_mulB pe_int (pv 1))) pe_int))
 (pss_cons (ps_set (i := 2) sc_mix.nd rfl (.inl rfl) (pe_op op_mod (pe_op op_mulB (pv 2) (pv 2)) pe_int))
 (pss_one (ps_ret (pe_op op_fdivB (pe_op op_mod (pe_op op_mulB (pv 2) (pe_op op_add (pv 2) pe_int)) pe_int) pe_int)))))), ?_⟩
  have b1 := mod_bd c (b := 2147483629) (by decide)
  have m1 := mul_bd k0 (show k ≤ 1000000000 by omega) k0 (show k ≤ 1000000000 by omega)
  refine ⟨_, rfl, _, _, rfl, rfl, by show (0:Int) < _; decide, _, rfl, _, _, rfl, rfl, ⟨by unfold Big; omega, by unfold Big; omega⟩, _, rfl, _, _, rfl, rfl, ⟨by unfold Big; omega, by unfold Big; omega⟩, _, _, rfl, rfl, ?_⟩
  refine ⟨_, rfl, _, rfl, _, _, rfl, rfl, ⟨by unfold Big; omega, by unfold Big; omega⟩, _, _, rfl, rfl, _, _, rfl, rfl, by show (0:Int) < _; decide, ?_⟩
  generalize c % 2147483629 + 1000003 * k * k + 7919 * k = z1
  have b2 := mod_bd z1 (b := 2147483629) (by decide)
  refine ⟨_, rfl, _, rfl, _, _, rfl, rfl, ⟨by unfold Big; omega, by unfold Big; omega⟩, _, _, rfl, rfl, by show (0:Int) < _; decide, ?_⟩
  generalize z1 % 2147483629 * (z1 % 2147483629) = z2
  have b3 := mod_bd z2 (b := 2147483587) (by decide)
  refine ⟨_, rfl, _, rfl, _, _, rfl, rfl, _, _, rfl, rfl, ⟨by unfold Big; omega, by unfold Big; omega⟩, _, _, rfl, rfl, by show (0:Int) < _; decide, _, _, rfl, rfl, ⟨by decide, by decide⟩, ?_⟩
  generalize z2 % 2147483587 * (z2 % 2147483587 + 40961) = z3
  have b4 := mod_bd z3 (b := 2147483563) (by decide)
  exact q _ (by omega)
theorem ok_deck (D : Top K mg "_law_deck" s_deck ["script"]) (z_sum : mg "sum" = none) : Has P w K mg base CX0 1 "_law_deck" ["script"] (sp1 (pDeck K)) := by
  refine D.ok1 sc_deck (fun f cdv A outer s H v1 Q E hr h => ?_)
  obtain ⟨sa, xs, rfl, hS, q⟩ := h
  refine ⟨_, (pss_one (ps_ret (pe_lst (pa_cons (pe_slice sl_list (pv 0) po_none (po_some pe_int)) (pa_cons pe_int (pa_cons pe_int (pa_cons pe_int (pa_cons (pe_callB (id := "sum") (cr_sum rfl) (by rfl) z_sum (by decide +kernel) (pa_cons (pe_slice sl_list (pv 0) po_none (po_some pe_int)) pa_nil)) pa_nil)))))))), ?_⟩
  have ec : cutV (xs.map V.int) none (some 63) = (xs.take 63).map V.int := by
    rw [List.map_take]
    exact cut_take _ 63
  refine ⟨_, rfl, _, rfl, sa, _, rfl, hS, fun c nc => ?_⟩
  have s1 := same_new (o := .lst (cutV (xs.map V.int) none (some 63))) nc
  refine ⟨_, rfl, _, rfl, sa, _, rfl, s1.seq hS, fun c2 nc2 => ?_⟩
  have s2 := same_new (o := .lst (cutV (xs.map V.int) none (some 63))) nc2
  refine ⟨c2, xs.take 63, rfl, ?_, ?_⟩
  · rw [ec]
    exact SqL.of upd_same
  · refine ⟨by show 5 ≤ sizeLine; decide, fun d nd => ?_⟩
    have s3 := same_new (o := .lst [.ref c, .int 0, .int 0, .int 0, .int (xs.take 63).sum]) nd
    have hc : (upd (upd H c (.lst (cutV (xs.map V.int) none (some 63)))) c2 (.lst (cutV (xs.map V.int) none (some 63)))) c = some (.lst ((xs.take 63).map V.int)) := by
      rw [← ec]
      exact s2 _ _ upd_same
    refine q _ d (s1.trans (s2.trans s3)) (s1.free (s2.free nd)) ⟨c, xs.take 63, 0, 0, 0, (xs.take 63).sum, upd_same, s3 _ _ hc, ne_of_none hc nd, ?_, by omega, by omega, by omega, by omega, by omega⟩
    rw [List.length_take]
    omega
theorem ok_next (D : Top K mg "_law_next" s_next ["deck", "many"]) (h_mix : Has P w K mg base CX0 1 "_law_mix" ["cell", "k"] (sp2 pMix)) (z_len : mg "len" = none) : Has P w K mg base CX0 2 "_law_next" ["deck", "many"] (sp2 (pNext 1)) := by
  refine D.ok2 sc_next (fun f cdv A outer s H v1 v2 Q E hr h => ?_)
  obtain ⟨d, n, m, rfl, rfl, m0, m1, hD, hn, q⟩ := h
  refine ⟨_, (C8.pss_cut (ps_if (PW.pt (pw_and (pt_cmpR op_eq (pe_ix ix_list (pv 0) pe_int (fun _ _ => rfl)) pe_int (nomark _)) (pw_and1 (pt_cmpR op_lt (pe_ix ix_list (pv 0) pe_int (fun _ _ => rfl)) (pe_callB (id := "len") call_len_seq (by rfl) z_len (by decide +kernel) (pa_cons (pe_ix ix_list (pv 0) pe_int (fun _ _ => rfl)) pa_nil)) (nomark _))))) (pss_cons (ps_set (i := 2) sc_next.nd rfl (.inl rfl) (pe_ix ix_list (pe_ix ix_list (pv 0) pe_int (fun _ _ => rfl)) (pe_ix ix_list (pv 0) pe_int (fun _ _ => rfl)) (fun _ _ => rfl)))
 (pss_cons (ps_asg (pe_op op_add (pe_ix ix_list (pv 0) pe_int (fun _ _ => rfl)) pe_int) (pg_sub (pv 0) pe_int set_list))
 (pss_cons (ps_if (pt_cmpR op_lt (pv 2) (pe_op op_pow pe_int pe_int) (nomark _)) (pss_one (ps_ret (pe_op op_mod (pe_own h_mix (hr.mono (by decide)) pass0 (pa_cons (pv 2) (pa_cons (pe_ix ix_list (pv 0) pe_int (fun _ _ => rfl)) pa_nil))) (pv 1)))) pss_nil)
 (pss_one (ps_asg (pv 2) (pg_sub (pv 0) pe_int set_list)))))) pss_nil)
 (pss_cons (ps_if (pt_cmpR op_gt (pe_ix ix_list (pv 0) pe_int (fun _ _ => rfl)) pe_int (nomark _)) (pss_cons (ps_set (i := 3) sc_next.nd rfl (.inl rfl) (pe_op op_mod (pe_ix ix_list (pv 0) pe_int (fun _ _ => rfl)) (pv 1)))
 (pss_cons (ps_asg (pe_op op_fdivB (pe_ix ix_list (pv 0) pe_int (fun _ _ => rfl)) (pv 1)) (pg_sub (pv 0) pe_int set_list))
 (pss_one (ps_ret (pv 3))))) pss_nil)
 (pss_cons (ps_asg (pe_op op_add (pe_ix ix_list (pv 0) pe_int (fun _ _ => rfl)) pe_int) (pg_sub (pv 0) pe_int set_list))
 (pss_one (ps_ret (pe_op op_mod (pe_own h_mix (hr.mono (by decide)) pass0 (pa_cons (pe_ix ix_list (pv 0) pe_int (fun _ _ => rfl)) (pa_cons (pe_op op_add (pe_ix ix_list (pv 0) pe_int (fun _ _ => rfl)) pe_int) pa_nil))) (pv 1))))))), ?_⟩
  obtain ⟨c, xs, i, r, k, t, hd, hc, ncd, hx, i0, i1, r0, k0, k1⟩ := hD
  -- what follows the first if: the deck with its own i and r
  refine ⟨fun σ' H' => ∃ (y : Option V) (i' r' : Int), σ' = [some (.ref d), some (.int m), y, none] ∧ H' = upd H d (.lst [.ref c, .int i', .int r', .int k, .int t]) ∧ 0 ≤ i' ∧ i' ≤ (xs.length : Int) ∧ 0 ≤ r', ?_, ?_⟩
  · have self : upd H d (.lst [.ref c, .int i, .int r, .int k, .int t]) = H := by
      funext b
      by_cases e : b = d
      · rw [e, upd_same, hd]
      · rw [upd_ne e]
    refine ⟨_, rfl, d, _, 2, .int r, rfl, rfl, SqL.of hd, rfl, rfl, _, rfl, ifI (fun er => ?_) (fun er => ?_)⟩
    · refine ⟨_, rfl, d, _, 1, .int i, rfl, rfl, SqL.of hd, rfl, _, rfl, d, _, 0, .ref c, rfl, rfl, SqL.of hd, rfl, c, _, rfl, .inl (SqL.of hc), _, _, rfl, rfl, _, rfl, ifD (fun il => ?_) (fun il => ?_)⟩
      · rw [List.length_map] at il
        obtain ⟨j, rfl⟩ := Int.eq_ofNat_of_zero_le i0
        have jl : j < xs.length := by omega
        have ej : (xs.map V.int)[j]? = some (.int xs[j]) := by rw [List.getElem?_map, List.getElem?_eq_getElem jl]; rfl
        refine ⟨_, rfl, d, _, 0, .ref c, rfl, rfl, SqL.of hd, rfl, _, rfl, d, _, 1, .int (j : Int), rfl, rfl, SqL.of hd, rfl, c, _, _, _, rfl, rfl, SqL.of hc, atI_nat ej, ?_⟩
        refine ⟨_, rfl, d, _, 1, .int (j : Int), rfl, rfl, SqL.of hd, rfl, _, _, rfl, rfl, _, rfl, d, _, 1, 1, rfl, rfl, hd, rfl, ?_⟩
        refine ⟨_, rfl, _, _, rfl, rfl, ⟨by decide, by decide, by decide⟩, _, _, rfl, rfl, _, rfl, ifD (fun cl => ?_) (fun cl => ?_)⟩
        · refine ⟨_, rfl, _, rfl, d, _, 1, .int ((j : Int) + 1), rfl, rfl, SqL.of upd_same, rfl, _, _, rfl, _, _, rfl, rfl, by omega, by omega, fun v v0 => ?_⟩
          refine ⟨_, rfl, _, _, rfl, rfl, m0, ?_⟩
          have bv := mod_bd v m0
          refine q _ _ (but_mut (But.refl d H) (fun c' hc => by obtain ⟨_, ec⟩ := hc; rw [hd] at ec; cases ec; exact ⟨_, rfl⟩)) ⟨c, xs, (j : Int) + 1, r, k, t, upd_same, ?_, ncd, hx, by omega, by omega, r0, k0, by omega⟩ bv.1 bv.2
          rw [upd_ne ncd]
          exact hc
        · refine ⟨_, rfl, _, rfl, d, _, 2, 2, rfl, rfl, upd_same, rfl, some (.int xs[j]), (j : Int) + 1, xs[j], rfl, ?_, by omega, by omega, ?_⟩
          · rw [upd_upd]
            rfl
          · have z : (10 : Int) ^ (18 : Int).toNat = 1000000000000000000 := by decide
            rw [z] at cl
            omega
      · exact ⟨none, i, r, rfl, self.symm, i0, i1, r0⟩
    · exact ⟨none, i, r, rfl, self.symm, i0, i1, r0⟩
  · rintro σ' H' ⟨y, i', r', rfl, rfl, i0', i1', r0'⟩
    refine ⟨_, rfl, d, _, 2, .int r', rfl, rfl, SqL.of upd_same, rfl, _, _, rfl, rfl, _, rfl, ifD (fun rp => ?_) (fun rp => ?_)⟩
    · refine ⟨_, rfl, d, _, 2, .int r', rfl, rfl, SqL.of upd_same, rfl, _, rfl, _, _, rfl, rfl, m0, ?_⟩
      refine ⟨_, rfl, d, _, 2, .int r', rfl, rfl, SqL.of upd_same, rfl, _, rfl, _, _, rfl, rfl, ⟨m0, m1⟩, _, rfl, d, _, 2, 2, rfl, rfl, upd_same, rfl, ?_⟩
      have bv := mod_bd r' m0
      refine ⟨_, rfl, q _ _ (but_mut (but_mut (But.refl d H) (fun c' hc => by obtain ⟨_, ec⟩ := hc; rw [hd] at ec; cases ec; exact ⟨_, rfl⟩)) (fun c' hc => by obtain ⟨_, ec⟩ := hc; rw [upd_same] at ec; cases ec; exact ⟨_, rfl⟩)) ⟨c, xs, i', r' / m, k, t, upd_same, ?_, ncd, hx, i0', i1', Int.ediv_nonneg r0' (by omega), k0, by omega⟩ bv.1 bv.2⟩
      rw [upd_ne ncd, upd_ne ncd]
      exact hc
    · refine ⟨_, rfl, d, _, 3, .int k, rfl, rfl, SqL.of upd_same, rfl, _, _, rfl, rfl, _, rfl, d, _, 3, 3, rfl, rfl, upd_same, rfl, ?_⟩
      refine ⟨_, rfl, d, _, 4, .int t, rfl, rfl, SqL.of upd_same, rfl, _, rfl, d, _, 3, .int (k + 1), rfl, rfl, SqL.of upd_same, rfl, _, _, rfl, rfl, _, _, rfl, _, _, rfl, rfl, by omega, by omega, fun v v0 => ?_⟩
      refine ⟨_, rfl, _, _, rfl, rfl, m0, ?_⟩
      have bv := mod_bd v m0
      refine q _ _ (but_mut (but_mut (But.refl d H) (fun c' hc => by obtain ⟨_, ec⟩ := hc; rw [hd] at ec; cases ec; exact ⟨_, rfl⟩)) (fun c' hc => by obtain ⟨_, ec⟩ := hc; rw [upd_same] at ec; cases ec; exact ⟨_, rfl⟩)) ⟨c, xs, i', r', k + 1, t, upd_same, ?_, ncd, hx, i0', i1', r0', by omega, by omega⟩ bv.1 bv.2
      rw [upd_ne ncd, upd_ne ncd]
      exact hc
theorem ok_great (D : Top K mg "_law_great" s_great ["deck", "most"]) (h_next : Has P w K mg base CX0 2 "_law_next" ["deck", "many"] (sp2 (pNext 1))) : Has P w K mg base CX0 3 "_law_great" ["deck", "most"] (sp2 (pNext 2)) := by
  refine D.ok2 sc_great (fun f cdv A outer s H v1 v2 Q E hr h => ?_)
  obtain ⟨d, n, m, rfl, rfl, m0, m1, hD, hn, q⟩ := h
  refine ⟨_, (pss_one (ps_ret (pe_op op_mod (pe_op op_add (pe_op op_mulB (pe_own h_next (hr.mono (by decide)) pass0 (pa_cons (pv 0) (pa_cons (pe_op op_pow pe_int pe_int) pa_nil))) (pe_op op_pow pe_int pe_int)) (pe_own h_next (hr.mono (by decide)) pass0 (pa_cons (pv 0) (pa_cons (pe_op op_pow pe_int pe_int) pa_nil)))) (pv 1)))), ?_⟩
  have z : (10 : Int) ^ (6 : Int).toNat = 1000000 := by decide
  refine ⟨_, rfl, _, _, rfl, rfl, ⟨by decide, by decide, by decide⟩, _, _, rfl, d, n, _, rfl, rfl, by decide, by decide, hD, by omega, fun H1 v B1 D1 v0 v1 => ?_⟩
  rw [z] at v1
  refine ⟨_, _, rfl, rfl, ⟨by decide, by decide, by decide⟩, _, _, rfl, rfl, ⟨by unfold Big; omega, show Big 1000000 from ⟨by decide, by decide⟩⟩, ?_⟩
  refine ⟨_, rfl, _, _, rfl, rfl, ⟨by decide, by decide, by decide⟩, _, _, rfl, d, n + 1, _, rfl, rfl, by decide, by decide, D1, by omega, fun H2 u B2 D2 u0 u1 => ?_⟩
  refine ⟨_, _, rfl, rfl, _, rfl, _, _, rfl, rfl, m0, ?_⟩
  have bv := mod_bd (v * 10 ^ (6 : Int).toNat + u) m0
  exact q _ _ (B1.trans B2) D2 bv.1 bv.2
end
end Tw


namespace Tw
open PySem PySem.Spec PyProof.Rows L2
abbrev s_bound : Stmt := topS 24
theorem sc_bound : FnScope ["deck", "most", "way", "found", "k", "prime", "some"] ["deck", "most"] (defScope s_bound) := ⟨rfl, rfl, rfl, by decide +kernel, rfl, by decide +kernel, by decide +kernel⟩
section
variable {P : Program} {w : World} {K : PySem.W.Frag} {mg : Str → Option Value} {base : Heap}
theorem ok_bound (D : Top K mg "_law_bound" s_bound ["deck", "most"]) (h_next : Has P w K mg base CX0 2 "_law_next" ["deck", "many"] (sp2 (pNext 1))) (h_great : Has P w K mg base CX0 3 "_law_great" ["deck", "most"] (sp2 (pNext 2))) (z_len : mg "len" = none) (z_range : mg "range" = none) :
    Has P w K mg base CX0 4 "_law_bound" ["deck", "most"] (sp2 pBound) := by
  refine D.ok2 sc_bound (fun f cdv A outer s H v1 v2 Q E hr h => ?_)
  obtain ⟨d, n, m, rfl, rfl, m0, m1, hD, hn, q⟩ := h
  refine ⟨_, (pss_cons (ps_set (i := 2) sc_bound.nd rfl (.inl rfl) (pe_own h_next (hr.mono (by decide)) pass0 (pa_cons (pv 0) (pa_cons pe_int pa_nil))))
 (pss_cons (ps_if (pt_cmpR op_eq (pv 2) pe_int (nomark _)) (pss_one (ps_ret (pe_op op_add pe_int (pe_own h_next (hr.mono (by decide)) pass0 (pa_cons (pv 0) (pa_cons pe_int pa_nil)))))) pss_nil)
 (pss_cons (ps_if (pt_cmpR op_eq (pv 2) pe_int (nomark _)) (pss_one (ps_ret (pe_op op_add pe_int (pe_own h_great (hr.mono (by decide)) pass0 (pa_cons (pv 0) (pa_cons (pv 1) pa_nil)))))) pss_nil)
 (pss_cons (ps_if (pt_cmpR op_eq (pv 2) pe_int (nomark _)) (pss_cons (ps_set (i := 3) sc_bound.nd rfl (.inl rfl) pe_int)
 (pss_cons (ps_for PassesOwn.never rfl (pi_range1 (by rfl) z_range (pa_cons pe_int pa_nil)) (pg_name (i := 4) sc_bound.nd rfl (.inl rfl)) (pss_cons (ps_set (i := 5) sc_bound.nd rfl (.inl rfl) (pe_ix ix_list (pe_lst (pa_cons pe_int (pa_cons pe_int (pa_cons pe_int (pa_cons pe_int (pa_cons pe_int (pa_cons pe_int (pa_cons pe_int (pa_cons pe_int pa_nil))))))))) (pe_own h_next (hr.mono (by decide)) pass0 (pa_cons (pv 0) (pa_cons pe_int pa_nil))) (fun _ _ => rfl)))
 (pss_one (ps_if (pt_cmpR op_le (pe_op op_mulB (pv 3) (pv 5)) (pv 1) (nomark _)) (pss_one (ps_set (i := 3) sc_bound.nd rfl (.inl rfl) (pe_op op_mulB (pv 3) (pv 5)))) pss_nil))))
 (pss_one (ps_ret (pv 3))))) pss_nil)
 (pss_cons (ps_if (pt_cmpR op_eq (pv 2) pe_int (nomark _)) (pss_cons (ps_setLc (i := 6) (own := [("prime", 5)]) (by rfl) sc_bound.nd rfl rfl (sw_true rfl rfl rfl (by decide +kernel)) (pi_list (pe_lst (pa_cons pe_int (pa_cons pe_int (pa_cons pe_int (pa_cons pe_int (pa_cons pe_int (pa_cons pe_int (pa_cons pe_int (pa_cons pe_int pa_nil)))))))))) (blkOk_by (own := [("prime", 5)]) (N := ["deck", "most", "way", "found", "k", "prime", "some"]) (sc := defScope s_bound) (by decide +kernel)) (fun _ _ _ _ _ => pg_name (i := 5) sc_bound.nd rfl (Or.inl rfl)) (fun _ _ _ _ _ => pts_one (pt_cmpR op_le (pv 5) (pv 1) (nomark _))) (fun _ _ _ _ _ => (pv 5)))
 (pss_one (ps_ret (pe_ix ix_list (pv 6) (pe_own h_next (hr.mono (by decide)) pass0 (pa_cons (pv 0) (pa_cons (pe_callB (id := "len") call_len_seq (by rfl) z_len (by decide +kernel) (pa_cons (pv 6) pa_nil)) pa_nil))) (fun _ _ => rfl))))) pss_nil)
 (pss_cons (ps_if (pt_cmpR op_eq (pv 2) pe_int (nomark _)) (pss_one (ps_ret (pe_op op_sub (pv 1) (pe_own h_next (hr.mono (by decide)) pass0 (pa_cons (pv 0) (pa_cons pe_int pa_nil)))))) pss_nil)
 (pss_cons (ps_set (i := 3) sc_bound.nd rfl (.inl rfl) pe_int)
 (pss_cons (ps_set (i := 5) sc_bound.nd rfl (.inl rfl) (pe_ix ix_list (pe_lst (pa_cons pe_int (pa_cons pe_int (pa_cons pe_int (pa_cons pe_int pa_nil))))) (pe_own h_next (hr.mono (by decide)) pass0 (pa_cons (pv 0) (pa_cons pe_int pa_nil))) (fun _ _ => rfl)))
 (pss_cons (ps_for PassesOwn.never rfl (pi_range1 (by rfl) z_range (pa_cons (pe_op op_add pe_int (pe_own h_next (hr.mono (by decide)) pass0 (pa_cons (pv 0) (pa_cons pe_int pa_nil)))) pa_nil)) (pg_name (i := 4) sc_bound.nd rfl (.inl rfl)) (pss_one (ps_if (pt_cmpR op_le (pe_op op_mulB (pv 3) (pv 5)) (pv 1) (nomark _)) (pss_one (ps_set (i := 3) sc_bound.nd rfl (.inl rfl) (pe_op op_mulB (pv 3) (pv 5)))) pss_nil)))
 (pss_one (ps_ret (pv 3)))))))))))), ?_⟩
  refine ⟨_, rfl, _, _, rfl, d, n, 6, rfl, rfl, by decide, by decide, hD, by omega, fun H1 way B1 D1 w0 w1 => ?_⟩
  refine ⟨_, rfl, rfl, _, rfl, ifI (fun e => ?_) (fun e0 => ?_)⟩
  · refine ⟨_, rfl, _, _, rfl, d, n + 1, 12, rfl, rfl, by decide, by decide, D1, by omega, fun H2 v B2 D2 u0 u1 => ?_⟩
    exact ⟨_, _, rfl, rfl, q _ _ (B1.trans B2) (D2.mono (by omega)) (by omega) (by omega)⟩
  refine ⟨_, rfl, rfl, _, rfl, ifI (fun e => ?_) (fun e1 => ?_)⟩
  · refine ⟨_, rfl, _, rfl, _, _, rfl, d, n + 1, m, rfl, rfl, by omega, by omega, D1, by omega, fun H2 v B2 D2 u0 u1 => ?_⟩
    exact ⟨_, _, rfl, rfl, q _ _ (B1.trans B2) (D2.mono (by omega)) (by omega) (by omega)⟩
  refine ⟨_, rfl, rfl, _, rfl, ifI (fun e => ?_) (fun e2 => ?_)⟩
  · -- found = 1; for k in range(24)
    refine ⟨24, rfl, by decide, by decide, for_range (lo := 0) (n := 24) (fun i σ H' => ∃ (yk yp : Option V) (g : Int), σ = [some (.ref d), some (.int m), some (.int way), some (.int g), yk, yp, none] ∧ But d H H' ∧ Deck H' d (n + 1 + i) ∧ 1 ≤ g ∧ g ≤ m) ⟨none, none, 1, rfl, B1, D1, by omega, by omega⟩ ?_ ?_⟩
    · rintro i σ H' hi ⟨yk, yp, g, rfl, B2, D2, g0, g1⟩
      refine ⟨by show 8 ≤ sizeLine; decide, fun l nl => ?_⟩
      have s1 := same_new (o := .lst [.int 2, .int 2, .int 3, .int 3, .int 5, .int 7, .int 11, .int 13]) nl
      refine ⟨_, rfl, _, _, rfl, d, n + 1 + i, 8, rfl, rfl, by decide, by decide, D2.same s1, by omega, fun H3 v B3 D3 u0 u1 => ?_⟩
      obtain ⟨x, hx, ex⟩ := at_ints (ns := [2, 2, 3, 3, 5, 7, 11, 13]) u0 (by show v < 8; exact u1)
      have bx : 2 ≤ x ∧ x ≤ 13 := (by decide : ∀ x ∈ ([2, 2, 3, 3, 5, 7, 11, 13] : List Int), 2 ≤ x ∧ x ≤ 13) x hx
      have hl3 : H3 l = some (.lst [.int 2, .int 2, .int 3, .int 3, .int 5, .int 7, .int 11, .int 13]) := B3 _ _ (D2.ne nl) upd_same
      have B4 : But d H H3 := (B2.trans s1.but).trans B3
      have mb := mul_bd (show 0 ≤ g by omega) g1 (show 0 ≤ x by omega) bx.2
      refine ⟨l, _, v, _, rfl, rfl, SqL.of hl3, ex, ?_⟩
      refine ⟨_, rfl, _, rfl, _, _, rfl, rfl, ⟨by unfold Big; omega, by unfold Big; omega⟩, _, rfl, _, _, rfl, rfl, _, rfl, ifD (fun le => ?_) (fun le => ?_)⟩
      · refine ⟨_, rfl, _, rfl, _, _, rfl, rfl, ⟨by unfold Big; omega, by unfold Big; omega⟩, some (.int (0 + i)), some (.int x), g * x, rfl, B4, D3.mono (by omega), ?_, le⟩
        have := mul_bd (show (0:Int) ≤ 1 by decide) g0 (show (0:Int) ≤ 1 by decide) (show 1 ≤ x by omega)
        omega
      · exact ⟨some (.int (0 + i)), some (.int x), g, rfl, B4, D3.mono (by omega), g0, g1⟩
    · rintro σ H' ⟨yk, yp, g, rfl, B2, D2, g0, g1⟩
      exact ⟨_, rfl, q _ _ B2 (D2.mono (by omega)) g0 g1⟩
  refine ⟨_, rfl, rfl, _, rfl, ifI (fun e => ?_) (fun e3 => ?_)⟩
  · -- some = [prime for prime in [..] if prime <= most]
    refine ⟨by show 8 ≤ sizeLine; decide, fun l nl => ?_⟩
    have s1 := same_new (o := .lst [.int 2, .int 3, .int 7, .int 97, .int 1999, .int 10007, .int 999983, .int 999999999989]) nl
    refine ⟨l, rfl, ⟨_, SqL.of upd_same⟩, fun L nL => ?_⟩
    have nlL : l ≠ L := ne_of_none (upd_same (H := H1)) nL
    refine lc_list (K := K) (a := l) (xs := ([2, 3, 7, 97, 1999, 10007, 999983, 999999999989] : List Int).map V.int)
      (fun i H' => ∃ acc : List Int, H' = upd (upd H1 l (.lst [.int 2, .int 3, .int 7, .int 97, .int 1999, .int 10007, .int 999983, .int 999999999989])) L (.lst (acc.map V.int)) ∧ acc.length ≤ i ∧ (∀ x ∈ acc, 2 ≤ x ∧ x ≤ m) ∧ (0 < i → 0 < acc.length)) ⟨[], rfl, Nat.le_refl _, by simp, by omega⟩ ?_ ?_ ?_
    · rintro i H' _ ⟨acc, rfl, _⟩
      refine SqL.of ?_
      rw [upd_ne nlL, upd_same]
      rfl
    · rintro i x H' hi ⟨acc, rfl, al, ab, ap⟩
      obtain ⟨z, hz, rfl⟩ : ∃ z, ([2, 3, 7, 97, 1999, 10007, 999983, 999999999989] : List Int)[i]? = some z ∧ x = V.int z := by
        rw [List.getElem?_map] at hi
        cases ez : ([2, 3, 7, 97, 1999, 10007, 999983, 999999999989] : List Int)[i]? with
        | none => rw [ez] at hi; cases hi
        | some z => rw [ez] at hi; exact ⟨z, rfl, (Option.some.inj hi).symm⟩
      have i8 : i < 8 := (List.getElem?_eq_some_iff.mp hz).1
      have z2 : 2 ≤ z := (by decide : ∀ x ∈ ([2, 3, 7, 97, 1999, 10007, 999983, 999999999989] : List Int), 2 ≤ x) z (List.mem_of_getElem? hz)
      refine ⟨rfl, _, rfl, _, rfl, _, _, rfl, rfl, _, rfl, ifD (fun le => ?_) (fun le => ?_)⟩
      · refine ⟨_, rfl, _, upd_same, ?_, acc ++ [z], ?_, ?_, fun y hy => ?_, fun _ => ?_⟩
        · rw [List.length_map]
          exact szl (by omega)
        · rw [upd_upd, List.map_append]
          rfl
        · rw [List.length_append]
          show acc.length + 1 ≤ i + 1
          omega
        · rcases List.mem_append.mp hy with hy | hy
          · exact ab y hy
          · rw [List.mem_singleton.mp hy]
            exact ⟨z2, le⟩
        · rw [List.length_append]
          show 0 < acc.length + 1
          omega
      · refine ⟨acc, rfl, by omega, ab, fun _ => ?_⟩
        by_cases i0 : 0 < i
        · exact ap i0
        · have : i = 0 := by omega
          subst this
          have ez : (2 : Int) = z := Option.some.inj hz
          omega
    · rintro H' ⟨acc, rfl, al, ab, ap⟩
      have al8 : acc.length ≤ 8 := al
      have ap' : 0 < acc.length := ap (by decide)
      have s2 := same_new (o := .lst (acc.map V.int)) nL
      refine ⟨_, rfl, _, rfl, _, rfl, L, _, rfl, .inl (SqL.of upd_same), _, _, rfl, d, n + 1, _, rfl, rfl, ?_, ?_, (D1.same s1).same s2, by omega, fun H3 v B3 D3 u0 u1 => ?_⟩
      · rw [List.length_map]
        omega
      · rw [List.length_map]
        omega
      · rw [List.length_map] at u1
        obtain ⟨x, hx, ex⟩ := at_ints (ns := acc) u0 u1
        have hl3 : H3 L = some (.lst (acc.map V.int)) := B3 _ _ ((D1.same s1).ne nL) upd_same
        have bx := ab x hx
        exact ⟨L, _, v, _, rfl, rfl, SqL.of hl3, ex, q _ _ ((B1.trans (s1.trans s2).but).trans B3) (D3.mono (by omega)) (by omega) bx.2⟩
  refine ⟨_, rfl, rfl, _, rfl, ifI (fun e => ?_) (fun e4 => ?_)⟩
  · refine ⟨_, rfl, _, rfl, _, _, rfl, d, n + 1, 50, rfl, rfl, by decide, by decide, D1, by omega, fun H2 v B2 D2 u0 u1 => ?_⟩
    exact ⟨_, _, rfl, rfl, q _ _ (B1.trans B2) (D2.mono (by omega)) (by omega) (by omega)⟩
  -- a prime's power
  refine ⟨by show 4 ≤ sizeLine; decide, fun l nl => ?_⟩
  have s1 := same_new (o := .lst [.int 2, .int 3, .int 5, .int 7]) nl
  refine ⟨_, rfl, _, _, rfl, d, n + 1, 4, rfl, rfl, by decide, by decide, D1.same s1, by omega, fun H2 v B2 D2 u0 u1 => ?_⟩
  obtain ⟨x, hx, ex⟩ := at_ints (ns := [2, 3, 5, 7]) u0 (by show v < 4; exact u1)
  have bx : 2 ≤ x ∧ x ≤ 7 := (by decide : ∀ x ∈ ([2, 3, 5, 7] : List Int), 2 ≤ x ∧ x ≤ 7) x hx
  have hl2 : H2 l = some (.lst [.int 2, .int 3, .int 5, .int 7]) := B2 _ _ (D1.ne nl) upd_same
  refine ⟨l, _, v, _, rfl, rfl, SqL.of hl2, ex, ?_⟩
  refine ⟨_, rfl, _, _, rfl, d, n + 2, 40, rfl, rfl, by decide, by decide, D2, by omega, fun H3 c B3 D3 c0 c1 => ?_⟩
  have B4 : But d H H3 := ((B1.trans s1.but).trans B2).trans B3
  refine ⟨_, _, rfl, rfl, 1 + c, rfl, by omega, by omega, for_range (lo := 0) (n := (1 + c).toNat) (fun i σ H' => ∃ (yk : Option V) (g : Int), σ = [some (.ref d), some (.int m), some (.int way), some (.int g), yk, some (.int x), none] ∧ H' = H3 ∧ 1 ≤ g ∧ g ≤ m) ⟨none, 1, rfl, rfl, by omega, by omega⟩ ?_ ?_⟩
  · rintro i σ H' hi ⟨yk, g, rfl, rfl, g0, g1⟩
    have mb := mul_bd (show 0 ≤ g by omega) g1 (show 0 ≤ x by omega) bx.2
    refine ⟨_, rfl, _, rfl, _, _, rfl, rfl, ⟨by unfold Big; omega, by unfold Big; omega⟩, _, rfl, _, _, rfl, rfl, _, rfl, ifD (fun le => ?_) (fun le => ?_)⟩
    · refine ⟨_, rfl, _, rfl, _, _, rfl, rfl, ⟨by unfold Big; omega, by unfold Big; omega⟩, some (.int (0 + i)), g * x, rfl, rfl, ?_, le⟩
      have := mul_bd (show (0:Int) ≤ 1 by decide) g0 (show (0:Int) ≤ 1 by decide) (show 1 ≤ x by omega)
      omega
    · exact ⟨some (.int (0 + i)), g, rfl, rfl, g0, g1⟩
  · rintro σ H' ⟨yk, g, rfl, rfl, g0, g1⟩
    exact ⟨_, rfl, q _ _ B4 (D3.mono (by omega)) g0 g1⟩
end
end Tw


namespace Tw
open PySem PySem.Spec PyProof.Rows L2
abbrev s_rule : Stmt := topS 25
theorem sc_rule : FnScope ["deck", "most", "bound", "times", "way", "shared", "prime", "plus"] ["deck", "most"] (defScope s_rule) := ⟨rfl, rfl, rfl, by decide +kernel, rfl, by decide +kernel, by decide +kernel⟩
section
variable {P : Program} {w : World} {K : PySem.W.Frag} {mg : Str → Option Value} {base : Heap}
theorem ok_rule (D : Top K mg "_law_rule" s_rule ["deck", "most"]) (h_next : Has P w K mg base CX0 2 "_law_next" ["deck", "many"] (sp2 (pNext 1))) (h_great : Has P w K mg base CX0 3 "_law_great" ["deck", "most"] (sp2 (pNext 2))) (h_bound : Has P w K mg base CX0 4 "_law_bound" ["deck", "most"] (sp2 pBound)) :
    Has P w K mg base CX0 5 "_law_rule" ["deck", "most"] (sp2 pRule) := by
  refine D.ok2 sc_rule (fun f cdv A outer s H v1 v2 Q E hr h => ?_)
  obtain ⟨d, n, m, rfl, rfl, m0, m1, hD, hn, q⟩ := h
  refine ⟨_, (pss_cons (ps_set (i := 2) sc_rule.nd rfl (.inl rfl) (pe_own h_bound (hr.mono (by decide)) pass0 (pa_cons (pv 0) (pa_cons (pv 1) pa_nil))))
 (pss_cons (ps_set (i := 3) sc_rule.nd rfl (.inl rfl) (pe_own h_great (hr.mono (by decide)) pass0 (pa_cons (pv 0) (pa_cons (pv 2) pa_nil))))
 (pss_cons (ps_set (i := 4) sc_rule.nd rfl (.inl rfl) (pe_own h_next (hr.mono (by decide)) pass0 (pa_cons (pv 0) (pa_cons pe_int pa_nil))))
 (pss_cons (ps_set (i := 5) sc_rule.nd rfl (.inl rfl) pe_int)
 (pss_cons (ps_for PassesOwn.never rfl (pi_list (pe_lst (pa_cons pe_int (pa_cons pe_int (pa_cons pe_int (pa_cons pe_int (pa_cons pe_int (pa_cons pe_int pa_nil)))))))) (pg_name (i := 6) sc_rule.nd rfl (.inl rfl)) (pss_one (ps_if (pt_cmpR op_eq (pe_op op_mod (pv 2) (pv 6)) pe_int (nomark _)) (pss_one (ps_set (i := 5) sc_rule.nd rfl (.inl rfl) (pe_op op_mulB (pv 5) (pv 6)))) pss_nil)))
 (C8.pss_cut (ps_if (pt_cmpR op_lt (pv 4) pe_int (nomark _)) (pss_one (ps_set (i := 3) sc_rule.nd rfl (.inl rfl) (pe_ix ix_list (pe_lst (pa_cons pe_int (pa_cons pe_int (pa_cons (pe_op op_sub (pv 2) pe_int) pa_nil)))) (pv 4) (fun _ _ => rfl)))) pss_nil)
 (C8.pss_cut (ps_if (pt_cmpR op_eq (pv 4) pe_int (nomark _)) (pss_one (ps_set (i := 3) sc_rule.nd rfl (.inl rfl) (pe_op op_mulB (pv 3) (pv 5)))) pss_nil)
 (C8.pss_cut (ps_if (pt_cmpR op_in_seq (pv 4) (pe_tup (pa_cons pe_int (pa_cons pe_int pa_nil))) (by rfl)) (pss_one (ps_set (i := 3) sc_rule.nd rfl (.inl rfl) (pe_op op_add pe_int (pe_op op_mulB (pe_op op_mulB (pv 3) (pv 5)) (pe_ix ix_list (pe_lst (pa_cons pe_int (pa_cons pe_int pa_nil))) (pe_op op_sub (pv 4) pe_int) (fun _ _ => rfl)))))) pss_nil)
 (pss_cons (ps_set (i := 7) sc_rule.nd rfl (.inl rfl) (pe_ix ix_list (pe_lst (pa_cons (pe_own h_great (hr.mono (by decide)) pass0 (pa_cons (pv 0) (pa_cons (pv 2) pa_nil))) (pa_cons pe_int (pa_cons pe_int (pa_cons (pe_op op_sub (pv 2) pe_int) pa_nil))))) (pe_own h_next (hr.mono (by decide)) pass0 (pa_cons (pv 0) (pa_cons pe_int pa_nil))) (fun _ _ => rfl)))
 (pss_one (ps_ret (pe_tup (pa_cons (pe_op op_mod (pv 3) (pv 2)) (pa_cons (pe_op op_mod (pv 7) (pv 2)) (pa_cons (pv 2) pa_nil))))))))))))))), ?_⟩
  refine ⟨_, rfl, _, rfl, _, _, rfl, d, n, m, rfl, rfl, m0, m1, hD, by omega, fun H1 b B1 D1 b0 b1 => ?_⟩
  refine ⟨_, rfl, _, rfl, _, _, rfl, d, n + 50, b, rfl, rfl, by omega, by omega, D1, by omega, fun H2 t B2 D2 t0 t1 => ?_⟩
  refine ⟨_, rfl, _, _, rfl, d, n + 52, 8, rfl, rfl, by decide, by decide, D2, by omega, fun H3 way B3 D3 w0 w1 => ?_⟩
  have B4 : But d H H3 := (B1.trans B2).trans B3
  -- shared = 1; for prime in [..]
  refine ⟨by show 6 ≤ sizeLine; decide, fun l nl => ?_⟩
  have s1 := same_new (o := .lst [.int 2, .int 3, .int 5, .int 7, .int 11, .int 13]) nl
  have D4 := D3.same s1
  have B5 : But d H _ := B4.trans s1.but
  refine ⟨l, rfl, ⟨_, SqL.of upd_same⟩, for_list (K := K) (a := l) (xs := ([2, 3, 5, 7, 11, 13] : List Int).map V.int) (fun i σ H' => ∃ (yp : Option V) (g : Int), σ = [some (.ref d), some (.int m), some (.int b), some (.int t), some (.int way), some (.int g), yp, none] ∧ H' = upd H3 l (.lst [.int 2, .int 3, .int 5, .int 7, .int 11, .int 13]) ∧ 1 ≤ g ∧ g ≤ 13 ^ i) ⟨none, 1, rfl, rfl, by omega, by decide⟩ ?_ ?_ ?_⟩
  · rintro i σ H' _ ⟨yp, g, rfl, rfl, _⟩
    exact SqL.of upd_same
  · rintro i x σ H' hi ⟨yp, g, rfl, rfl, g0, g1⟩
    obtain ⟨z, hz, rfl⟩ : ∃ z, ([2, 3, 5, 7, 11, 13] : List Int)[i]? = some z ∧ x = V.int z := by
      rw [List.getElem?_map] at hi
      cases ez : ([2, 3, 5, 7, 11, 13] : List Int)[i]? with
      | none => rw [ez] at hi; cases hi
      | some z => rw [ez] at hi; exact ⟨z, rfl, (Option.some.inj hi).symm⟩
    have i6 : i < 6 := (List.getElem?_eq_some_iff.mp hz).1
    have z2 : 2 ≤ z ∧ z ≤ 13 := (by decide : ∀ x ∈ ([2, 3, 5, 7, 11, 13] : List Int), 2 ≤ x ∧ x ≤ 13) z (List.mem_of_getElem? hz)
    have p6 : (13 : Int) ^ i ≤ 371293 := by
      have : i = 0 ∨ i = 1 ∨ i = 2 ∨ i = 3 ∨ i = 4 ∨ i = 5 := by omega
      rcases this with rfl | rfl | rfl | rfl | rfl | rfl <;> decide
    have mb := mul_bd (show 0 ≤ g by omega) g1 (show 0 ≤ z by omega) z2.2
    have ps : (13 : Int) ^ (i + 1) = 13 ^ i * 13 := Int.pow_succ _ _
    refine ⟨_, rfl, _, rfl, _, _, rfl, rfl, (show (0 : Int) < z by omega), rfl, _, rfl, ifI (fun e => ?_) (fun e => ?_)⟩
    · refine ⟨_, rfl, _, rfl, _, _, rfl, rfl, ⟨by unfold Big; omega, by unfold Big; omega⟩, some (.int z), g * z, rfl, rfl, ?_, by omega⟩
      have := mul_bd (show (0:Int) ≤ 1 by decide) g0 (show (0:Int) ≤ 1 by decide) (show 1 ≤ z by omega)
      omega
    · exact ⟨some (.int z), g, rfl, rfl, g0, by omega⟩
  rintro σ H' ⟨yp, g, rfl, rfl, g0, g1⟩
  have g1' : g ≤ 4826809 := g1
  have tb := mul_bd t0 (show t ≤ 1000000000000 by omega) (show 0 ≤ g by omega) g1'
  -- if way < 3
  refine ⟨fun σ' H' => ∃ (t' : Int), σ' = [some (.ref d), some (.int m), some (.int b), some (.int t'), some (.int way), some (.int g), yp, none] ∧ But d H H' ∧ Deck H' d (n + 53) ∧ 0 ≤ t' ∧ t' ≤ 1000000000000, ?_, ?_⟩
  · refine ⟨_, rfl, _, _, rfl, rfl, _, rfl, ifD (fun e => ?_) (fun e => ?_)⟩
    · refine ⟨_, rfl, _, _, rfl, rfl, by show 3 ≤ sizeLine; decide, fun l2 nl2 => ?_⟩
      have s2 := same_new (o := .lst [.int 0, .int 1, .int (b - 1)]) nl2
      obtain ⟨x, hx, ex⟩ := at_ints (ns := [0, 1, b - 1]) w0 (by show way < 3; exact e)
      refine ⟨_, rfl, l2, _, way, _, rfl, rfl, SqL.of upd_same, ex, x, rfl, B5.trans s2.but, D4.same s2, ?_⟩
      simp at hx
      rcases hx with rfl | rfl | rfl <;> omega
    · exact ⟨t, rfl, B5, D4, t0, by omega⟩
  rintro σ' H5 ⟨t2, rfl, B6, D6, t20, t21⟩
  have tb2 := mul_bd t20 t21 (show 0 ≤ g by omega) g1'
  -- if way == 3
  refine ⟨fun σ' H' => ∃ (t' : Int), σ' = [some (.ref d), some (.int m), some (.int b), some (.int t'), some (.int way), some (.int g), yp, none] ∧ H' = H5 ∧ 0 ≤ t' ∧ t' ≤ 4826809000000000000, ?_, ?_⟩
  · refine ⟨_, rfl, rfl, _, rfl, ifI (fun e => ?_) (fun e => ?_)⟩
    · exact ⟨_, rfl, _, rfl, _, _, rfl, rfl, ⟨by unfold Big; omega, by unfold Big; omega⟩, _, rfl, rfl, by omega, by omega⟩
    · exact ⟨t2, rfl, rfl, by omega, by omega⟩
  rintro σ' _ ⟨t3, rfl, rfl, t30, t31⟩
  have tb3 := mul_bd t30 t31 (show 0 ≤ g by omega) g1'
  -- if way in (4, 5)
  refine ⟨fun σ' H' => ∃ (t' : Int), σ' = [some (.ref d), some (.int m), some (.int b), some (.int t'), some (.int way), some (.int g), yp, none] ∧ But d H H' ∧ Deck H' d (n + 53), ?_, ?_⟩
  · refine ⟨_, rfl, by show 2 ≤ sizeLine; decide, fun l2 nl2 => ?_⟩
    have s2 := same_new (o := .tup [.int 4, .int 5]) nl2
    refine ⟨l2, _, rfl, .inr (SqT.of upd_same), rfl, rfl, _, rfl, ifB (fun e => ?_) (fun e => ?_)⟩
    · have hw : way = 4 ∨ way = 5 := by
        have e' : ((4 == way) || ((5 == way) || false)) = true := e
        simp at e'
        omega
      refine ⟨_, rfl, _, rfl, _, _, rfl, rfl, ⟨by unfold Big; omega, by unfold Big; omega⟩, by show 2 ≤ sizeLine; decide, fun l3 nl3 => ?_⟩
      have s3 := same_new (o := .lst [.int 1, .int 2]) nl3
      obtain ⟨x, hx, ex⟩ := at_ints (ns := [1, 2]) (show 0 ≤ way - 4 by omega) (by show way - 4 < 2; omega)
      have bx : 1 ≤ x ∧ x ≤ 2 := (by decide : ∀ x ∈ ([1, 2] : List Int), 1 ≤ x ∧ x ≤ 2) x hx
      refine ⟨_, rfl, _, _, rfl, rfl, l3, _, way - 4, _, rfl, rfl, SqL.of upd_same, ex, _, _, rfl, rfl, ⟨by unfold Big; omega, by unfold Big; omega⟩, _, _, rfl, rfl, _, rfl, (B6.trans s2.but).trans s3.but, (D6.same s2).same s3⟩
    · exact ⟨t3, rfl, B6.trans s2.but, D6.same s2⟩
  rintro σ' H6 ⟨t4, rfl, B7, D7⟩
  -- plus
  refine ⟨_, rfl, _, rfl, _, _, rfl, d, n + 53, b, rfl, rfl, by omega, by omega, D7, by omega, fun H7 p B8 D8 p0 p1 => ?_⟩
  refine ⟨_, rfl, _, _, rfl, rfl, by show 4 ≤ sizeLine; decide, fun l2 nl2 => ?_⟩
  have s2 := same_new (o := .lst [.int p, .int 0, .int 1, .int (b - 1)]) nl2
  refine ⟨_, rfl, _, _, rfl, d, n + 55, 4, rfl, rfl, by decide, by decide, D8.same s2, by omega, fun H8 v B9 D9 u0 u1 => ?_⟩
  obtain ⟨x, hx, ex⟩ := at_ints (ns := [p, 0, 1, b - 1]) u0 (by show v < 4; exact u1)
  have hl2 : H8 l2 = some (.lst [.int p, .int 0, .int 1, .int (b - 1)]) := B9 _ _ (D8.ne nl2) upd_same
  refine ⟨l2, _, v, _, rfl, rfl, SqL.of hl2, ex, ?_⟩
  refine ⟨_, rfl, _, rfl, _, _, rfl, rfl, (show (0 : Int) < b by omega), _, rfl, _, rfl, _, _, rfl, rfl, (show (0 : Int) < b by omega), _, rfl, by show 3 ≤ sizeLine; decide, fun r nr => ?_⟩
  have s3 := same_new (o := .tup [.int (t4 % b), .int (x % b), .int b]) nr
  have bt := mod_bd t4 (show 0 < b by omega)
  have bp := mod_bd x (show 0 < b by omega)
  have Bf : But d H H8 := ((B7.trans B8).trans s2.but).trans B9
  exact q _ r _ _ _ (Bf.trans s3.but) ((D9.same s3).mono (by omega)) (Bf.free (D9.ne nr) nr) upd_same ⟨b0, by omega, bt.1, bt.2, bp.1, bp.2⟩ b1
end
end Tw


namespace Tw
open PySem PySem.Spec PyProof.Rows L2
abbrev s_start : Stmt := topS 26
theorem sc_start : FnScope ["deck", "bound"] ["deck", "bound"] (defScope s_start) := ⟨rfl, rfl, rfl, by decide +kernel, rfl, by decide +kernel, by decide +kernel⟩
section
variable {P : Program} {w : World} {K : PySem.W.Frag} {mg : Str → Option Value} {base : Heap}
theorem ok_start (D : Top K mg "_law_start" s_start ["deck", "bound"]) (h_next : Has P w K mg base CX0 2 "_law_next" ["deck", "many"] (sp2 (pNext 1))) (h_great : Has P w K mg base CX0 3 "_law_great" ["deck", "most"] (sp2 (pNext 2))) :
    Has P w K mg base CX0 4 "_law_start" ["deck", "bound"] (sp2 (pNext 3)) := by
  refine D.ok2 sc_start (fun f cdv A outer s H v1 v2 Q E hr h => ?_)
  obtain ⟨d, n, m, rfl, rfl, m0, m1, hD, hn, q⟩ := h
  refine ⟨_, (pss_one (ps_ret (pe_ix ix_list (pe_lst (pa_cons (pe_own h_great (hr.mono (by decide)) pass0 (pa_cons (pv 0) (pa_cons (pv 1) pa_nil))) (pa_cons pe_int (pa_cons (pe_op op_sub (pv 1) pe_int) pa_nil)))) (pe_own h_next (hr.mono (by decide)) pass0 (pa_cons (pv 0) (pa_cons pe_int pa_nil))) (fun _ _ => rfl)))), ?_⟩
  refine ⟨_, rfl, _, rfl, _, _, rfl, d, n, m, rfl, rfl, m0, m1, hD, by omega, fun H1 g B1 D1 g0 g1 => ?_⟩
  refine ⟨_, rfl, _, _, rfl, rfl, by show 3 ≤ sizeLine; decide, fun l nl => ?_⟩
  have s1 := same_new (o := .lst [.int g, .int 0, .int (m - 1)]) nl
  refine ⟨_, rfl, _, _, rfl, d, n + 2, 3, rfl, rfl, by decide, by decide, D1.same s1, by omega, fun H2 v B2 D2 u0 u1 => ?_⟩
  obtain ⟨x, hx, ex⟩ := at_ints (ns := [g, 0, m - 1]) u0 (by show v < 3; exact u1)
  have hl : H2 l = some (.lst [.int g, .int 0, .int (m - 1)]) := B2 _ _ (D1.ne nl) upd_same
  refine ⟨l, _, v, _, rfl, rfl, SqL.of hl, ex, ?_⟩
  simp at hx
  exact q _ _ ((B1.trans s1.but).trans B2) D2 (by rcases hx with rfl | rfl | rfl <;> omega) (by rcases hx with rfl | rfl | rfl <;> omega)
end
end Tw


namespace Tw
open PySem PySem.Spec PyProof.Rows L2
abbrev s_wrong : Stmt := topS 32
theorem sc_wrong : FnScope ["deck", "bound", "far"] ["deck", "bound"] (defScope s_wrong) := ⟨rfl, rfl, rfl, by decide +kernel, rfl, by decide +kernel, by decide +kernel⟩
section
variable {P : Program} {w : World} {K : PySem.W.Frag} {mg : Str → Option Value} {base : Heap}
theorem ok_wrong (D : Top K mg "_law_wrong" s_wrong ["deck", "bound"]) (h_next : Has P w K mg base CX0 2 "_law_next" ["deck", "many"] (sp2 (pNext 1))) (h_great : Has P w K mg base CX0 3 "_law_great" ["deck", "most"] (sp2 (pNext 2))) :
    Has P w K mg base CX0 4 "_law_wrong" ["deck", "bound"] (sp2 pWrong) := by
  refine D.ok2 sc_wrong (fun f cdv A outer s H v1 v2 Q E hr h => ?_)
  obtain ⟨d, n, m, rfl, rfl, m0, m1, hD, hn, q⟩ := h
  refine ⟨_, (pss_cons (ps_set (i := 2) sc_wrong.nd rfl (.inl rfl) (pe_op op_mulB (pe_own h_next (hr.mono (by decide)) pass0 (pa_cons (pv 0) (pa_cons (pe_op op_pow pe_int pe_int) pa_nil))) (pe_op op_pow pe_int pe_int)))
 (pss_one (ps_ret (pe_ix ix_list (pe_lst (pa_cons (pe_un un_neg pe_int) (pa_cons (pv 1) (pa_cons (pe_op op_sub pe_int (pv 1)) (pa_cons (pe_op op_add (pv 1) pe_int) (pa_cons (pe_op op_add (pv 1) (pv 2)) (pa_cons (pe_op op_sub (pe_un un_neg pe_int) (pv 2)) (pa_cons (pe_op op_sub (pe_op op_sub pe_int pe_int) (pe_own h_great (hr.mono (by decide)) pass0 (pa_cons (pv 0) (pa_cons (pv 1) pa_nil)))) pa_nil)))))))) (pe_own h_next (hr.mono (by decide)) pass0 (pa_cons (pv 0) (pa_cons pe_int pa_nil))) (fun _ _ => rfl))))), ?_⟩
  have z : (10 : Int) ^ (6 : Int).toNat = 1000000 := by decide
  refine ⟨_, rfl, _, _, rfl, rfl, ⟨by decide, by decide, by decide⟩, _, _, rfl, d, n, _, rfl, rfl, by decide, by decide, hD, by omega, fun H1 y B1 D1 y0 y1 => ?_⟩
  rw [z] at y1
  refine ⟨_, _, rfl, rfl, ⟨by decide, by decide, by decide⟩, _, _, rfl, rfl, ⟨by unfold Big; omega, show Big 1000000 from ⟨by decide, by decide⟩⟩, ?_⟩
  have fb : 0 ≤ y * 10 ^ (6 : Int).toNat ∧ y * 10 ^ (6 : Int).toNat ≤ 1000000000000 := by rw [z]; omega
  obtain ⟨far, ef⟩ : ∃ far, far = y * 10 ^ (6 : Int).toNat := ⟨_, rfl⟩
  rw [← ef] at fb
  refine ⟨_, rfl, _, rfl, _, rfl, _, _, rfl, rfl, _, rfl, _, _, rfl, rfl, _, rfl, _, rfl, _, _, rfl, rfl, ?_⟩
  refine ⟨_, rfl, _, rfl, _, _, rfl, rfl, _, _, rfl, rfl, ?_⟩
  refine ⟨_, rfl, _, rfl, _, _, rfl, d, n + 1, m, rfl, rfl, m0, by omega, D1, by omega, fun H2 g B2 D2 g0 g1 => ?_⟩
  refine ⟨_, _, rfl, rfl, by show 7 ≤ sizeLine; decide, fun l nl => ?_⟩
  have s1 := same_new (o := .lst [.int (-1), .int m, .int (0 - m), .int (m + 1), .int (m + y * 10 ^ (6 : Int).toNat), .int (-1 - y * 10 ^ (6 : Int).toNat), .int (0 - 1 - g)]) nl
  refine ⟨_, rfl, _, _, rfl, d, n + 3, 7, rfl, rfl, by decide, by decide, D2.same s1, by omega, fun H3 v B3 D3 u0 u1 => ?_⟩
  obtain ⟨x, hx, ex⟩ := at_ints (ns := [-1, m, 0 - m, m + 1, m + y * 10 ^ (6 : Int).toNat, -1 - y * 10 ^ (6 : Int).toNat, 0 - 1 - g]) u0 (by show v < 7; exact u1)
  have hl : H3 l = some (.lst [.int (-1), .int m, .int (0 - m), .int (m + 1), .int (m + y * 10 ^ (6 : Int).toNat), .int (-1 - y * 10 ^ (6 : Int).toNat), .int (0 - 1 - g)]) := B3 _ _ (D2.ne nl) upd_same
  refine ⟨l, _, v, _, rfl, rfl, SqL.of hl, ex, ?_⟩
  rw [← ef] at hx
  simp only [List.mem_cons, List.not_mem_nil, or_false] at hx
  exact q _ _ (((B1.trans B2).trans s1.but).trans B3) D3 (by rcases hx with rfl | rfl | rfl | rfl | rfl | rfl | rfl <;> omega)
end
end Tw


namespace Tw
open PySem PySem.Spec PyProof.Rows L2
abbrev s_kind : Stmt := topS 31
theorem sc_kind : FnScope ["caught", "kinds"] ["caught"] (defScope s_kind) := ⟨rfl, rfl, rfl, by decide +kernel, rfl, by decide +kernel, by decide +kernel⟩
section
variable {P : Program} {w : World} {K : PySem.W.Frag} {mg : Str → Option Value} {base : Heap}
theorem ok_kindNB {CR CA CB CF CN CU : Addr} (D : Top K mg "_law_kind" s_kind ["caught"]) (T : Err K mg CR CA CB CF CN CU) (Y : Kit K CN CR CA CB CF CN CU false false false true false) (Z : Kit K CB CR CA CB CF CN CU false true false false false) (nf : PySem.W.findIn K (.ref CN) "number" = some none)
    (z_isinstance : mg "isinstance" = none) (z_ValueError : mg "ValueError" = none) : Has P w K mg base CX0 1 "_law_kind" ["caught"] (sp1 fun a H Q E => pKindN CN a H Q E ∨ pKindO CB "back" a H Q E) := by
  refine D.ok1 sc_kind (fun f cdv A outer s H v1 Q E hr h => ?_)
  have g_NoAsk := T.gA
  have g_NoBack := T.gB
  have g_NoFit := T.gF
  have g_NoNumber := T.gN
  have g_NoRule := T.gU
  have g_RowError := T.gR
  rcases h with h | h
  · obtain ⟨e, dd, v, rfl, he, hd, q⟩ := h
    refine ⟨_, (pss_cons (ps_set (i := 1) sc_kind.nd rfl (.inl rfl) (pe_lst (pa_cons (pe_callB (id := "isinstance") call_isA (by rfl) z_isinstance (by decide +kernel) (pa_cons (pv 0) (pa_cons (pe_glob (v := .ref _) (by rfl) g_NoAsk rfl) pa_nil))) (pa_cons (pe_callB (id := "isinstance") call_isA (by rfl) z_isinstance (by decide +kernel) (pa_cons (pv 0) (pa_cons (pe_glob (v := .ref _) (by rfl) g_NoBack rfl) pa_nil))) (pa_cons (pe_callB (id := "isinstance") call_isA (by rfl) z_isinstance (by decide +kernel) (pa_cons (pv 0) (pa_cons (pe_glob (v := .ref _) (by rfl) g_NoFit rfl) pa_nil))) pa_nil)))))
 (pss_cons (ps_set (i := 1) sc_kind.nd rfl (.inl rfl) (pe_op op_cat (pv 1) (pe_lst (pa_cons (pe_callB (id := "isinstance") call_isA (by rfl) z_isinstance (by decide +kernel) (pa_cons (pv 0) (pa_cons (pe_glob (v := .ref _) (by rfl) g_NoNumber rfl) pa_nil))) (pa_cons (pe_callB (id := "isinstance") call_isA (by rfl) z_isinstance (by decide +kernel) (pa_cons (pv 0) (pa_cons (pe_glob (v := .ref _) (by rfl) g_NoRule rfl) pa_nil))) pa_nil)))))
 (pss_cons (ps_if (PW.pt (pw_or (pt_not (pt_val (pe_callB (id := "isinstance") call_isA (by rfl) z_isinstance (by decide +kernel) (pa_cons (pv 0) (pa_cons (pe_glob (v := .ref _) (by rfl) g_RowError rfl) pa_nil))))) (pw_or (pt_not (pt_val (pe_callB (id := "isinstance") call_isA (by rfl) z_isinstance (by decide +kernel) (pa_cons (pv 0) (pa_cons (pe_bltn (v := .ty "ValueError") (by rfl) z_ValueError (by decide +kernel) rfl) pa_nil))))) (pw_or1 (pt_cmpR op_ne (pe_bm PySem.F.plainAttrs_list PySem.F.slot_list_count PySem.F.type_list_count mt_countA (pv 1) (pa_cons pe_bl pa_nil)) pe_int (nomark _)))))) (pss_one (ps_ret (pe_tup (pa_cons pe_str pa_nil)))) pss_nil)
 (pss_cons (ps_if (pt_val (pe_ix ix_list (pv 1) pe_int (fun _ _ => rfl))) (pss_one (ps_ret (pe_tup (pa_cons pe_str (pa_cons (pe_xv (pv 0)) pa_nil))))) pss_nil)
 (pss_one (ps_ret (pe_tup (pa_cons (pe_ix ix_list (pe_lst (pa_cons pe_str (pa_cons pe_str (pa_cons pe_str (pa_cons pe_str (pa_cons pe_str pa_nil)))))) (pe_bm PySem.F.plainAttrs_list PySem.F.slot_list_index PySem.F.type_list_index mt_index (pv 1) (pa_cons pe_bl pa_nil)) (fun _ _ => rfl)) pa_nil)))))))), ?_⟩
    have hasd : HasD H (some dd) := fun dx z => by cases z; exact ⟨_, hd⟩
    refine ⟨_, rfl, .inl ⟨e, CN, some dd, _, _, false, rfl, .own _, he, hasd, Y.xc, Y.a, ?_⟩⟩
    refine ⟨_, rfl, .inl ⟨e, CN, some dd, _, _, false, rfl, .own _, he, hasd, Y.xc, Y.b, ?_⟩⟩
    refine ⟨_, rfl, .inl ⟨e, CN, some dd, _, _, false, rfl, .own _, he, hasd, Y.xc, Y.f, ?_⟩⟩
    refine ⟨by show 3 ≤ sizeLine; decide, fun p1 np1 => ?_⟩
    have s1 := same_new (o := .lst [.bl false, .bl false, .bl false]) np1
    have hasd1 : HasD (upd H p1 (.lst [.bl false, .bl false, .bl false])) (some dd) := fun dx z => by cases z; exact ⟨_, s1 _ _ hd⟩
    refine ⟨_, rfl, _, rfl, .inl ⟨e, CN, some dd, _, _, true, rfl, .own _, s1 _ _ he, hasd1, Y.xc, Y.n, ?_⟩⟩
    refine ⟨_, rfl, .inl ⟨e, CN, some dd, _, _, false, rfl, .own _, s1 _ _ he, hasd1, Y.xc, Y.u, ?_⟩⟩
    refine ⟨by show 2 ≤ sizeLine; decide, fun p2 np2 => ?_⟩
    have s2 := same_new (o := .lst [.bl true, .bl false]) np2
    refine ⟨p1, p2, _, _, rfl, rfl, s2 _ _ upd_same, upd_same, by show 5 ≤ sizeLine; decide, fun p3 np3 => ?_⟩
    have s3 := same_new (o := .lst ([V.bl false, .bl false, .bl false] ++ [.bl true, .bl false])) np3
    have S := s1.trans (s2.trans s3)
    have hasd3 : HasD _ (some dd) := fun dx z => by cases z; exact ⟨_, S _ _ hd⟩
    refine ⟨_, rfl, .inl ⟨e, CN, some dd, _, _, true, rfl, .own _, S _ _ he, hasd3, Y.xc, Y.r, _, rfl, ifF rfl ?_⟩⟩
    refine ⟨_, rfl, .inl ⟨e, CN, some dd, _, _, true, rfl, .ty _, S _ _ he, hasd3, Y.xc, Y.v, _, rfl, ifF rfl ?_⟩⟩
    refine ⟨_, rfl, .inl ⟨rfl, _, SqL.of upd_same⟩, p3, _, .bl true, rfl, rfl, SqL.of upd_same, rfl, rfl, rfl, _, rfl, ifF (by rfl) ?_⟩
    refine ⟨_, rfl, p3, _, 3, .bl true, rfl, rfl, SqL.of upd_same, rfl, _, rfl, ifT rfl ?_⟩
    refine ⟨_, rfl, e, CN, dd, _, v, rfl, S _ _ he, Y.xc, nf, S _ _ hd, rfl, by show 2 ≤ sizeLine; decide, fun p np => ?_⟩
    exact q _ p (S.trans (same_new np)) (S.free np) upd_same
  · obtain ⟨e, rfl, he, q⟩ := h
    refine ⟨_, (pss_cons (ps_set (i := 1) sc_kind.nd rfl (.inl rfl) (pe_lst (pa_cons (pe_callB (id := "isinstance") call_isA (by rfl) z_isinstance (by decide +kernel) (pa_cons (pv 0) (pa_cons (pe_glob (v := .ref _) (by rfl) g_NoAsk rfl) pa_nil))) (pa_cons (pe_callB (id := "isinstance") call_isA (by rfl) z_isinstance (by decide +kernel) (pa_cons (pv 0) (pa_cons (pe_glob (v := .ref _) (by rfl) g_NoBack rfl) pa_nil))) (pa_cons (pe_callB (id := "isinstance") call_isA (by rfl) z_isinstance (by decide +kernel) (pa_cons (pv 0) (pa_cons (pe_glob (v := .ref _) (by rfl) g_NoFit rfl) pa_nil))) pa_nil)))))
 (pss_cons (ps_set (i := 1) sc_kind.nd rfl (.inl rfl) (pe_op op_cat (pv 1) (pe_lst (pa_cons (pe_callB (id := "isinstance") call_isA (by rfl) z_isinstance (by decide +kernel) (pa_cons (pv 0) (pa_cons (pe_glob (v := .ref _) (by rfl) g_NoNumber rfl) pa_nil))) (pa_cons (pe_callB (id := "isinstance") call_isA (by rfl) z_isinstance (by decide +kernel) (pa_cons (pv 0) (pa_cons (pe_glob (v := .ref _) (by rfl) g_NoRule rfl) pa_nil))) pa_nil)))))
 (pss_cons (ps_if (PW.pt (pw_or (pt_not (pt_val (pe_callB (id := "isinstance") call_isA (by rfl) z_isinstance (by decide +kernel) (pa_cons (pv 0) (pa_cons (pe_glob (v := .ref _) (by rfl) g_RowError rfl) pa_nil))))) (pw_or (pt_not (pt_val (pe_callB (id := "isinstance") call_isA (by rfl) z_isinstance (by decide +kernel) (pa_cons (pv 0) (pa_cons (pe_bltn (v := .ty "ValueError") (by rfl) z_ValueError (by decide +kernel) rfl) pa_nil))))) (pw_or1 (pt_cmpR op_ne (pe_bm PySem.F.plainAttrs_list PySem.F.slot_list_count PySem.F.type_list_count mt_countA (pv 1) (pa_cons pe_bl pa_nil)) pe_int (nomark _)))))) (pss_one (ps_ret (pe_tup (pa_cons pe_str pa_nil)))) pss_nil)
 (pss_cons (ps_if (pt_val (pe_ix ix_list (pv 1) pe_int (fun _ _ => rfl))) (pss_one (ps_ret (pe_tup (pa_cons pe_str (pa_cons (pe_xv (pv 0)) pa_nil))))) pss_nil)
 (pss_one (ps_ret (pe_tup (pa_cons (pe_ix ix_list (pe_lst (pa_cons pe_str (pa_cons pe_str (pa_cons pe_str (pa_cons pe_str (pa_cons pe_str pa_nil)))))) (pe_bm PySem.F.plainAttrs_list PySem.F.slot_list_index PySem.F.type_list_index mt_index (pv 1) (pa_cons pe_bl pa_nil)) (fun _ _ => rfl)) pa_nil)))))))), ?_⟩
    have hasd : ∀ H' : Hp, HasD H' none := fun H' dx z => by cases z
    refine ⟨_, rfl, .inl ⟨e, CB, none, _, _, false, rfl, .own _, he, hasd _, Z.xc, Z.a, ?_⟩⟩
    refine ⟨_, rfl, .inl ⟨e, CB, none, _, _, true, rfl, .own _, he, hasd _, Z.xc, Z.b, ?_⟩⟩
    refine ⟨_, rfl, .inl ⟨e, CB, none, _, _, false, rfl, .own _, he, hasd _, Z.xc, Z.f, ?_⟩⟩
    refine ⟨by show 3 ≤ sizeLine; decide, fun p1 np1 => ?_⟩
    have s1 := same_new (o := .lst [.bl false, .bl true, .bl false]) np1
    refine ⟨_, rfl, _, rfl, .inl ⟨e, CB, none, _, _, false, rfl, .own _, s1 _ _ he, hasd _, Z.xc, Z.n, ?_⟩⟩
    refine ⟨_, rfl, .inl ⟨e, CB, none, _, _, false, rfl, .own _, s1 _ _ he, hasd _, Z.xc, Z.u, ?_⟩⟩
    refine ⟨by show 2 ≤ sizeLine; decide, fun p2 np2 => ?_⟩
    have s2 := same_new (o := .lst [.bl false, .bl false]) np2
    refine ⟨p1, p2, _, _, rfl, rfl, s2 _ _ upd_same, upd_same, by show 5 ≤ sizeLine; decide, fun p3 np3 => ?_⟩
    have s3 := same_new (o := .lst ([V.bl false, .bl true, .bl false] ++ [.bl false, .bl false])) np3
    have S := s1.trans (s2.trans s3)
    refine ⟨_, rfl, .inl ⟨e, CB, none, _, _, true, rfl, .own _, S _ _ he, hasd _, Z.xc, Z.r, _, rfl, ifF rfl ?_⟩⟩
    refine ⟨_, rfl, .inl ⟨e, CB, none, _, _, true, rfl, .ty _, S _ _ he, hasd _, Z.xc, Z.v, _, rfl, ifF rfl ?_⟩⟩
    refine ⟨_, rfl, .inl ⟨rfl, _, SqL.of upd_same⟩, p3, _, .bl true, rfl, rfl, SqL.of upd_same, rfl, rfl, rfl, _, rfl, ifF (by rfl) ?_⟩
    refine ⟨_, rfl, p3, _, 3, .bl false, rfl, rfl, SqL.of upd_same, rfl, _, rfl, ifF rfl ?_⟩
    refine ⟨by show 5 ≤ sizeLine; decide, fun p4 np4 => ?_⟩
    have s4 := same_new (o := .lst [.str "ask", .str "back", .str "fit", .str "number", .str "rule"]) np4
    have h3 : (upd (upd (upd (upd H p1 (.lst [.bl false, .bl true, .bl false])) p2 (.lst [.bl false, .bl false])) p3 (.lst ([V.bl false, .bl true, .bl false] ++ [.bl false, .bl false]))) p4 (.lst [.str "ask", .str "back", .str "fit", .str "number", .str "rule"])) p3 = some (.lst [.bl false, .bl true, .bl false, .bl false, .bl false]) := s4 _ _ upd_same
    refine ⟨_, rfl, .inl ⟨rfl, _, SqL.of h3⟩, p3, _, .bl true, 1, .bl true, rfl, rfl, SqL.of h3, rfl, rfl, rfl, rfl, ?_, ?_⟩
    · intro j z hj hz
      have : j = 0 := by omega
      subst this
      obtain rfl : V.bl false = z := Option.some.inj hz
      rfl
    · refine ⟨p4, _, 1, .str "back", rfl, rfl, SqL.of upd_same, rfl, by show 1 ≤ sizeLine; decide, fun p np => ?_⟩
      exact q _ p ((S.trans s4).trans (same_new np)) ((S.trans s4).free np) upd_same
end
end Tw


namespace Tw
open PySem PySem.Spec PyProof.Rows L2
abbrev s_init : Stmt := inClass (topS 6) 0
theorem sc_init : FnScope ["self", "number"] ["self", "number"] (defScope s_init) := ⟨rfl, rfl, rfl, by decide +kernel, rfl, by decide +kernel, by decide +kernel⟩
abbrev s_is_whole : Stmt := topS 8
theorem sc_is_whole : FnScope ["thing"] ["thing"] (defScope s_is_whole) := ⟨rfl, rfl, rfl, by decide +kernel, rfl, by decide +kernel, by decide +kernel⟩
abbrev s_is_number : Stmt := topS 9
theorem sc_is_number : FnScope ["thing", "bound"] ["thing", "bound"] (defScope s_is_number) := ⟨rfl, rfl, rfl, by decide +kernel, rfl, by decide +kernel, by decide +kernel⟩
abbrev s_check_number : Stmt := topS 10
theorem sc_check_number : FnScope ["number", "bound"] ["number", "bound"] (defScope s_check_number) := ⟨rfl, rfl, rfl, by decide +kernel, rfl, by decide +kernel, by decide +kernel⟩
section
variable {P : Program} {w : World} {K : PySem.W.Frag} {mg : Str → Option Value} {base : Heap}
theorem ok_init {f CR : Addr} {fd : FuncData} (F : Fun K "__init__" "NoNumber.__init__" s_init f fd) (g_RowError : mg "RowError" = some (.ref CR)) (r_RowError : ClX.CRead K CR (.type "type"))
    (i_RowError : PySem.W.findCls K (.ref CR) (.type "type") "__init__" = some (.val (.builtin "ValueError.__init__"))) : FnOk P w K mg base CX0 1 f fd ["self", "number"] (spInit K) := by
  refine F.ok sc_init (fun vs H Q E h => ?_) (fun cdv A outer s H vs Q E hr h => ?_)
  · obtain ⟨_, _, rfl, _⟩ := h; rfl
  obtain ⟨_, v, rfl, a, C, rfl, T, nf, ha, q⟩ := h
  refine ⟨_, pss_cons (ps_expr (pe_ownInit (by rfl) g_RowError r_RowError i_RowError (pa_cons (pv 0) (pa_cons pe_str pa_nil)))) (pss_one (ps_ost (pv 0) (pv 1))), ?_⟩
  refine ⟨_, rfl, a, C, _, rfl, by show 1 ≤ 1000; decide, T, ha, ?_⟩
  exact ⟨_, rfl, _, rfl, a, C, rfl, T, nf, .inl ⟨ha, fun d nd ne => q d nd ne⟩⟩
theorem ok_is_whole (D : Top K mg "is_whole" s_is_whole ["thing"]) (z_isinstance : mg "isinstance" = none) (z_int : mg "int" = none) (z_bool : mg "bool" = none) : Has P w K mg base CX0 1 "is_whole" ["thing"] (sp1 pWhole) := by
  refine D.ok1 sc_is_whole (fun f cdv A outer s H v1 Q E hr h => ?_)
  obtain ⟨n, rfl, q⟩ := h
  refine ⟨_, (pss_one (ps_ret (pe_and (pe_callB (id := "isinstance") call_isA (by rfl) z_isinstance (by decide +kernel) (pa_cons (pv 0) (pa_cons (pe_bltn (v := .ty "int") (by rfl) z_int (by decide +kernel) rfl) pa_nil))) (pe_one (pe_not (pe_callB (id := "isinstance") call_isA (by rfl) z_isinstance (by decide +kernel) (pa_cons (pv 0) (pa_cons (pe_bltn (v := .ty "bool") (by rfl) z_bool (by decide +kernel) rfl) pa_nil)))))))), ?_⟩
  refine ⟨_, rfl, .inr ⟨_, _, _, _, true, rfl, .ty _, .base (.int n), kit_ty (by decide +kernel), _, rfl, ifT rfl ?_⟩⟩
  exact ⟨_, rfl, .inr ⟨_, _, _, _, false, rfl, .ty _, .base (.int n), kit_ty (by decide +kernel), _, rfl, q⟩⟩
theorem ok_is_number (D : Top K mg "is_number" s_is_number ["thing", "bound"]) (h_is_whole : Has P w K mg base CX0 1 "is_whole" ["thing"] (sp1 pWhole)) : Has P w K mg base CX0 2 "is_number" ["thing", "bound"] (sp2 pIsNum) := by
  refine D.ok2 sc_is_number (fun f cdv A outer s H v1 v2 Q E hr h => ?_)
  obtain ⟨n, m, rfl, rfl, q⟩ := h
  refine ⟨_, (pss_one (ps_ret (pe_and (pe_own h_is_whole (hr.mono (by decide)) pass0 (pa_cons (pv 0) pa_nil)) (pe_one (pe_chain op_le op_lt pe_int (pv 0) (pv 1)))))), ?_⟩
  refine ⟨_, rfl, _, rfl, n, rfl, _, rfl, ifT rfl ?_⟩
  refine ⟨_, rfl, _, _, rfl, rfl, _, rfl, ifD (fun l => ⟨_, rfl, _, _, rfl, rfl, ?_⟩) (fun l => ?_)⟩
  · have e : decide (0 ≤ n ∧ n < m) = decide (n < m) := by
      by_cases h : n < m <;> simp [h, l]
    rw [e] at q
    exact q
  · have e : decide (0 ≤ n ∧ n < m) = false := decide_eq_false fun z => l z.1
    rw [e] at q
    exact q
theorem ok_check_number {CN fI : Addr} {fdI : FuncData} (D : Top K mg "check_number" s_check_number ["number", "bound"]) (h_is_number : Has P w K mg base CX0 2 "is_number" ["thing", "bound"] (sp2 pIsNum)) (oex_NoNumber : OexC K CN)
    (n_NoNumber : PySem.W.findIn K (.ref CN) "__init__" = some (some (.ref fI))) (t_NoNumber : PySem.W.typeIn K (.ref fI) = some (.type "function")) (F_NoNumber : FnOk P w K mg base CX0 1 fI fdI ["self", "number"] (spInit K)) (b_NoNumber : Binds K fdI ["self", "number"] [])
    (g_NoNumber : mg "NoNumber" = some (.ref CN)) (nf : PySem.W.findIn K (.ref CN) "number" = some none) : Has P w K mg base (L2.CX P w) 3 "check_number" ["number", "bound"] (sp2 (pCheck CN)) := by
  refine D.ok2X sc_check_number (fun f cdv A outer s H v1 v2 Q E hr h => ?_)
  obtain ⟨n, m, rfl, rfl, q, e⟩ := h
  refine ⟨_, (pss_one (ps_if (pt_not (pt_val (pe_own h_is_number (hr.mono (by decide)) pass0 (pa_cons (pv 0) (pa_cons (pv 1) pa_nil))))) (pss_one (ps_raise rfl (takes_of rfl rfl rfl rfl) (pmk_oex oex_NoNumber n_NoNumber t_NoNumber F_NoNumber (hr.mono (by decide)) b_NoNumber .nil pass0 (by rfl) g_NoNumber (pa_cons (pv 0) pa_nil)))) pss_nil)), ?_⟩
  have bad : ¬ (0 ≤ n ∧ n < m) → _ := fun hn => e hn
  refine ⟨_, rfl, _, rfl, _, _, rfl, n, m, rfl, rfl, _, rfl, ifN (fun l => ?_) (fun l => q l.1 l.2)⟩
  refine ⟨_, rfl, by show 1 ≤ 1000; decide, fun a na => ⟨_, _, rfl, a, CN, rfl, oex_NoNumber, nf, upd_same, fun d nd ne => ⟨rfl, d, [("number", .int n)], upd_same, ?_, ?_, ?_⟩⟩⟩
  · rw [upd_ne ne, upd_same]
  · rw [upd_ne ne] at nd; exact nd
  · rw [made_eq na ne]
    rw [upd_ne ne] at nd
    exact bad l d nd
end
end Tw


namespace Tw
open PySem PySem.Spec PyProof.Rows L2
abbrev s_next_of : Stmt := topS 14
theorem sc_next_of : FnScope ["rule", "number", "times", "plus", "bound"] ["rule", "number"] (defScope s_next_of) := ⟨rfl, rfl, rfl, by decide +kernel, rfl, by decide +kernel, by decide +kernel⟩
section
variable {P : Program} {w : World} {K : PySem.W.Frag} {mg : Str → Option Value} {base : Heap}
theorem ok_next_of {CN : Addr} (D : Top K mg "next_of" s_next_of ["rule", "number"]) (h_check_number : Has P w K mg base (L2.CX P w) 3 "check_number" ["number", "bound"] (sp2 (pCheck CN))) :
    Has P w K mg base (L2.CX P w) 4 "next_of" ["rule", "number"] (sp2 (pNextOf K CN)) := by
  refine D.ok2X sc_next_of (fun f cdv A outer s H v1 v2 Q E hr h => ?_)
  obtain ⟨r, t, p, m, n, rfl, rfl, hr1, R, q, e⟩ := h
  refine ⟨_, (pss_cons (ps_asg (pv 0) (pg_tup rfl (pgs_cons (pg_name (i := 2) sc_next_of.nd rfl (.inl rfl)) (pgs_cons (pg_name (i := 3) sc_next_of.nd rfl (.inl rfl)) (pgs_cons (pg_name (i := 4) sc_next_of.nd rfl (.inl rfl)) pgs_nil)))))
 (pss_cons (ps_expr (pe_own h_check_number (hr.mono (by decide)) (passes_call (takes_of rfl rfl rfl rfl) (fun _ _ _ _ z => z)) (pa_cons (pv 1) (pa_cons (pv 4) pa_nil))))
 (pss_one (ps_ret (pe_op op_mod (pe_op op_add (pe_op op_mulB (pv 2) (pv 1)) (pv 3)) (pv 4)))))), ?_⟩
  refine ⟨_, rfl, r, _, rfl, hr1, rfl, _, _, rfl, _, _, rfl, _, _, rfl, rfl, ?_⟩
  refine ⟨_, rfl, _, rfl, _, _, rfl, n, m, rfl, rfl, fun n0 n1 => ?_, e⟩
  have := R.b2
  have := R.t0
  have := R.t1
  have := R.b1
  exact ⟨_, rfl, _, rfl, _, _, rfl, rfl, ⟨by unfold Big; omega, by unfold Big; omega⟩, _, rfl, _, _, rfl, rfl, _, rfl, _, _, rfl, rfl, (show (0 : Int) < m by omega), q n0 n1⟩
end
end Tw


namespace Tw
open PySem PySem.Spec PyProof.Rows L2
abbrev s_common_divisor : Stmt := topS 11
theorem sc_common_divisor : FnScope ["one", "other"] ["one", "other"] (defScope s_common_divisor) := ⟨rfl, rfl, rfl, by decide +kernel, rfl, by decide +kernel, by decide +kernel⟩
section
variable {P : Program} {w : World} {K : PySem.W.Frag} {mg : Str → Option Value} {base : Heap}
theorem ok_common_divisor (D : Top K mg "common_divisor" s_common_divisor ["one", "other"]) : Has P w K mg base CX0 1 "common_divisor" ["one", "other"] (sp2 pGcd) := by
  refine D.ok2 sc_common_divisor (fun f cdv A outer s H v1 v2 Q E hr h => ?_)
  obtain ⟨x, y, rfl, rfl, x0, y0, q⟩ := h
  refine ⟨_, (pss_cons (ps_while PassesOwn.never (pt_cmpR op_ne (pv 1) pe_int (nomark _)) (pss_one (ps_par (i := 0) (j := 1) (by rfl) sc_common_divisor.nd rfl rfl (by decide) rfl rfl (pa_cons (pv 1) (pa_cons (pe_op op_mod (pv 0) (pv 1)) pa_nil)) (by rfl))))
 (pss_one (ps_ret (pv 0)))), ?_⟩
  refine ⟨fun k σ H' => ∃ a b : Int, σ = [some (.int a), some (.int b)] ∧ H' = H ∧ 0 ≤ a ∧ 0 ≤ b ∧ b.toNat = k ∧ Int.gcd a b = Int.gcd x y, ⟨y.toNat, x, y, rfl, rfl, x0, y0, rfl, rfl⟩, ?_⟩
  rintro k σ H' ⟨a, b, rfl, rfl, a0, b0, hk, hg⟩
  refine ⟨_, rfl, rfl, _, rfl, ifNI (fun nb => ?_) (fun nb => ?_)⟩
  · have bp : 0 < b := by omega
    have mr := mod_bd a bp
    refine ⟨fun σ' H1 => ∃ k', k' < k ∧ ∃ a b : Int, σ' = [some (.int a), some (.int b)] ∧ H1 = H' ∧ 0 ≤ a ∧ 0 ≤ b ∧ b.toNat = k' ∧ Int.gcd a b = Int.gcd x y, fun _ _ z => z, ?_⟩
    refine ⟨_, rfl, _, rfl, _, rfl, _, _, rfl, rfl, bp, _, _, rfl, (a % b).toNat, by omega, b, a % b, rfl, rfl, b0, mr.1, rfl, (gcd_step a0 bp).trans hg⟩
  · subst nb
    refine ⟨_, rfl, ?_⟩
    have e : ((Int.gcd x y : Nat) : Int) = a := by
      rw [← hg, Int.gcd_zero_right]
      omega
    rw [e] at q
    exact q
end
end Tw


namespace Tw
open PySem PySem.Spec PyProof.Rows L2
abbrev s_inverse : Stmt := topS 12
theorem sc_inverse : FnScope ["number", "bound", "high", "low", "high_factor", "low_factor", "goes_in"] ["number", "bound"] (defScope s_inverse) := ⟨rfl, rfl, rfl, by decide +kernel, rfl, by decide +kernel, by decide +kernel⟩
section
variable {P : Program} {w : World} {K : PySem.W.Frag} {mg : Str → Option Value} {base : Heap}
theorem ok_inverse (D : Top K mg "inverse" s_inverse ["number", "bound"]) : Has P w K mg base CX0 1 "inverse" ["number", "bound"] (sp2 pInv) := by
  refine D.ok2 sc_inverse (fun f cdv A outer s H v1 v2 Q E hr h => ?_)
  obtain ⟨x, m, rfl, rfl, x0, m0, m1, hg, q⟩ := h
  refine ⟨_, (pss_cons (ps_par (i := 2) (j := 3) (by rfl) sc_inverse.nd rfl rfl (by decide) rfl rfl (pa_cons (pv 1) (pa_cons (pe_op op_mod (pv 0) (pv 1)) pa_nil)) (by rfl))
 (pss_cons (ps_asg (pe_tup (pa_cons pe_int (pa_cons pe_int pa_nil))) (pg_tup rfl (pgs_cons (pg_name (i := 4) sc_inverse.nd rfl (.inl rfl)) (pgs_cons (pg_name (i := 5) sc_inverse.nd rfl (.inl rfl)) pgs_nil))))
 (pss_cons (ps_while PassesOwn.never (pt_cmpR op_ne (pv 3) pe_int (nomark _)) (pss_cons (ps_set (i := 6) sc_inverse.nd rfl (.inl rfl) (pe_op op_fdivB (pv 2) (pv 3)))
 (pss_cons (ps_par (i := 2) (j := 3) (by rfl) sc_inverse.nd rfl rfl (by decide) rfl rfl (pa_cons (pv 3) (pa_cons (pe_op op_sub (pv 2) (pe_op op_mulB (pv 6) (pv 3))) pa_nil)) (by rfl))
 (pss_one (ps_par (i := 4) (j := 5) (by rfl) sc_inverse.nd rfl rfl (by decide) rfl rfl (pa_cons (pv 5) (pa_cons (pe_op op_sub (pv 4) (pe_op op_mulB (pv 6) (pv 5))) pa_nil)) (by rfl))))))
 (pss_one (ps_ret (pe_op op_mod (pv 4) (pv 1))))))), ?_⟩
  have xr := mod_bd x m0
  refine ⟨_, rfl, _, rfl, _, rfl, _, _, rfl, rfl, m0, _, _, rfl, ?_⟩
  refine ⟨by show 2 ≤ sizeLine; decide, fun z nz => ⟨z, _, rfl, SqT.of upd_same, rfl, _, _, rfl, _, _, rfl, rfl, ?_⟩⟩
  refine ⟨fun k σ H' => ∃ (hi lo hf lf A B : Int) (y : Option V), σ = [some (.int x), some (.int m), some (.int hi), some (.int lo), some (.int hf), some (.int lf), y] ∧ H' = upd H z (.tup [.int 0, .int 1]) ∧ 0 ≤ lo ∧ 0 < hi ∧ lo.toNat = k ∧ Int.gcd hi lo = 1 ∧ m ∣ hf * x - hi ∧ m ∣ lf * x - lo ∧
    -A ≤ hf ∧ hf ≤ A ∧ -B ≤ lf ∧ lf ≤ B ∧ 0 ≤ A ∧ 0 ≤ B ∧ A * lo + B * hi = m ∧ hi ≤ m ∧ lo ≤ m, ⟨(x % m).toNat, m, x % m, 0, 1, 0, 1, none, rfl, rfl, xr.1, m0, rfl, ?_, ⟨-1, by omega⟩, ⟨x / m, ?_⟩, by omega, by omega, by omega, by omega, by omega, by omega, by omega, by omega, by omega⟩, ?_⟩
  · rw [gcd_step x0 m0]; exact hg
  · have := Int.mul_ediv_add_emod x m
    omega
  rintro k σ H' ⟨hi, lo, hf, lf, A, B, y, rfl, rfl, l0, h0, hk, gg, d1, d2, a1, a2, b1, b2, A0, B0, hm, him, lm⟩
  refine ⟨_, rfl, rfl, _, rfl, ifNI (fun nb => ?_) (fun nb => ?_)⟩
  · have lp : 0 < lo := by omega
    have mr := mod_bd hi lp
    have dv := Int.mul_ediv_add_emod hi lo
    have q0 : 0 ≤ hi / lo := Int.ediv_nonneg (by omega) l0
    have qh : hi / lo ≤ hi := Int.ediv_le_self _ (by omega)
    obtain ⟨qq, eqq⟩ : ∃ qq, qq = hi / lo := ⟨_, rfl⟩
    rw [← eqq] at dv q0 qh
    have e3 : hi - qq * lo = hi % lo := by rw [Int.mul_comm qq lo]; omega
    have Bm : B ≤ m := by
      have h1 := mul_bd B0 (Int.le_refl B) (show (0:Int) ≤ 1 by decide) (show (1:Int) ≤ hi by omega)
      have h2 := Int.mul_nonneg A0 l0
      have h3 := Int.mul_le_mul_of_nonneg_left (show (1:Int) ≤ hi by omega) B0
      omega
    refine ⟨fun σ' H1 => ∃ k', k' < k ∧ ∃ (hi lo hf lf A B : Int) (y : Option V), σ' = [some (.int x), some (.int m), some (.int hi), some (.int lo), some (.int hf), some (.int lf), y] ∧ H1 = upd H z (.tup [.int 0, .int 1]) ∧ 0 ≤ lo ∧ 0 < hi ∧ lo.toNat = k' ∧ Int.gcd hi lo = 1 ∧ m ∣ hf * x - hi ∧ m ∣ lf * x - lo ∧
      -A ≤ hf ∧ hf ≤ A ∧ -B ≤ lf ∧ lf ≤ B ∧ 0 ≤ A ∧ 0 ≤ B ∧ A * lo + B * hi = m ∧ hi ≤ m ∧ lo ≤ m, fun _ _ z => z, ?_⟩
    have qB := Int.mul_nonneg q0 B0
    have ab1 : -(qq * B) ≤ qq * lf := by have := Int.mul_le_mul_of_nonneg_left b1 q0; rw [Int.mul_neg] at this; exact this
    have ab2 : qq * lf ≤ qq * B := Int.mul_le_mul_of_nonneg_left b2 q0
    have f1 : m ∣ (hf - qq * lf) * x - (hi - qq * lo) := by
      obtain ⟨c1, e1⟩ := d1
      obtain ⟨c2, e2⟩ := d2
      exact ⟨c1 - qq * c2, by grind⟩
    have f2 : B * (hi - qq * lo) + (A + qq * B) * lo = m := by rw [← hm]; grind
    have f3 : Int.gcd lo (hi - qq * lo) = 1 := by rw [e3, gcd_step (by omega) lp]; exact gg
    have g1 : 0 ≤ hi - qq * lo ∧ hi - qq * lo < lo := by omega
    have g2 : -(A + qq * B) ≤ hf - qq * lf ∧ hf - qq * lf ≤ A + qq * B ∧ 0 ≤ A + qq * B := by omega
    have g3 : Big qq ∧ Big lo ∧ Big lf := by unfold Big; omega
    subst eqq
    refine ⟨_, rfl, _, rfl, _, _, rfl, rfl, ⟨lp, by omega⟩, ?_⟩
    refine ⟨_, rfl, _, rfl, _, rfl, _, rfl, _, _, rfl, rfl, ⟨g3.1, g3.2.1⟩, _, _, rfl, rfl, _, _, rfl, ?_⟩
    refine ⟨_, rfl, _, rfl, _, rfl, _, rfl, _, _, rfl, rfl, ⟨g3.1, g3.2.2⟩, _, _, rfl, rfl, _, _, rfl, ?_⟩
    refine ⟨(hi - hi / lo * lo).toNat, by omega, lo, hi - hi / lo * lo, lf, hf - hi / lo * lf, B, A + hi / lo * B, some (.int (hi / lo)), rfl, rfl, g1.1, lp, rfl, f3, d2, f1, b1, b2, g2.1, g2.2.1, B0, g2.2.2, f2, lm, by omega⟩
  · subst nb
    rw [Int.gcd_zero_right] at gg
    have h1 : hi = 1 := by omega
    subst h1
    have vr := mod_bd hf m0
    refine ⟨_, rfl, _, rfl, _, _, rfl, rfl, m0, q _ _ (same_new nz) vr.1 vr.2 ?_⟩
    rw [Int.mul_emod, Int.emod_emod, ← Int.mul_emod]
    obtain ⟨c1, e1⟩ := d1
    rw [show x * hf = 1 + m * c1 by grind, Int.add_mul_emod_self_left]
end
end Tw


namespace Tw
open PySem PySem.Spec PyProof.Rows L2
abbrev s_chained : Stmt := topS 18
theorem sc_chained : FnScope ["first", "second", "times", "plus", "bound", "more_times", "more_plus"] ["first", "second"] (defScope s_chained) := ⟨rfl, rfl, rfl, by decide +kernel, rfl, by decide +kernel, by decide +kernel⟩
abbrev s_rule_of_steps : Stmt := topS 17
theorem sc_rule_of_steps : FnScope ["rule", "steps", "bound", "done", "doubled", "left"] ["rule", "steps"] (defScope s_rule_of_steps) := ⟨rfl, rfl, rfl, by decide +kernel, rfl, by decide +kernel, by decide +kernel⟩
section
variable {P : Program} {w : World} {K : PySem.W.Frag} {mg : Str → Option Value} {base : Heap}
theorem ok_chained (D : Top K mg "chained" s_chained ["first", "second"]) : Has P w K mg base CX0 1 "chained" ["first", "second"] (sp2 (pChained K)) := by
  refine D.ok2 sc_chained (fun f cdv A outer s H v1 v2 Q E hr h => ?_)
  obtain ⟨r1, r2, t1, p1, t2, p2, m, rfl, rfl, h1, h2, R1, R2, q⟩ := h
  refine ⟨_, (pss_cons (ps_asg (pv 0) (pg_tup rfl (pgs_cons (pg_name (i := 2) sc_chained.nd rfl (.inl rfl)) (pgs_cons (pg_name (i := 3) sc_chained.nd rfl (.inl rfl)) (pgs_cons (pg_name (i := 4) sc_chained.nd rfl (.inl rfl)) pgs_nil)))))
 (pss_cons (ps_par (i := 5) (j := 6) (by rfl) sc_chained.nd rfl rfl (by decide) rfl rfl (pa_cons (pe_ix ix_tup (pv 1) pe_int (fun _ _ => rfl)) (pa_cons (pe_ix ix_tup (pv 1) pe_int (fun _ _ => rfl)) pa_nil)) (by rfl))
 (pss_one (ps_ret (pe_tup (pa_cons (pe_op op_mod (pe_op op_mulB (pv 5) (pv 2)) (pv 4)) (pa_cons (pe_op op_mod (pe_op op_add (pe_op op_mulB (pv 5) (pv 3)) (pv 6)) (pv 4)) (pa_cons (pv 4) pa_nil)))))))), ?_⟩
  have a1 := R1.t0
  have a2 := R1.t1
  have a3 := R1.p0
  have a4 := R1.p1
  have a5 := R1.b2
  have a6 := R1.b1
  have b1 := R2.t0
  have b2 := R2.t1
  refine ⟨_, rfl, r1, _, rfl, h1, rfl, _, _, rfl, _, _, rfl, _, _, rfl, rfl, ?_⟩
  refine ⟨_, rfl, r2, _, 0, .int t2, rfl, rfl, h2, rfl, _, rfl, r2, _, 1, .int p2, rfl, rfl, h2, rfl, _, _, rfl, ?_⟩
  refine ⟨_, rfl, _, rfl, _, _, rfl, rfl, ⟨by unfold Big; omega, by unfold Big; omega⟩, _, rfl, _, _, rfl, rfl, (show (0 : Int) < m by omega), ?_⟩
  refine ⟨_, rfl, _, rfl, _, _, rfl, rfl, ⟨by unfold Big; omega, by unfold Big; omega⟩, _, rfl, _, _, rfl, rfl, _, rfl, _, _, rfl, rfl, (show (0 : Int) < m by omega), ?_⟩
  refine ⟨_, rfl, by show 3 ≤ sizeLine; decide, fun u nu => q _ u (same_new nu) nu upd_same⟩
theorem rs_one {t p m : Int} (R : Rule t p m) : rsT t m 1 = t ∧ rsP t p m 1 = p := by
  constructor
  · unfold rsT
    rw [Int.pow_one]
    exact Int.emod_eq_of_lt R.t0 R.t1
  · unfold rsP
    show p * (0 + t ^ 0) % m = p
    rw [Int.pow_zero, Int.zero_add, Int.mul_one]
    exact Int.emod_eq_of_lt R.p0 R.p1
theorem ok_rule_of_steps (D : Top K mg "rule_of_steps" s_rule_of_steps ["rule", "steps"]) (h_chained : Has P w K mg base CX0 1 "chained" ["first", "second"] (sp2 (pChained K))) : Has P w K mg base CX0 2 "rule_of_steps" ["rule", "steps"] (sp2 (pRos K)) := by
  refine D.ok2 sc_rule_of_steps (fun f cdv A outer s H v1 v2 Q E hr h => ?_)
  obtain ⟨r, t, p, m, n, rfl, rfl, h1, R, n0, q⟩ := h
  refine ⟨_, (pss_cons (ps_set (i := 2) sc_rule_of_steps.nd rfl (.inl rfl) (pe_ix ix_tup (pv 0) pe_int (fun _ _ => rfl)))
 (pss_cons (ps_set (i := 3) sc_rule_of_steps.nd rfl (.inl rfl) (pe_tup (pa_cons (pe_op op_mod pe_int (pv 2)) (pa_cons pe_int (pa_cons (pv 2) pa_nil)))))
 (pss_cons (ps_set (i := 4) sc_rule_of_steps.nd rfl (.inl rfl) (pv 0))
 (pss_cons (ps_set (i := 5) sc_rule_of_steps.nd rfl (.inl rfl) (pv 1))
 (pss_cons (ps_while PassesOwn.never (pt_cmpR op_gt (pv 5) pe_int (nomark _)) (C8.pss_cut (ps_if (pt_cmpR op_eq (pe_op op_and (pv 5) pe_int) pe_int (nomark _)) (pss_one (ps_set (i := 3) sc_rule_of_steps.nd rfl (.inl rfl) (pe_own h_chained (hr.mono (by decide)) pass0 (pa_cons (pv 3) (pa_cons (pv 4) pa_nil))))) pss_nil)
 (pss_cons (ps_set (i := 4) sc_rule_of_steps.nd rfl (.inl rfl) (pe_own h_chained (hr.mono (by decide)) pass0 (pa_cons (pv 4) (pa_cons (pv 4) pa_nil))))
 (pss_one (ps_set (i := 5) sc_rule_of_steps.nd rfl (.inl rfl) (pe_op op_fdivB (pv 5) pe_int))))))
 (pss_one (ps_ret (pv 3)))))))), ?_⟩
  have m0 : 0 < m := by have := R.b1; omega
  refine ⟨_, rfl, r, _, 2, .int m, rfl, rfl, h1, rfl, ?_⟩
  refine ⟨_, rfl, _, _, rfl, rfl, m0, _, rfl, by show 3 ≤ sizeLine; decide, fun dn0 nd0 => ?_⟩
  have s1 := same_new (o := .tup [.int (1 % m), .int 0, .int m]) nd0
  refine ⟨_, rfl, _, rfl, ?_⟩
  obtain ⟨o1, o2⟩ := rs_one R
  refine ⟨fun k σ H' => ∃ (dn db : Addr) (l : Int) (a c : Nat), σ = [some (.ref r), some (.int n), some (.int m), some (.ref dn), some (.ref db), some (.int l)] ∧ Same H H' ∧ H' dn = some (.tup [.int (rsT t m a), .int (rsP t p m a), .int m]) ∧ SqT K H' db [.int (rsT t m c), .int (rsP t p m c), .int m] ∧ 0 ≤ l ∧ a + c * l.toNat = n.toNat ∧ k = l.toNat,
    ⟨n.toNat, dn0, r, n, 0, 1, rfl, s1, ?_, ?_, n0, by omega, rfl⟩, ?_⟩
  · rw [upd_same]
    unfold rsT rsP
    rw [Int.pow_zero, show geo t 0 = 0 from rfl, Int.mul_zero, Int.zero_emod]
  · rw [o1, o2]
    exact s1.tup h1
  rintro k σ H1 ⟨dn, db, l, a, c, rfl, sm, hdn, hdb, l0, hn, rfl⟩
  refine ⟨_, rfl, _, _, rfl, rfl, _, rfl, ifD (fun lp => ?_) (fun lp => ?_)⟩
  · refine ⟨fun σ' H' => ∃ k', k' < l.toNat ∧ ∃ (dn db : Addr) (l : Int) (a c : Nat), σ' = [some (.ref r), some (.int n), some (.int m), some (.ref dn), some (.ref db), some (.int l)] ∧ Same H H' ∧ H' dn = some (.tup [.int (rsT t m a), .int (rsP t p m a), .int m]) ∧ SqT K H' db [.int (rsT t m c), .int (rsP t p m c), .int m] ∧ 0 ≤ l ∧ a + c * l.toNat = n.toNat ∧ k' = l.toNat, fun _ _ z => z, ?_⟩
    refine ⟨fun σ' H' => ∃ (dn : Addr) (a2 : Nat), σ' = [some (.ref r), some (.int n), some (.int m), some (.ref dn), some (.ref db), some (.int l)] ∧ Same H H' ∧ H' dn = some (.tup [.int (rsT t m a2), .int (rsP t p m a2), .int m]) ∧ SqT K H' db [.int (rsT t m c), .int (rsP t p m c), .int m] ∧ a2 + (c + c) * (l / 2).toNat = n.toNat, ?_, ?_⟩
    · refine ⟨_, rfl, _, _, rfl, rfl, rfl, _, rfl, ifI (fun e => ?_) (fun e => ?_)⟩
      · rw [bitAnd_m1] at e
        refine ⟨_, rfl, _, rfl, _, _, rfl, dn, db, _, _, _, _, m, rfl, rfl, SqT.of hdn, hdb, R.rs a, R.rs c, fun H2 u s2 nu hu => ?_⟩
        rw [rs_T, rs_P] at hu
        refine ⟨u, a + c, rfl, sm.trans s2, hu, s2.tup hdb, ?_⟩
        have e2 : l.toNat = 2 * (l / 2).toNat + 1 := by omega
        rw [← hn, e2]
        generalize (l / 2).toNat = z
        grind
      · rw [bitAnd_m1] at e
        refine ⟨dn, a, rfl, sm, hdn, hdb, ?_⟩
        have e2 : l.toNat = 2 * (l / 2).toNat := by omega
        rw [← hn, e2]
        generalize (l / 2).toNat = z
        grind
    · rintro σ' H2 ⟨dn2, a2, rfl, sm2, hdn2, hdb2, hn2⟩
      refine ⟨_, rfl, _, rfl, _, _, rfl, db, db, _, _, _, _, m, rfl, rfl, hdb2, hdb2, R.rs c, R.rs c, fun H3 u s3 nu hu => ?_⟩
      rw [rs_T, rs_P] at hu
      refine ⟨_, rfl, _, _, rfl, rfl, ⟨by decide, by decide⟩, (l / 2).toNat, by omega, dn2, u, l / 2, a2, c + c, rfl, sm2.trans s3, s3 _ _ hdn2, SqT.of hu, by omega, hn2, rfl⟩
  · have l00 : l = 0 := by omega
    subst l00
    have ea : a = n.toNat := by
      rw [← hn]
      show a = a + c * 0
      omega
    subst ea
    exact ⟨_, rfl, q _ dn sm hdn⟩
end
end Tw


namespace Tw
open PySem PySem.Spec PyProof.Rows L2
abbrev s_rule_back : Stmt := topS 16
theorem sc_rule_back : FnScope ["rule", "times", "plus", "bound", "undone"] ["rule"] (defScope s_rule_back) := ⟨rfl, rfl, rfl, by decide +kernel, rfl, by decide +kernel, by decide +kernel⟩
abbrev s_jumped : Stmt := topS 15
theorem sc_jumped : FnScope ["rule", "start", "steps"] ["rule", "start", "steps"] (defScope s_jumped) := ⟨rfl, rfl, rfl, by decide +kernel, rfl, by decide +kernel, by decide +kernel⟩
section
variable {P : Program} {w : World} {K : PySem.W.Frag} {mg : Str → Option Value} {base : Heap}
theorem ok_rule_back {CB : Addr} (D : Top K mg "rule_back" s_rule_back ["rule"]) (h_common_divisor : Has P w K mg base CX0 1 "common_divisor" ["one", "other"] (sp2 pGcd)) (h_inverse : Has P w K mg base CX0 1 "inverse" ["number", "bound"] (sp2 pInv))
    (x_NoBack : PySem.W.excIn K CB [.type "ValueError", .type "Exception", .type "BaseException", .type "object"] "ValueError.__new__" = true) (g_NoBack : mg "NoBack" = some (.ref CB)) (k_NoBack : PySem.W.keepIn K (.ref CB) = true) (e_NoBack : PySem.W.subIn K (.ref CB) (.type "BaseException") = some true) (y_NoBack : PySem.W.typeIn K (.ref CB) = some (.type "type")) :
    Has P w K mg base (L2.CX P w) 2 "rule_back" ["rule"] (sp1 (pRback K CB)) := by
  refine D.ok1X sc_rule_back (fun f cdv A outer s H v1 Q E hr h => ?_)
  obtain ⟨r, t, p, m, rfl, h1, R, q, e⟩ := h
  refine ⟨_, (pss_cons (ps_asg (pv 0) (pg_tup rfl (pgs_cons (pg_name (i := 1) sc_rule_back.nd rfl (.inl rfl)) (pgs_cons (pg_name (i := 2) sc_rule_back.nd rfl (.inl rfl)) (pgs_cons (pg_name (i := 3) sc_rule_back.nd rfl (.inl rfl)) pgs_nil)))))
 (pss_cons (ps_if (pt_cmpR op_ne (pe_own h_common_divisor (hr.mono (by decide)) pass0 (pa_cons (pv 1) (pa_cons (pv 3) pa_nil))) pe_int (nomark _)) (pss_one (ps_raise rfl (takes_of rfl rfl rfl rfl) (pmk_own PySem.F.excBase_ValueError x_NoBack g_NoBack k_NoBack (raises_own e_NoBack y_NoBack) (by rfl)))) pss_nil)
 (pss_cons (ps_set (i := 4) sc_rule_back.nd rfl (.inl rfl) (pe_own h_inverse (hr.mono (by decide)) pass0 (pa_cons (pv 1) (pa_cons (pv 3) pa_nil))))
 (pss_one (ps_ret (pe_tup (pa_cons (pv 4) (pa_cons (pe_op op_mod (pe_op op_mulB (pe_un un_neg (pv 4)) (pv 2)) (pv 3)) (pa_cons (pv 3) pa_nil))))))))), ?_⟩
  have m0 : 0 < m := by have := R.b1; omega
  have a1 := R.t0
  have a2 := R.t1
  have a3 := R.p0
  have a4 := R.p1
  have a5 := R.b2
  refine ⟨_, rfl, r, _, rfl, h1, rfl, _, _, rfl, _, _, rfl, _, _, rfl, rfl, ?_⟩
  refine ⟨_, rfl, _, rfl, _, _, rfl, t, m, rfl, rfl, R.t0, by omega, rfl, _, rfl, ifNI (fun ne => ?_) (fun ne => ?_)⟩
  · exact e (fun z => ne (by rw [z]; rfl))
  · have g1 : Int.gcd t m = 1 := by omega
    refine ⟨_, rfl, _, rfl, _, _, rfl, t, m, rfl, rfl, R.t0, m0, R.b2, g1, fun H0 u s0 u0 u1 hu => ?_⟩
    refine ⟨_, rfl, _, rfl, _, rfl, _, rfl, _, _, rfl, rfl, ⟨by unfold Big; omega, by unfold Big; omega⟩, _, rfl, _, _, rfl, rfl, m0, ?_⟩
    exact ⟨_, rfl, by show 3 ≤ sizeLine; decide, fun x nx => q g1 _ x u (s0.trans (same_new nx)) (s0.free nx) u0 u1 hu upd_same⟩
theorem ok_jumped {CN CB : Addr} (D : Top K mg "jumped" s_jumped ["rule", "start", "steps"]) (h_check_number : Has P w K mg base (L2.CX P w) 3 "check_number" ["number", "bound"] (sp2 (pCheck CN))) (h_next_of : Has P w K mg base (L2.CX P w) 4 "next_of" ["rule", "number"] (sp2 (pNextOf K CN)))
    (h_rule_of_steps : Has P w K mg base CX0 2 "rule_of_steps" ["rule", "steps"] (sp2 (pRos K))) (h_rule_back : Has P w K mg base (L2.CX P w) 2 "rule_back" ["rule"] (sp1 (pRback K CB))) : Has P w K mg base (L2.CX P w) 5 "jumped" ["rule", "start", "steps"] (sp3 (pJump K CN CB)) := by
  refine D.ok3X sc_jumped (fun f cdv A outer s H v1 v2 v3 Q E hr h => ?_)
  obtain ⟨r, t, p, m, s0, n, rfl, rfl, rfl, h1, R, eN, qa, qb, eB⟩ := h
  refine ⟨_, (pss_cons (ps_expr (pe_own h_check_number (hr.mono (by decide)) (passes_call (takes_of rfl rfl rfl rfl) (fun _ _ _ _ z => z)) (pa_cons (pv 1) (pa_cons (pe_ix ix_tup (pv 0) pe_int (fun _ _ => rfl)) pa_nil))))
 (pss_cons (ps_if (pt_cmpR op_lt (pv 2) pe_int (nomark _)) (pss_one (ps_ret (pe_own h_next_of (hr.mono (by decide)) (passes_call (takes_of rfl rfl rfl rfl) (fun _ _ _ _ z => z)) (pa_cons (pe_own h_rule_of_steps (hr.mono (by decide)) pass0 (pa_cons (pe_own h_rule_back (hr.mono (by decide)) (passes_call (takes_of rfl rfl rfl rfl) (fun _ _ _ _ z => z)) (pa_cons (pv 0) pa_nil)) (pa_cons (pe_un un_neg (pv 2)) pa_nil))) (pa_cons (pv 1) pa_nil))))) pss_nil)
 (pss_one (ps_ret (pe_own h_next_of (hr.mono (by decide)) (passes_call (takes_of rfl rfl rfl rfl) (fun _ _ _ _ z => z)) (pa_cons (pe_own h_rule_of_steps (hr.mono (by decide)) pass0 (pa_cons (pv 0) (pa_cons (pv 2) pa_nil))) (pa_cons (pv 1) pa_nil))))))), ?_⟩
  have m0 : 0 < m := by have := R.b1; omega
  refine ⟨_, rfl, _, rfl, r, _, 2, .int m, rfl, rfl, h1, rfl, _, _, rfl, s0, m, rfl, rfl, fun a0 a1 => ?_, eN⟩
  refine ⟨_, rfl, _, _, rfl, rfl, _, rfl, ifD (fun nn => ?_) (fun nn => ?_)⟩
  · refine ⟨_, rfl, _, rfl, r, t, p, m, rfl, h1, R, fun g H1 u x s1 nu u0 u1 hu hx => ?_, fun g => eB ⟨a0, a1⟩ nn g⟩
    have pr := mod_bd (-x * p) m0
    have R2 : Rule x (-x * p % m) m := ⟨R.b1, R.b2, u0, u1, pr.1, pr.2⟩
    refine ⟨_, rfl, _, rfl, _, _, rfl, u, x, _, m, -n, rfl, rfl, SqT.of hx, R2, by omega, fun H2 u2 s2 hx2 => ?_⟩
    refine ⟨_, rfl, _, _, rfl, u2, _, _, m, s0, rfl, rfl, SqT.of hx2, R2.rs _, fun _ _ => ?_, fun z => absurd ⟨a0, a1⟩ z⟩
    rw [stp_rs]
    exact qb ⟨a0, a1⟩ nn g _ _ (s1.trans s2) (back_of m0 hu s0 a0 a1 _)
  · refine ⟨_, rfl, _, rfl, _, _, rfl, r, t, p, m, n, rfl, rfl, h1, R, by omega, fun H2 u2 s2 hx2 => ?_⟩
    refine ⟨_, rfl, _, _, rfl, u2, _, _, m, s0, rfl, rfl, SqT.of hx2, R.rs _, fun _ _ => ?_, fun z => absurd ⟨a0, a1⟩ z⟩
    rw [stp_rs]
    exact qa ⟨a0, a1⟩ (by omega) _ s2
end
end Tw


namespace Tw
open PySem PySem.Spec PyProof.Rows L2
abbrev s_divisor : Stmt := topS 27
theorem sc_divisor : FnScope ["one", "other"] ["one", "other"] (defScope s_divisor) := ⟨rfl, rfl, rfl, by decide +kernel, rfl, by decide +kernel, by decide +kernel⟩
abbrev s_power : Stmt := topS 28
theorem sc_power : FnScope ["number", "often", "bound", "found"] ["number", "often", "bound"] (defScope s_power) := ⟨rfl, rfl, rfl, by decide +kernel, rfl, by decide +kernel, by decide +kernel⟩
abbrev s_shares : Stmt := topS 29
theorem sc_shares : FnScope ["rule", "steps", "times", "plus", "bound", "power"] ["rule", "steps"] (defScope s_shares) := ⟨rfl, rfl, rfl, by decide +kernel, rfl, by decide +kernel, by decide +kernel⟩
abbrev s_ahead : Stmt := topS 30
theorem sc_ahead : FnScope ["rule", "start", "steps", "power", "total"] ["rule", "start", "steps"] (defScope s_ahead) := ⟨rfl, rfl, rfl, by decide +kernel, rfl, by decide +kernel, by decide +kernel⟩
section
variable {P : Program} {w : World} {K : PySem.W.Frag} {mg : Str → Option Value} {base : Heap}
theorem ok_divisor (D : Top K mg "_law_divisor" s_divisor ["one", "other"]) : Has P w K mg base CX0 1 "_law_divisor" ["one", "other"] (sp2 pGcd) := by
  refine D.ok2 sc_divisor (fun f cdv A outer s H v1 v2 Q E hr h => ?_)
  obtain ⟨x, y, rfl, rfl, x0, y0, q⟩ := h
  refine ⟨_, (pss_cons (ps_while PassesOwn.never (pt_cmpR op_gt (pv 1) pe_int (nomark _)) (pss_one (ps_par (i := 0) (j := 1) (by rfl) sc_divisor.nd rfl rfl (by decide) rfl rfl (pa_cons (pv 1) (pa_cons (pe_op op_mod (pv 0) (pv 1)) pa_nil)) (by rfl))))
 (pss_one (ps_ret (pv 0)))), ?_⟩
  refine ⟨fun k σ H' => ∃ a b : Int, σ = [some (.int a), some (.int b)] ∧ H' = H ∧ 0 ≤ a ∧ 0 ≤ b ∧ b.toNat = k ∧ Int.gcd a b = Int.gcd x y, ⟨y.toNat, x, y, rfl, rfl, x0, y0, rfl, rfl⟩, ?_⟩
  rintro k σ H' ⟨a, b, rfl, rfl, a0, b0, hk, hg⟩
  refine ⟨_, rfl, _, _, rfl, rfl, _, rfl, ifD (fun bp => ?_) (fun nb => ?_)⟩
  · have mr := mod_bd a bp
    refine ⟨fun σ' H1 => ∃ k', k' < k ∧ ∃ a b : Int, σ' = [some (.int a), some (.int b)] ∧ H1 = H' ∧ 0 ≤ a ∧ 0 ≤ b ∧ b.toNat = k' ∧ Int.gcd a b = Int.gcd x y, fun _ _ z => z, ?_⟩
    refine ⟨_, rfl, _, rfl, _, rfl, _, _, rfl, rfl, bp, _, _, rfl, (a % b).toNat, by omega, b, a % b, rfl, rfl, b0, mr.1, rfl, (gcd_step a0 bp).trans hg⟩
  · obtain rfl : b = 0 := by omega
    refine ⟨_, rfl, ?_⟩
    have e : ((Int.gcd x y : Nat) : Int) = a := by
      rw [← hg, Int.gcd_zero_right]
      omega
    rw [e] at q
    exact q
theorem ok_power (D : Top K mg "_law_power" s_power ["number", "often", "bound"]) : Has P w K mg base CX0 1 "_law_power" ["number", "often", "bound"] (sp3 pPow) := by
  refine D.ok3 sc_power (fun f cdv A outer s H v1 v2 v3 Q E hr h => ?_)
  obtain ⟨x, n, m, rfl, rfl, rfl, x0, x1, n0, m0, m1, q⟩ := h
  refine ⟨_, (pss_cons (ps_set (i := 3) sc_power.nd rfl (.inl rfl) (pe_op op_mod pe_int (pv 2)))
 (pss_cons (ps_while PassesOwn.never (pt_cmpR op_gt (pv 1) pe_int (nomark _)) (C8.pss_cut (ps_if (pt_cmpR op_eq (pe_op op_mod (pv 1) pe_int) pe_int (nomark _)) (pss_one (ps_set (i := 3) sc_power.nd rfl (.inl rfl) (pe_op op_mod (pe_op op_mulB (pv 3) (pv 0)) (pv 2)))) pss_nil)
 (pss_cons (ps_set (i := 0) sc_power.nd rfl (.inl rfl) (pe_op op_mod (pe_op op_mulB (pv 0) (pv 0)) (pv 2)))
 (pss_one (ps_set (i := 1) sc_power.nd rfl (.inl rfl) (pe_op op_fdivB (pv 1) pe_int))))))
 (pss_one (ps_ret (pv 3))))), ?_⟩
  refine ⟨_, rfl, _, _, rfl, rfl, m0, ?_⟩
  have o1 := mod_bd 1 m0
  refine ⟨fun k σ H' => ∃ nu of fo : Int, σ = [some (.int nu), some (.int of), some (.int m), some (.int fo)] ∧ H' = H ∧ 0 ≤ nu ∧ nu ≤ 1000000000000000000000000 ∧ 0 ≤ of ∧ 0 ≤ fo ∧ fo < m ∧ of.toNat = k ∧ fo * nu ^ of.toNat % m = x ^ n.toNat % m, ⟨n.toNat, x, n, 1 % m, rfl, rfl, x0, by omega, n0, o1.1, o1.2, rfl, ?_⟩, ?_⟩
  · rw [Int.mul_emod, Int.emod_emod, ← Int.mul_emod, Int.one_mul]
  rintro k σ H' ⟨nu, of, fo, rfl, rfl, a0, a1, b0, c0, c1, hk, hm⟩
  refine ⟨_, rfl, _, _, rfl, rfl, _, rfl, ifD (fun op => ?_) (fun op => ?_)⟩
  · have sq := mod_bd (nu * nu) m0
    have e0 : of.toNat / 2 = (of / 2).toNat := by omega
    have key := sq_pow nu of.toNat
    rw [e0] at key
    refine ⟨fun σ' H1 => ∃ k', k' < k ∧ ∃ nu of fo : Int, σ' = [some (.int nu), some (.int of), some (.int m), some (.int fo)] ∧ H1 = H' ∧ 0 ≤ nu ∧ nu ≤ 1000000000000000000000000 ∧ 0 ≤ of ∧ 0 ≤ fo ∧ fo < m ∧ of.toNat = k' ∧ fo * nu ^ of.toNat % m = x ^ n.toNat % m, fun _ _ z => z, ?_⟩
    have pw : ∀ y : Int, y * (nu * nu % m) ^ (of / 2).toNat % m = y * (nu * nu) ^ (of / 2).toNat % m := fun y => by
      rw [Int.mul_emod, pow_em, ← Int.mul_emod]
    refine ⟨fun σ' H1 => ∃ fo2 : Int, σ' = [some (.int nu), some (.int of), some (.int m), some (.int fo2)] ∧ H1 = H' ∧ 0 ≤ fo2 ∧ fo2 < m ∧ fo2 * (nu * nu) ^ (of / 2).toNat % m = x ^ n.toNat % m, ?_, ?_⟩
    · refine ⟨_, rfl, _, _, rfl, rfl, (by show (0 : Int) < 2; decide), rfl, _, rfl, ifI (fun e => ?_) (fun e => ?_)⟩
      · have fr := mod_bd (fo * nu) m0
        refine ⟨_, rfl, _, rfl, _, _, rfl, rfl, ⟨by unfold Big; omega, by unfold Big; omega⟩, _, rfl, _, _, rfl, rfl, m0, fo * nu % m, rfl, rfl, fr.1, fr.2, ?_⟩
        rw [if_pos (by omega)] at key
        rw [Int.mul_emod, Int.emod_emod, ← Int.mul_emod, ← hm, key, Int.mul_assoc]
      · refine ⟨fo, rfl, rfl, c0, c1, ?_⟩
        rw [if_neg (by omega), Int.one_mul] at key
        rw [← key]
        exact hm
    · rintro σ' H1 ⟨fo2, rfl, rfl, f0, f1, hf⟩
      refine ⟨_, rfl, _, rfl, _, _, rfl, rfl, ⟨by unfold Big; omega, by unfold Big; omega⟩, _, rfl, _, _, rfl, rfl, m0, ?_⟩
      refine ⟨_, rfl, _, _, rfl, rfl, ⟨by decide, by decide⟩, (of / 2).toNat, by omega, nu * nu % m, of / 2, fo2, rfl, rfl, sq.1, by omega, by omega, f0, f1, rfl, ?_⟩
      rw [pw]
      exact hf
  · obtain rfl : of = 0 := by omega
    refine ⟨_, rfl, ?_⟩
    have e : x ^ n.toNat % m = fo := by
      rw [← hm]
      show fo * nu ^ 0 % m = fo
      rw [Int.pow_zero, Int.mul_one]
      exact Int.emod_eq_of_lt c0 c1
    rw [e] at q
    exact q
theorem ok_shares (D : Top K mg "_law_shares" s_shares ["rule", "steps"]) (h_power : Has P w K mg base CX0 1 "_law_power" ["number", "often", "bound"] (sp3 pPow)) (z_int : mg "int" = none) : Has P w K mg base CX0 2 "_law_shares" ["rule", "steps"] (sp2 (pShares K)) := by
  refine D.ok2 sc_shares (fun f cdv A outer s H v1 v2 Q E hr h => ?_)
  obtain ⟨r, t, p, m, n, rfl, rfl, h1, R, n0, q⟩ := h
  refine ⟨_, (pss_cons (ps_asg (pv 0) (pg_tup rfl (pgs_cons (pg_name (i := 2) sc_shares.nd rfl (.inl rfl)) (pgs_cons (pg_name (i := 3) sc_shares.nd rfl (.inl rfl)) (pgs_cons (pg_name (i := 4) sc_shares.nd rfl (.inl rfl)) pgs_nil)))))
 (pss_cons (ps_if (pt_cmpR op_eq (pv 2) pe_int (nomark _)) (pss_one (ps_ret (pe_lst (pa_cons (pe_op op_mod pe_int (pv 4)) (pa_cons (pe_op op_mod (pv 1) (pv 4)) pa_nil))))) pss_nil)
 (pss_cons (ps_if (pt_cmpR op_eq (pv 2) pe_int (nomark _)) (pss_one (ps_ret (pe_lst (pa_cons (pe_op op_mod (pe_callTy call_int1 (by rfl) z_int (by decide +kernel) (pa_cons (pe_cmpR op_eq (pv 1) pe_int (nomark _)) pa_nil)) (pv 4)) (pa_cons (pe_op op_mod (pe_callTy call_int1 (by rfl) z_int (by decide +kernel) (pa_cons (pe_cmpR op_gt (pv 1) pe_int (nomark _)) pa_nil)) (pv 4)) pa_nil))))) pss_nil)
 (pss_cons (ps_set (i := 5) sc_shares.nd rfl (.inl rfl) (pe_own h_power (hr.mono (by decide)) pass0 (pa_cons (pv 2) (pa_cons (pv 1) (pa_cons (pe_op op_mulB (pv 4) (pe_op op_sub (pv 2) pe_int)) pa_nil)))))
 (pss_one (ps_ret (pe_lst (pa_cons (pe_op op_mod (pv 5) (pv 4)) (pa_cons (pe_op op_mod (pe_op op_fdivB (pe_op op_sub (pv 5) pe_int) (pe_op op_sub (pv 2) pe_int)) (pv 4)) pa_nil))))))))), ?_⟩
  have m0 : 0 < m := by have := R.b1; omega
  have a1 := R.t0
  have a2 := R.t1
  have a3 := R.b2
  refine ⟨_, rfl, r, _, rfl, h1, rfl, _, _, rfl, _, _, rfl, _, _, rfl, rfl, ?_⟩
  refine ⟨_, rfl, rfl, _, rfl, ifI (fun e => ?_) (fun e => ?_)⟩
  · subst e
    refine ⟨_, rfl, _, _, rfl, rfl, m0, _, rfl, _, rfl, _, _, rfl, rfl, m0, by show 2 ≤ sizeLine; decide, fun u nu => q _ u (same_new nu) nu ?_⟩
    rw [upd_same, Int.one_pow, geo_one, Int.toNat_of_nonneg n0]
  refine ⟨_, rfl, rfl, _, rfl, ifI (fun e2 => ?_) (fun e2 => ?_)⟩
  · subst e2
    refine ⟨_, rfl, rfl, .inr ⟨_, rfl, _, rfl, _, _, rfl, rfl, m0, _, rfl, _, _, rfl, rfl, .inr ⟨_, rfl, _, rfl, _, _, rfl, rfl, m0, by show 2 ≤ sizeLine; decide, fun u nu => q _ u (same_new nu) nu ?_⟩⟩⟩
    rw [upd_same]
    by_cases z : n = 0
    · subst z
      rfl
    · have np : 0 < n.toNat := by omega
      rw [pow_zero_pos np, geo_zero np]
      have e3 : decide (V.int n = V.int 0) = false := decide_eq_false (fun y => z (V.int.inj y))
      have e4 : decide (0 < n) = true := decide_eq_true (by omega)
      simp only [e3, e4]
      rfl
  · have mt : m * (t - 1) ≤ 1000000000000 * 1000000000000 := (mul_bd (Int.le_of_lt m0) a3 (show 0 ≤ t - 1 by omega) (show t - 1 ≤ 1000000000000 by omega)).2
    have mp : 0 < m * (t - 1) := Int.mul_pos m0 (by omega)
    refine ⟨_, rfl, _, rfl, _, rfl, _, rfl, _, _, rfl, rfl, _, _, rfl, rfl, ⟨by unfold Big; omega, by unfold Big; omega⟩, _, _, _, rfl, t, n, _, rfl, rfl, rfl, a1, by omega, n0, mp, by omega, ?_⟩
    have pr := mod_bd (t ^ n.toNat) mp
    obtain ⟨PW, hPW⟩ : ∃ PW, PW = t ^ n.toNat % (m * (t - 1)) := ⟨_, rfl⟩
    rw [← hPW]
    obtain ⟨sh1, sh2⟩ := shares m0 (by omega) hPW
    refine ⟨_, rfl, _, rfl, _, _, rfl, rfl, m0, _, rfl, _, _, rfl, rfl, _, rfl, _, _, rfl, rfl, _, _, rfl, rfl, ⟨by show (0 : Int) < t - 1; omega, by show t - 1 < _; omega⟩, _, rfl, _, _, rfl, rfl, m0, by show 2 ≤ sizeLine; decide, fun u nu => q _ u (same_new nu) nu ?_⟩
    rw [upd_same, ← sh1, ← sh2]
theorem ok_ahead (D : Top K mg "_law_ahead" s_ahead ["rule", "start", "steps"]) (h_shares : Has P w K mg base CX0 2 "_law_shares" ["rule", "steps"] (sp2 (pShares K))) : Has P w K mg base CX0 3 "_law_ahead" ["rule", "start", "steps"] (sp3 (pAhead K)) := by
  refine D.ok3 sc_ahead (fun f cdv A outer s H v1 v2 v3 Q E hr h => ?_)
  obtain ⟨r, t, p, m, s0, n, rfl, rfl, rfl, h1, R, a0, a1, n0, q⟩ := h
  refine ⟨_, (pss_cons (ps_asg (pe_own h_shares (hr.mono (by decide)) pass0 (pa_cons (pv 0) (pa_cons (pv 2) pa_nil))) (pg_unl rfl (pgs_cons (pg_name (i := 3) sc_ahead.nd rfl (.inl rfl)) (pgs_cons (pg_name (i := 4) sc_ahead.nd rfl (.inl rfl)) pgs_nil))))
 (pss_one (ps_ret (pe_op op_mod (pe_op op_add (pe_op op_mulB (pv 3) (pv 1)) (pe_op op_mulB (pv 4) (pe_ix ix_tup (pv 0) pe_int (fun _ _ => rfl)))) (pe_ix ix_tup (pv 0) pe_int (fun _ _ => rfl)))))), ?_⟩
  have m0 : 0 < m := by have := R.b1; omega
  have p0 := R.p0
  have p1 := R.p1
  have b2 := R.b2
  refine ⟨_, rfl, _, rfl, _, _, rfl, r, t, p, m, n, rfl, rfl, h1, R, n0, fun H1 u s1 nu hu => ?_⟩
  have b1 := mod_bd (t ^ n.toNat) m0
  have b3 := mod_bd (geo t n.toNat) m0
  refine ⟨u, _, rfl, SqL.of hu, rfl, _, _, rfl, _, _, rfl, rfl, ?_⟩
  have h2 := s1.tup h1
  refine ⟨_, rfl, _, rfl, _, _, rfl, rfl, ⟨by unfold Big; omega, by unfold Big; omega⟩, _, rfl, _, rfl, r, _, 1, .int p, rfl, rfl, h2, rfl, _, _, rfl, rfl, ⟨by unfold Big; omega, by unfold Big; omega⟩, _, _, rfl, rfl, _, rfl, r, _, 2, .int m, rfl, rfl, h2, rfl, _, _, rfl, rfl, m0, ?_⟩
  have q' := q _ s1
  rw [← ahd_shares] at q'
  exact q'
end
end Tw


namespace Tw
open PySem PySem.Spec PyProof.Rows L2
abbrev s_steps : Stmt := topS 33
theorem sc_steps : FnScope ["deck", "far", "some"] ["deck"] (defScope s_steps) := ⟨rfl, rfl, rfl, by decide +kernel, rfl, by decide +kernel, by decide +kernel⟩
abbrev s_told : Stmt := topS 34
theorem sc_told : FnScope ["rule", "start", "steps", "found", "caught", "e"] ["rule", "start", "steps"] (defScope s_told) := ⟨rfl, rfl, rfl, by decide +kernel, rfl, by decide +kernel, by decide +kernel⟩
abbrev s_right : Stmt := topS 35
theorem sc_right : FnScope ["rule", "start", "steps", "found"] ["rule", "start", "steps"] (defScope s_right) := ⟨rfl, rfl, rfl, by decide +kernel, rfl, by decide +kernel, by decide +kernel⟩
abbrev s_law : Stmt := topS 36
theorem sc_law : FnScope ["script", "deck", "turn", "rule", "k", "start", "wrong", "steps"] ["script"] (defScope s_law) := ⟨rfl, rfl, rfl, by decide +kernel, rfl, by decide +kernel, by decide +kernel⟩
section
variable {P : Program} {w : World} {K : PySem.W.Frag} {mg : Str → Option Value} {base : Heap}
theorem ok_steps (D : Top K mg "_law_steps" s_steps ["deck"]) (h_next : Has P w K mg base CX0 2 "_law_next" ["deck", "many"] (sp2 (pNext 1))) : Has P w K mg base CX0 3 "_law_steps" ["deck"] (sp1 pStepsL) := by
  refine D.ok1 sc_steps (fun f cdv A outer s H v1 Q E hr h => ?_)
  obtain ⟨d, n, rfl, hD, hn, q⟩ := h
  refine ⟨_, (pss_cons (ps_set (i := 1) sc_steps.nd rfl (.inl rfl) (pe_op op_add (pe_op op_mulB (pe_own h_next (hr.mono (by decide)) pass0 (pa_cons (pv 0) (pa_cons (pe_op op_pow pe_int pe_int) pa_nil))) (pe_op op_pow pe_int pe_int)) (pe_own h_next (hr.mono (by decide)) pass0 (pa_cons (pv 0) (pa_cons (pe_op op_pow pe_int pe_int) pa_nil)))))
 (pss_cons (ps_set (i := 2) sc_steps.nd rfl (.inl rfl) (pe_lst (pa_cons pe_int (pa_cons (pe_own h_next (hr.mono (by decide)) pass0 (pa_cons (pv 0) (pa_cons pe_int pa_nil))) (pa_cons (pv 1) (pa_cons (pe_op op_sub (pe_op op_pow pe_int pe_int) pe_int) (pa_cons (pe_op op_mod (pv 1) (pe_op op_pow pe_int pe_int)) pa_nil)))))))
 (pss_one (ps_ret (pe_op op_mulB (pe_ix ix_list (pv 2) (pe_own h_next (hr.mono (by decide)) pass0 (pa_cons (pv 0) (pa_cons pe_int pa_nil))) (fun _ _ => rfl)) (pe_ix ix_list (pe_lst (pa_cons pe_int (pa_cons (pe_un un_neg pe_int) pa_nil))) (pe_own h_next (hr.mono (by decide)) pass0 (pa_cons (pv 0) (pa_cons pe_int pa_nil))) (fun _ _ => rfl))))))), ?_⟩
  have z10 : (10 : Int) ^ (10 : Int).toNat = 10000000000 := by decide
  have z9 : (10 : Int) ^ (9 : Int).toNat = 1000000000 := by decide
  have z19 : (10 : Int) ^ (19 : Int).toNat = 10000000000000000000 := by decide
  have z12 : (10 : Int) ^ (12 : Int).toNat = 1000000000000 := by decide
  refine ⟨_, rfl, _, _, rfl, rfl, ⟨by decide, by decide, by decide⟩, _, _, rfl, d, n, _, rfl, rfl, by decide, by decide, hD, by omega, fun H1 a B1 D1 a0 a1 => ?_⟩
  rw [z10] at a1
  refine ⟨_, _, rfl, rfl, ⟨by decide, by decide, by decide⟩, _, _, rfl, rfl, ⟨by unfold Big; omega, show Big 1000000000 from ⟨by decide, by decide⟩⟩, ?_⟩
  refine ⟨_, rfl, _, _, rfl, rfl, ⟨by decide, by decide, by decide⟩, _, _, rfl, d, n + 1, _, rfl, rfl, by decide, by decide, D1, by omega, fun H2 b B2 D2 b0 b1 => ?_⟩
  rw [z9] at b1
  refine ⟨_, _, rfl, rfl, ?_⟩
  have fb : 0 ≤ a * 10 ^ (9 : Int).toNat + b ∧ a * 10 ^ (9 : Int).toNat + b < 10000000000000000000 := by rw [z9]; omega
  refine ⟨_, rfl, _, _, rfl, d, n + 2, 9, rfl, rfl, by decide, by decide, D2, by omega, fun H3 c B3 D3 c0 c1 => ?_⟩
  refine ⟨_, rfl, _, _, rfl, rfl, ⟨by decide, by decide, by decide⟩, _, _, rfl, rfl, ?_⟩
  refine ⟨_, rfl, _, _, rfl, rfl, ⟨by decide, by decide, by decide⟩, _, _, rfl, rfl, (by show (0 : Int) < 10 ^ (12 : Int).toNat; decide), by show 5 ≤ sizeLine; decide, fun l nl => ?_⟩
  have s3 := same_new (o := .lst [.int 0, .int c, .int (a * 10 ^ (9 : Int).toNat + b), .int (10 ^ (19 : Int).toNat - 1), .int ((a * 10 ^ (9 : Int).toNat + b) % 10 ^ (12 : Int).toNat)]) nl
  refine ⟨_, rfl, _, rfl, _, _, rfl, d, n + 3, 5, rfl, rfl, by decide, by decide, D3.same s3, by omega, fun H4 i B4 D4 i0 i1 => ?_⟩
  have hl : H4 l = some (.lst [.int 0, .int c, .int (a * 10 ^ (9 : Int).toNat + b), .int (10 ^ (19 : Int).toNat - 1), .int ((a * 10 ^ (9 : Int).toNat + b) % 10 ^ (12 : Int).toNat)]) := B4 _ _ (D3.ne nl) upd_same
  obtain ⟨x, hx, ex⟩ := at_ints (ns := [0, c, a * 10 ^ (9 : Int).toNat + b, 10 ^ (19 : Int).toNat - 1, (a * 10 ^ (9 : Int).toNat + b) % 10 ^ (12 : Int).toNat]) i0 (by show i < 5; exact i1)
  have xr : 0 ≤ x ∧ x < 10000000000000000000 := by
    rw [z19, z12] at hx
    generalize a * 10 ^ (9 : Int).toNat + b = far at *
    simp only [List.mem_cons, List.not_mem_nil, or_false] at hx
    rcases hx with rfl | rfl | rfl | rfl | rfl <;> omega
  refine ⟨l, _, i, _, rfl, rfl, SqL.of hl, ex, ?_⟩
  refine ⟨_, rfl, by show 2 ≤ sizeLine; decide, fun l2 nl2 => ?_⟩
  have s4 := same_new (o := .lst [.int 1, .int (-1)]) nl2
  refine ⟨_, rfl, _, _, rfl, d, n + 4, 2, rfl, rfl, by decide, by decide, D4.same s4, by omega, fun H5 j B5 D5 j0 j1 => ?_⟩
  have hl2 : H5 l2 = some (.lst [.int 1, .int (-1)]) := B5 _ _ (D4.ne nl2) upd_same
  obtain ⟨y, hy, ey⟩ := at_ints (ns := [1, -1]) j0 (by show j < 2; exact j1)
  have yr : -1 ≤ y ∧ y ≤ 1 := by
    simp only [List.mem_cons, List.not_mem_nil, or_false] at hy
    rcases hy with rfl | rfl <;> omega
  exact ⟨l2, _, j, _, rfl, rfl, SqL.of hl2, ey, _, _, rfl, rfl, ⟨by unfold Big; omega, by unfold Big; omega⟩, q _ _ ((((((B1.trans B2).trans B3).trans s3.but).trans B4).trans s4.but).trans B5) D5⟩
theorem ok_told {CR CN CB : Addr} (D : Top K mg "_law_told" s_told ["rule", "start", "steps"]) (h_jumped : Has P w K mg base (L2.CX P w) 5 "jumped" ["rule", "start", "steps"] (sp3 (pJump K CN CB))) (h_kind : Has P w K mg base CX0 1 "_law_kind" ["caught"] (sp1 fun a H Q E => pKindN CN a H Q E ∨ pKindO CB "back" a H Q E))
    (g_RowError : mg "RowError" = some (.ref CR)) (xmN : PySem.W.exmOne K (.ref CN) (.ref CR) = some true) (xmB : PySem.W.exmOne K (.ref CB) (.ref CR) = some true) : Has P w K mg base CX0 6 "_law_told" ["rule", "start", "steps"] (sp3 (pTold3 K)) := by
  refine D.ok3 sc_told (fun f cdv A outer s H v1 v2 v3 Q E hr h => ?_)
  obtain ⟨r, t, p, m, s0, n, rfl, rfl, rfl, hr1, R, eN, qa, qb, eB⟩ := h
  refine ⟨_, (pss_cons (ps_set (i := 3) sc_told.nd rfl (.inl rfl) pe_non)
 (pss_cons (ps_set (i := 4) sc_told.nd rfl (.inl rfl) pe_non)
 (pss_cons (ps_try_keep (i := 5) rfl rfl sc_told.nd rfl rfl ⟨rfl, by decide, .inl g_RowError⟩ (fun W pn xe tk po => (pss_one (ps_set (i := 3) sc_told.nd rfl (.inl rfl) (pe_ownS h_jumped (hr.mono (by decide)) (fun σ => passAt tk σ) (pa_cons (pv 0) (pa_cons (pv 1) (pa_cons (pv 2) pa_nil))))))) (fun a pn => (pss_one (ps_set (i := 4) sc_told.nd rfl (.inl rfl) (pv 5)))))
 (pss_cons (ps_if (pt_cmpR op_notN (pv 4) pe_non (nomark _)) (pss_one (ps_ret (pe_own h_kind (hr.mono (by decide)) pass0 (pa_cons (pv 4) pa_nil)))) pss_nil)
 (pss_one (ps_ret (pe_lst (pa_cons (pv 3) pa_nil)))))))), ?_⟩
  refine ⟨_, rfl, _, rfl, _, rfl, _, _, _, rfl, r, t, p, m, s0, n, rfl, rfl, rfl, hr1, R, fun a d nd => ?_, fun a b H1 s1 => ?_, fun a b g H1 y s1 hy => ?_, fun a b g => ?_⟩
  · refine ⟨xmN, fun ae nae => ?_⟩
    have s1 := same_new (o := .xd [("number", .int s0)]) nd
    have s2 := same_new (o := exv ae (.ref CN) (some d)) nae
    refine ⟨_, rfl, ?_⟩
    refine ⟨_, rfl, rfl, _, rfl, ifN (fun e => ?_) (fun e => nomatch e)⟩
    refine ⟨_, rfl, _, rfl, .inl ⟨ae, d, _, rfl, upd_same, s2 _ _ upd_same, fun H1 u s3 nu hu => ?_⟩⟩
    exact eN a _ u (s1.trans (s2.trans s3)) (s1.free (s2.free nu)) hu
  · refine ⟨_, rfl, rfl, _, rfl, ifN (fun e => absurd rfl e) (fun _ => ?_)⟩
    refine ⟨_, rfl, by show 1 ≤ sizeLine; decide, fun u nu => ?_⟩
    exact qa a b _ u (s1.trans (same_new nu)) (s1.free nu) upd_same
  · refine ⟨_, rfl, rfl, _, rfl, ifN (fun e => absurd rfl e) (fun _ => ?_)⟩
    refine ⟨_, rfl, by show 1 ≤ sizeLine; decide, fun u nu => ?_⟩
    exact qb a b g _ u y (s1.trans (same_new nu)) (s1.free nu) hy upd_same
  · refine ⟨xmB, fun ae nae => ?_⟩
    have s2 := same_new (o := exv ae (.ref CB) none) nae
    refine ⟨_, rfl, ?_⟩
    refine ⟨_, rfl, rfl, _, rfl, ifN (fun e => ?_) (fun e => nomatch e)⟩
    refine ⟨_, rfl, _, rfl, .inr ⟨ae, rfl, upd_same, fun H1 u s3 nu hu => ?_⟩⟩
    exact eB a b g _ u (s2.trans s3) (s2.free nu) hu
theorem ok_right (D : Top K mg "_law_right" s_right ["rule", "start", "steps"]) (h_told : Has P w K mg base CX0 6 "_law_told" ["rule", "start", "steps"] (sp3 (pTold3 K))) (h_divisor : Has P w K mg base CX0 1 "_law_divisor" ["one", "other"] (sp2 pGcd)) (h_ahead : Has P w K mg base CX0 3 "_law_ahead" ["rule", "start", "steps"] (sp3 (pAhead K)))
    (z_isinstance : mg "isinstance" = none) (z_list : mg "list" = none) (z_int : mg "int" = none) (z_bool : mg "bool" = none) : Has P w K mg base CX0 7 "_law_right" ["rule", "start", "steps"] (sp3 (pRight3 K)) := by
  refine D.ok3 sc_right (fun f cdv A outer s H v1 v2 v3 Q E hr h => ?_)
  obtain ⟨r, t, p, m, s0, n, rfl, rfl, rfl, hr1, R, a0, a1, q⟩ := h
  refine ⟨_, (pss_cons (ps_set (i := 3) sc_right.nd rfl (.inl rfl) (pe_own h_told (hr.mono (by decide)) pass0 (pa_cons (pv 0) (pa_cons (pv 1) (pa_cons (pv 2) pa_nil)))))
 (pss_cons (ps_if (pt_cmpR (op_neD hr.units) (pe_own h_told (hr.mono (by decide)) pass0 (pa_cons (pv 0) (pa_cons (pv 1) (pa_cons (pv 2) pa_nil)))) (pv 3) (nomark _)) (pss_one (ps_ret pe_bl)) pss_nil)
 (pss_cons (ps_if (PW.pt (pw_and (pt_cmpR op_lt (pv 2) pe_int (nomark _)) (pw_and1 (pt_cmpR op_gt (pe_own h_divisor (hr.mono (by decide)) pass0 (pa_cons (pe_ix ix_tup (pv 0) pe_int (fun _ _ => rfl)) (pa_cons (pe_ix ix_tup (pv 0) pe_int (fun _ _ => rfl)) pa_nil))) pe_int (nomark _))))) (pss_one (ps_ret (pe_cmpR (op_eqD hr.units) (pv 3) (pe_tup (pa_cons pe_str pa_nil)) (nomark _)))) pss_nil)
 (pss_cons (ps_if (pt_not (pt_val (pe_callB (id := "isinstance") call_isA (by rfl) z_isinstance (by decide +kernel) (pa_cons (pv 3) (pa_cons (pe_bltn (v := .ty "list") (by rfl) z_list (by decide +kernel) rfl) pa_nil))))) (pss_one (ps_ret pe_bl)) pss_nil)
 (pss_cons (ps_set (i := 3) sc_right.nd rfl (.inl rfl) (pe_ix ix_list (pv 3) pe_int (fun _ _ => rfl)))
 (pss_cons (ps_if (PW.pt (pw_or (pt_not (pt_val (pe_callB (id := "isinstance") call_isA (by rfl) z_isinstance (by decide +kernel) (pa_cons (pv 3) (pa_cons (pe_bltn (v := .ty "int") (by rfl) z_int (by decide +kernel) rfl) pa_nil))))) (pw_or (pt_val (pe_callB (id := "isinstance") call_isA (by rfl) z_isinstance (by decide +kernel) (pa_cons (pv 3) (pa_cons (pe_bltn (v := .ty "bool") (by rfl) z_bool (by decide +kernel) rfl) pa_nil)))) (pw_or1 (pt_not (pt_chain op_le op_lt pe_int (pv 3) (pe_ix ix_tup (pv 0) pe_int (fun _ _ => rfl)))))))) (pss_one (ps_ret pe_bl)) pss_nil)
 (pss_cons (ps_if (pt_cmpR op_lt (pv 2) pe_int (nomark _)) (pss_one (ps_ret (pe_cmpR op_eq (pe_own h_ahead (hr.mono (by decide)) pass0 (pa_cons (pv 0) (pa_cons (pv 3) (pa_cons (pe_op op_sub pe_int (pv 2)) pa_nil)))) (pv 1) (nomark _)))) pss_nil)
 (pss_one (ps_ret (pe_cmpR (op_eqD hr.units) (pv 3) (pe_own h_ahead (hr.mono (by decide)) pass0 (pa_cons (pv 0) (pa_cons (pv 1) (pa_cons (pv 2) pa_nil)))) (nomark _))))))))))), ?_⟩
  have m0 : 0 < m := by have := R.b1; omega
  have t0 := R.t0
  have sr : 0 ≤ s0 ∧ s0 < m := ⟨a0, a1⟩
  -- both calls of told, whatever comes
  refine ⟨_, rfl, _, rfl, _, rfl, _, _, _, rfl, r, t, p, m, s0, n, rfl, rfl, rfl, hr1, R, fun z => absurd sr z, fun _ n0 H1 u1 s1 n1 h1 => ?_, fun _ nn g H1 u1 y s1 n1 hy h1 => ?_, fun _ nn g H1 u1 s1 n1 h1 => ?_⟩
  · -- ahead
    have ar := ahd_rng (t := t) (p := p) m0 n.toNat s0
    refine ⟨_, rfl, _, rfl, _, rfl, _, _, _, rfl, r, t, p, m, s0, n, rfl, rfl, rfl, s1.tup hr1, R, fun z => absurd sr z, fun _ _ H2 u2 s2 n2 h2 => ?_, fun _ nn => by omega, fun _ nn => by omega⟩
    refine ⟨_, rfl, .list [.int (ahd t p m n.toNat s0)], .list [.int (ahd t p m n.toNat s0)], .lst (SqL.of h2) (.cons (.int _) .nil), .lst (SqL.of (s2 _ _ h1)) (.cons (.int _) .nil), rfl, rfl, _, rfl, ifF (by rw [eqv_self rfl]; rfl) ?_⟩
    have S := s1.trans s2
    refine ⟨_, rfl, _, _, rfl, rfl, _, rfl, ifD (fun nn => by omega) (fun _ => ifF rfl ?_)⟩
    refine ⟨_, rfl, .inr ⟨_, _, _, _, true, rfl, .ty _, .base (.lst (s2 _ _ h1)), kit_ty (by decide +kernel), _, rfl, ifF rfl ?_⟩⟩
    refine ⟨_, rfl, u1, _, 0, _, rfl, rfl, SqL.of (s2 _ _ h1), rfl, ?_⟩
    refine ⟨_, rfl, .inr ⟨_, _, _, _, true, rfl, .ty _, .base (.int _), kit_ty (by decide +kernel), _, rfl, ifF rfl ?_⟩⟩
    refine ⟨_, rfl, .inr ⟨_, _, _, _, false, rfl, .ty _, .base (.int _), kit_ty (by decide +kernel), _, rfl, ifF rfl ?_⟩⟩
    refine ⟨_, rfl, _, _, rfl, rfl, _, rfl, ifT (decide_eq_true ar.1) ?_⟩
    refine ⟨_, rfl, r, _, 2, .int m, rfl, rfl, S.tup hr1, rfl, _, _, rfl, rfl, _, rfl, ifF (by rw [decide_eq_true ar.2]; rfl) ?_⟩
    refine ⟨_, rfl, _, _, rfl, rfl, _, rfl, ifD (fun nn => by omega) (fun _ => ?_)⟩
    refine ⟨_, rfl, _, rfl, _, rfl, _, rfl, _, _, _, rfl, r, t, p, m, s0, n, rfl, rfl, rfl, S.tup hr1, R, a0, a1, n0, fun H3 s3 => ?_⟩
    refine ⟨.int _, .int _, .int _, .int _, rfl, rfl, ?_⟩
    rw [eqv_self rfl]
    exact q _ (S.trans s3)
  · -- back
    refine ⟨_, rfl, _, rfl, _, rfl, _, _, _, rfl, r, t, p, m, s0, n, rfl, rfl, rfl, s1.tup hr1, R, fun z => absurd sr z, fun _ n0 => by omega, fun _ _ _ H2 u2 y2 s2 n2 hy2 h2 => ?_, fun _ _ z => absurd g z⟩
    have ey := hy2.uniq g hy
    subst ey
    refine ⟨_, rfl, .list [.int y2], .list [.int y2], .lst (SqL.of h2) (.cons (.int _) .nil), .lst (SqL.of (s2 _ _ h1)) (.cons (.int _) .nil), rfl, rfl, _, rfl, ifF (by rw [eqv_self rfl]; rfl) ?_⟩
    have S := s1.trans s2
    obtain ⟨y0, y1, ye⟩ := hy2
    refine ⟨_, rfl, _, _, rfl, rfl, _, rfl, ifD (fun _ => ?_) (fun nn => by omega)⟩
    refine ⟨_, rfl, r, _, 0, .int t, rfl, rfl, S.tup hr1, rfl, _, rfl, r, _, 2, .int m, rfl, rfl, S.tup hr1, rfl, _, _, rfl, t, m, rfl, rfl, t0, by omega, _, _, rfl, rfl, _, rfl, ifF (by rw [g]; rfl) ?_⟩
    refine ⟨_, rfl, .inr ⟨_, _, _, _, true, rfl, .ty _, .base (.lst (s2 _ _ h1)), kit_ty (by decide +kernel), _, rfl, ifF rfl ?_⟩⟩
    refine ⟨_, rfl, u1, _, 0, _, rfl, rfl, SqL.of (s2 _ _ h1), rfl, ?_⟩
    refine ⟨_, rfl, .inr ⟨_, _, _, _, true, rfl, .ty _, .base (.int _), kit_ty (by decide +kernel), _, rfl, ifF rfl ?_⟩⟩
    refine ⟨_, rfl, .inr ⟨_, _, _, _, false, rfl, .ty _, .base (.int _), kit_ty (by decide +kernel), _, rfl, ifF rfl ?_⟩⟩
    refine ⟨_, rfl, _, _, rfl, rfl, _, rfl, ifT (decide_eq_true y0) ?_⟩
    refine ⟨_, rfl, r, _, 2, .int m, rfl, rfl, S.tup hr1, rfl, _, _, rfl, rfl, _, rfl, ifF (by rw [decide_eq_true y1]; rfl) ?_⟩
    refine ⟨_, rfl, _, _, rfl, rfl, _, rfl, ifD (fun _ => ?_) (fun nn => by omega)⟩
    refine ⟨_, rfl, _, rfl, _, rfl, _, _, rfl, rfl, _, _, _, rfl, r, t, p, m, y2, 0 - n, rfl, rfl, rfl, S.tup hr1, R, y0, y1, by omega, fun H3 s3 => ?_⟩
    refine ⟨_, rfl, rfl, ?_⟩
    rw [show (0 - n) = -n by omega, ye, decide_eq_true rfl]
    exact q _ (S.trans s3)
  · -- no way back
    refine ⟨_, rfl, _, rfl, _, rfl, _, _, _, rfl, r, t, p, m, s0, n, rfl, rfl, rfl, s1.tup hr1, R, fun z => absurd sr z, fun _ n0 => by omega, fun _ _ z => absurd z g, fun _ _ _ H2 u2 s2 n2 h2 => ?_⟩
    refine ⟨_, rfl, .tuple [.str "back"], .tuple [.str "back"], .tup (SqT.of h2) (.cons (.str _) .nil), .tup (SqT.of (s2 _ _ h1)) (.cons (.str _) .nil), shp_back, shp_back, _, rfl, ifF (by rw [eqv_self shp_back]; rfl) ?_⟩
    have S := s1.trans s2
    refine ⟨_, rfl, _, _, rfl, rfl, _, rfl, ifD (fun _ => ?_) (fun nn => by omega)⟩
    have g2 : 1 < Int.gcd t m := by
      have : Int.gcd t m ≠ 0 := fun z => by
        have := (Int.gcd_eq_zero_iff.mp z).2
        omega
      omega
    refine ⟨_, rfl, r, _, 0, .int t, rfl, rfl, S.tup hr1, rfl, _, rfl, r, _, 2, .int m, rfl, rfl, S.tup hr1, rfl, _, _, rfl, t, m, rfl, rfl, t0, by omega, _, _, rfl, rfl, _, rfl, ifT (decide_eq_true (by omega)) ?_⟩
    refine ⟨_, rfl, by show 1 ≤ sizeLine; decide, fun x nx => ?_⟩
    have s3 := same_new (o := .tup [.str "back"]) nx
    refine ⟨.tuple [.str "back"], .tuple [.str "back"], .tup (SqT.of (s3 _ _ (s2 _ _ h1))) (.cons (.str _) .nil), .tup (SqT.of upd_same) (.cons (.str _) .nil), shp_back, shp_back, ?_⟩
    rw [eqv_self shp_back]
    exact q _ (S.trans s3)
theorem ok_law {CN CB fL : Addr} {fdL : FuncData} (F : Fun K "law" "law" s_law fL fdL) (h_deck : Has P w K mg base CX0 1 "_law_deck" ["script"] (sp1 (pDeck K))) (h_rule : Has P w K mg base CX0 5 "_law_rule" ["deck", "most"] (sp2 pRule))
    (h_start : Has P w K mg base CX0 4 "_law_start" ["deck", "bound"] (sp2 (pNext 3))) (h_wrong : Has P w K mg base CX0 4 "_law_wrong" ["deck", "bound"] (sp2 pWrong)) (h_steps : Has P w K mg base CX0 3 "_law_steps" ["deck"] (sp1 pStepsL))
    (h_told : Has P w K mg base CX0 6 "_law_told" ["rule", "start", "steps"] (sp3 (pTold3 K))) (h_right : Has P w K mg base CX0 7 "_law_right" ["rule", "start", "steps"] (sp3 (pRight3 K))) (h_jumped : Has P w K mg base (L2.CX P w) 5 "jumped" ["rule", "start", "steps"] (sp3 (pJump K CN CB)))
    (z_range : mg "range" = none) :
    FnOk P w K mg base CX0 8 fL fdL ["script"] (sp1 fun a H Q _ => ∃ (sa : Addr) (xs : List Int), a = .ref sa ∧ SqL K H sa (xs.map V.int) ∧ ∀ H', Q (.bl true) H') := by
  refine F.ok sc_law (fun vs H Q E h => by obtain ⟨_, rfl, _⟩ := h; rfl) (fun cdv A outer s H vs Q E hr h => ?_)
  obtain ⟨v1, rfl, sa, xs, rfl, hS, q⟩ := h
  refine ⟨_, (pss_cons (ps_set (i := 1) sc_law.nd rfl (.inl rfl) (pe_own h_deck (hr.mono (by decide)) pass0 (pa_cons (pv 0) pa_nil)))
 (pss_cons (ps_for PassesOwn.never rfl (pi_range1 (by rfl) z_range (pa_cons pe_int pa_nil)) (pg_name (i := 2) sc_law.nd rfl (.inl rfl)) (pss_cons (ps_set (i := 3) sc_law.nd rfl (.inl rfl) (pe_own h_rule (hr.mono (by decide)) pass0 (pa_cons (pv 1) (pa_cons (pe_op op_pow pe_int pe_int) pa_nil))))
 (pss_one (ps_for PassesOwn.never rfl (pi_range1 (by rfl) z_range (pa_cons pe_int pa_nil)) (pg_name (i := 4) sc_law.nd rfl (.inl rfl)) (pss_cons (ps_set (i := 5) sc_law.nd rfl (.inl rfl) (pe_own h_start (hr.mono (by decide)) pass0 (pa_cons (pv 1) (pa_cons (pe_ix ix_tup (pv 3) pe_int (fun _ _ => rfl)) pa_nil))))
 (pss_cons (ps_if (PW.pt (pw_or (pt_not (pt_val (pe_own h_right (hr.mono (by decide)) pass0 (pa_cons (pv 3) (pa_cons (pv 5) (pa_cons (pe_own h_steps (hr.mono (by decide)) pass0 (pa_cons (pv 1) pa_nil)) pa_nil)))))) (pw_or1 (pt_not (pt_val (pe_own h_right (hr.mono (by decide)) pass0 (pa_cons (pv 3) (pa_cons (pv 5) (pa_cons (pe_un un_neg pe_int) pa_nil))))))))) (pss_one (ps_ret pe_bl)) pss_nil)
 (pss_cons (ps_set (i := 6) sc_law.nd rfl (.inl rfl) (pe_own h_wrong (hr.mono (by decide)) pass0 (pa_cons (pv 1) (pa_cons (pe_ix ix_tup (pv 3) pe_int (fun _ _ => rfl)) pa_nil))))
 (pss_cons (ps_for PassesOwn.never rfl (pi_list (pe_lst (pa_cons pe_int (pa_cons (pe_own h_steps (hr.mono (by decide)) pass0 (pa_cons (pv 1) pa_nil)) (pa_cons (pe_un un_neg pe_int) pa_nil))))) (pg_name (i := 7) sc_law.nd rfl (.inl rfl)) (pss_one (ps_if (pt_cmpR (op_neD hr.units) (pe_own h_told (hr.mono (by decide)) pass0 (pa_cons (pv 3) (pa_cons (pv 6) (pa_cons (pv 7) pa_nil)))) (pe_tup (pa_cons pe_str (pa_cons (pv 6) pa_nil))) (nomark _)) (pss_one (ps_ret pe_bl)) pss_nil)))
 (pss_one (ps_if (PW.pt (pw_or (pt_not (pt_val (pe_own h_right (hr.mono (by decide)) pass0 (pa_cons (pv 3) (pa_cons (pv 5) (pa_cons (pe_ix ix_list (pe_lst (pa_cons pe_int (pa_cons pe_int (pa_cons pe_int pa_nil)))) (pe_op op_mod (pv 4) pe_int) (fun _ _ => rfl)) pa_nil)))))) (pw_or1 (pt_not (pt_val (pe_own h_right (hr.mono (by decide)) pass0 (pa_cons (pv 3) (pa_cons (pv 5) (pa_cons pe_int pa_nil))))))))) (pss_one (ps_ret pe_bl)) pss_nil))))))))))
 (pss_one (ps_ret (pe_and (pe_cmpR op_eq (pe_own h_jumped (hr.mono (by decide)) passL (pa_cons (pe_tup (pa_cons pe_int (pa_cons pe_int (pa_cons pe_int pa_nil)))) (pa_cons pe_int (pa_cons (pe_un un_neg pe_int) pa_nil)))) pe_int (nomark _)) (pe_one (pe_cmpR op_eq (pe_own h_jumped (hr.mono (by decide)) passL (pa_cons (pe_tup (pa_cons pe_int (pa_cons pe_int (pa_cons pe_int pa_nil)))) (pa_cons pe_int (pa_cons (pe_un un_neg (pe_op op_pow pe_int pe_int)) pa_nil)))) pe_int (nomark _)))))))), ?_⟩
  refine ⟨_, rfl, _, rfl, sa, xs, rfl, hS, fun H1 d s1 nd D1 => ?_⟩
  refine ⟨6, rfl, by decide, by decide, for_range (lo := 0) (n := 6) (fun i σ H' => ∃ (y2 y3 y4 y5 y6 y7 : Option V), σ = [some (.ref sa), some (.ref d), y2, y3, y4, y5, y6, y7] ∧ Deck H' d (200 * i)) ⟨none, none, none, none, none, none, rfl, D1⟩ ?_ ?_⟩
  · rintro i σ H2 hi ⟨y2, y3, y4, y5, y6, y7, rfl, D2⟩
    refine ⟨_, rfl, _, _, rfl, rfl, ⟨by decide, by decide, by decide⟩, _, _, rfl, d, 200 * i, _, rfl, rfl, by decide, by decide, D2, by omega, fun H3 r t p b B3 D3 nr hr3 R bM => ?_⟩
    have b0 := R.b1
    have b2 := R.b2
    refine ⟨4, rfl, by decide, by decide, for_range (lo := 0) (n := 4) (fun j σ H' => ∃ (y4 y5 y6 y7 : Option V), σ = [some (.ref sa), some (.ref d), some (.int (0 + i)), some (.ref r), y4, y5, y6, y7] ∧ H' r = some (.tup [.int t, .int p, .int b]) ∧ Deck H' d (200 * i + 60 + 20 * j)) ⟨y4, y5, y6, y7, rfl, hr3, D3⟩ ?_ ?_⟩
    · rintro j σ H4 hj ⟨z4, z5, z6, z7, rfl, hr4, D4⟩
      refine ⟨_, rfl, _, rfl, r, _, 2, .int b, rfl, rfl, SqT.of hr4, rfl, _, _, rfl, d, 200 * i + 60 + 20 * j, b, rfl, rfl, by omega, by omega, D4, by omega, fun H5 st B5 D5 u0 u1 => ?_⟩
      have hr5 : H5 r = some (.tup [.int t, .int p, .int b]) := B5 _ _ (D4.ne_tup hr4) hr4
      refine ⟨_, rfl, _, rfl, _, rfl, _, rfl, d, 200 * i + 60 + 20 * j + 3, rfl, D5, by omega, fun H6 v B6 D6 => ?_⟩
      have hr6 : H6 r = some (.tup [.int t, .int p, .int b]) := B6 _ _ (D5.ne_tup hr5) hr5
      refine ⟨_, _, _, rfl, r, t, p, b, st, v, rfl, rfl, rfl, SqT.of hr6, R, u0, u1, fun H7 s7 => ?_⟩
      refine ⟨_, rfl, ifF rfl ?_⟩
      refine ⟨_, rfl, _, rfl, _, rfl, _, _, _, rfl, r, t, p, b, st, -1, rfl, rfl, rfl, SqT.of (s7 _ _ hr6), R, u0, u1, fun H8 s8 => ?_⟩
      refine ⟨_, rfl, ifF rfl ?_⟩
      have hr8 := s8 _ _ (s7 _ _ hr6)
      have D8 := (D6.same s7).same s8
      refine ⟨_, rfl, _, rfl, r, _, 2, .int b, rfl, rfl, SqT.of hr8, rfl, _, _, rfl, d, 200 * i + 60 + 20 * j + 8, b, rfl, rfl, by omega, by omega, D8, by omega, fun H9 wr B9 D9 hw => ?_⟩
      have hr9 : H9 r = some (.tup [.int t, .int p, .int b]) := B9 _ _ (D8.ne_tup hr8) hr8
      have nw : ¬ (0 ≤ wr ∧ wr < b) := by omega
      refine ⟨_, rfl, _, rfl, d, 200 * i + 60 + 20 * j + 12, rfl, D9, by omega, fun H10 v2 B10 D10 => ?_⟩
      have hr10 : H10 r = some (.tup [.int t, .int p, .int b]) := B10 _ _ (D9.ne_tup hr9) hr9
      refine ⟨_, rfl, by show 3 ≤ sizeLine; decide, fun l nl => ?_⟩
      have s10 := same_new (o := .lst [.int 0, .int v2, .int (-1)]) nl
      refine ⟨l, rfl, ⟨_, SqL.of upd_same⟩, for_list (K := K) (a := l) (xs := ([0, v2, -1] : List Int).map V.int) (fun c σ H' => ∃ (y : Option V), σ = [some (.ref sa), some (.ref d), some (.int (0 + i)), some (.ref r), some (.int (0 + j)), some (.int st), some (.int wr), y] ∧ Same (upd H10 l (.lst [.int 0, .int v2, .int (-1)])) H')
        ⟨z7, rfl, Same.refl _⟩ (fun c σ H' _ ⟨_, _, sm⟩ => SqL.of (sm _ _ upd_same)) ?_ ?_⟩
      · rintro c xv σ H11 hc ⟨y, rfl, sm⟩
        obtain ⟨stp', _, rfl⟩ := List.mem_map.mp (List.mem_of_getElem? hc)
        refine ⟨_, rfl, _, rfl, _, rfl, _, _, _, rfl, r, t, p, b, wr, stp', rfl, rfl, rfl, SqT.of (sm _ _ (s10 _ _ hr10)), R, fun _ H12 q12 s12 n12 h12 => ?_, fun z => absurd z nw, fun z => absurd z nw, fun z => absurd z nw⟩
        refine ⟨_, rfl, by show 2 ≤ sizeLine; decide, fun a1 na1 => ?_⟩
        have t1 := same_new (o := .tup [.str "number", .int wr]) na1
        refine ⟨.tuple [.str "number", .int wr], .tuple [.str "number", .int wr], .tup (SqT.of (t1 _ _ h12)) (.cons (.str _) (.cons (.int _) .nil)), .tup (SqT.of upd_same) (.cons (.str _) (.cons (.int _) .nil)), shp_sn wr, shp_sn wr, _, rfl, ifF (by rw [eqv_self (shp_sn wr)]; rfl) ?_⟩
        exact ⟨some (.int stp'), rfl, sm.trans (s12.trans t1)⟩
      · rintro σ H11 ⟨y, rfl, sm⟩
        have S11 := s10.trans sm
        have hr11 := S11 _ _ hr10
        refine ⟨_, rfl, _, rfl, by show 3 ≤ sizeLine; decide, fun l2 nl2 => ?_⟩
        have s12 := same_new (o := .lst [.int 1, .int 2, .int 3]) nl2
        have kr := mod_bd (0 + (j : Int)) (show (0 : Int) < 3 by decide)
        obtain ⟨x, hx, ex⟩ := at_ints (ns := [1, 2, 3]) kr.1 (by show _ < (3 : Int); exact kr.2)
        refine ⟨_, rfl, _, _, rfl, rfl, (by show (0 : Int) < 3; decide), l2, _, _, _, rfl, rfl, SqL.of upd_same, ex, ?_⟩
        refine ⟨_, _, _, rfl, r, t, p, b, st, x, rfl, rfl, rfl, SqT.of (s12 _ _ hr11), R, u0, u1, fun H13 s13 => ?_⟩
        refine ⟨_, rfl, ifF rfl ?_⟩
        refine ⟨_, rfl, _, rfl, _, _, _, rfl, r, t, p, b, st, 0, rfl, rfl, rfl, SqT.of (s13 _ _ (s12 _ _ hr11)), R, u0, u1, fun H14 s14 => ?_⟩
        have S14 := S11.trans (s12.trans (s13.trans s14))
        exact ⟨_, rfl, ifF rfl ⟨some (.int (0 + j)), some (.int st), some (.int wr), y, rfl, S14 _ _ hr10, (D10.same S14).mono (by omega)⟩⟩
    · rintro σ H4 ⟨z4, z5, z6, z7, rfl, hr4, D4⟩
      exact ⟨some (.int (0 + i)), some (.ref r), z4, z5, z6, z7, rfl, D4.mono (by omega)⟩
  · rintro σ H2 ⟨y2, y3, y4, y5, y6, y7, rfl, D2⟩
    refine ⟨by show 3 ≤ sizeLine; decide, fun a na => ?_⟩
    refine ⟨_, rfl, _, _, _, rfl, a, 3, 1, 7, 2, -1, rfl, rfl, rfl, SqT.of upd_same, ⟨by decide, by decide, by decide, by decide, by decide, by decide⟩, fun z => absurd ⟨by decide, by decide⟩ z, fun _ z => absurd z (by decide), fun _ _ _ H3 y s3 hy => ?_, fun _ _ z => absurd (by decide) z⟩
    have ey : y = 5 := by
      obtain ⟨h0, h1, h2⟩ := hy
      have h3 : (3 * y + 1) % 7 = 2 := by
        have : ahd 3 1 7 (-(-1 : Int)).toNat y = (3 * y + 1) % 7 := by
          unfold ahd
          show (3 ^ 1 * y + 1 * (0 + 3 ^ 0)) % 7 = _
          rw [Int.pow_one, Int.pow_zero]
          congr 1
        rw [← this]; exact h2
      omega
    subst ey
    refine ⟨rfl, _, rfl, ifT rfl ?_⟩
    refine ⟨by show 3 ≤ sizeLine; decide, fun a2 na2 => ?_⟩
    refine ⟨_, _, rfl, rfl, ⟨by decide, by decide, by decide⟩, _, rfl, _, _, _, rfl, a2, 0, 0, 1, 0, _, rfl, rfl, rfl, SqT.of upd_same, ⟨by decide, by decide, by decide, by decide, by decide, by decide⟩, fun z => absurd ⟨by decide, by decide⟩ z, fun _ z => absurd z (by decide), fun _ _ _ H4 y s4 hy => ?_, fun _ _ z => absurd (by decide) z⟩
    have ey : y = 0 := by
      obtain ⟨h0, h1, h2⟩ := hy
      omega
    subst ey
    exact ⟨rfl, q _⟩
end
end Tw


namespace Tw
open PySem PySem.Spec PyProof.Rows L2

def spLaw (K : PySem.W.Frag) : Sp := sp1 fun a H Q _ => ∃ (sa : Addr) (xs : List Int), a = .ref sa ∧ SqL K H sa (xs.map V.int) ∧ ∀ H', Q (.bl true) H'
theorem all_mk {l : PySem.W.OpenLaw} {w : World} {K : PySem.W.Frag} {h : Heap} {mg : Str → Option Value} {fa CR CA CB CF CN CU f0 f1 f2 f3 f4 f5 f6 f7 f8 f9 f10 f11 f12 f13 f14 f15 f16 f17 f18 f19 f20 f21 f22 f23 f24 f25 f26 fI Nn : Addr} (X : K.In h) (G : h.Ns mainGlobals mg) (hfa : mg "law" = some (.ref fa))
    {oc0 kV0 dc0 pm0 cd0 ct0 : Value} {od0 an0 : Option Addr} {sl0 : Array (Option Value)}
    {oc1 kV1 dc1 pm1 cd1 ct1 : Value} {od1 an1 : Option Addr} {sl1 : Array (Option Value)}
    {oc2 kV2 dc2 pm2 cd2 ct2 : Value} {od2 an2 : Option Addr} {sl2 : Array (Option Value)}
    {oc3 kV3 dc3 pm3 cd3 ct3 : Value} {od3 an3 : Option Addr} {sl3 : Array (Option Value)}
    {oc4 kV4 dc4 pm4 cd4 ct4 : Value} {od4 an4 : Option Addr} {sl4 : Array (Option Value)}
    {oc5 kV5 dc5 pm5 cd5 ct5 : Value} {od5 an5 : Option Addr} {sl5 : Array (Option Value)}
    {oc6 kV6 dc6 pm6 cd6 ct6 : Value} {od6 an6 : Option Addr} {sl6 : Array (Option Value)}
    {oc7 kV7 dc7 pm7 cd7 ct7 : Value} {od7 an7 : Option Addr} {sl7 : Array (Option Value)}
    {oc8 kV8 dc8 pm8 cd8 ct8 : Value} {od8 an8 : Option Addr} {sl8 : Array (Option Value)}
    {oc9 kV9 dc9 pm9 cd9 ct9 : Value} {od9 an9 : Option Addr} {sl9 : Array (Option Value)}
    {oc10 kV10 dc10 pm10 cd10 ct10 : Value} {od10 an10 : Option Addr} {sl10 : Array (Option Value)}
    {oc11 kV11 dc11 pm11 cd11 ct11 : Value} {od11 an11 : Option Addr} {sl11 : Array (Option Value)}
    {oc12 kV12 dc12 pm12 cd12 ct12 : Value} {od12 an12 : Option Addr} {sl12 : Array (Option Value)}
    {oc13 kV13 dc13 pm13 cd13 ct13 : Value} {od13 an13 : Option Addr} {sl13 : Array (Option Value)}
    {oc14 kV14 dc14 pm14 cd14 ct14 : Value} {od14 an14 : Option Addr} {sl14 : Array (Option Value)}
    {oc15 kV15 dc15 pm15 cd15 ct15 : Value} {od15 an15 : Option Addr} {sl15 : Array (Option Value)}
    {oc16 kV16 dc16 pm16 cd16 ct16 : Value} {od16 an16 : Option Addr} {sl16 : Array (Option Value)}
    {oc17 kV17 dc17 pm17 cd17 ct17 : Value} {od17 an17 : Option Addr} {sl17 : Array (Option Value)}
    {oc18 kV18 dc18 pm18 cd18 ct18 : Value} {od18 an18 : Option Addr} {sl18 : Array (Option Value)}
    {oc19 kV19 dc19 pm19 cd19 ct19 : Value} {od19 an19 : Option Addr} {sl19 : Array (Option Value)}
    {oc20 kV20 dc20 pm20 cd20 ct20 : Value} {od20 an20 : Option Addr} {sl20 : Array (Option Value)}
    {oc21 kV21 dc21 pm21 cd21 ct21 : Value} {od21 an21 : Option Addr} {sl21 : Array (Option Value)}
    {oc22 kV22 dc22 pm22 cd22 ct22 : Value} {od22 an22 : Option Addr} {sl22 : Array (Option Value)}
    {oc23 kV23 dc23 pm23 cd23 ct23 : Value} {od23 an23 : Option Addr} {sl23 : Array (Option Value)}
    {oc24 kV24 dc24 pm24 cd24 ct24 : Value} {od24 an24 : Option Addr} {sl24 : Array (Option Value)}
    {oc25 kV25 dc25 pm25 cd25 ct25 : Value} {od25 an25 : Option Addr} {sl25 : Array (Option Value)}
    {oc26 kV26 dc26 pm26 cd26 ct26 : Value} {od26 an26 : Option Addr} {sl26 : Array (Option Value)}
    {nm qn : Str} {bs : List Value} {sn : List Str} {sub : List Value} {ab : Bool} {col : Option Bool} {dd : Option Addr} {m0 m1 m2 m3 m5 : Option Value} {ocI kVI dcI pmI cdI ctI : Value} {odI anI : Option Addr} {slI : Array (Option Value)}
    (aCR : PySem.W.nsIn K mainGlobals "RowError" = some (some (.ref CR)))
    (aCA : PySem.W.nsIn K mainGlobals "NoAsk" = some (some (.ref CA)))
    (aCB : PySem.W.nsIn K mainGlobals "NoBack" = some (some (.ref CB)))
    (aCF : PySem.W.nsIn K mainGlobals "NoFit" = some (some (.ref CF)))
    (aCN : PySem.W.nsIn K mainGlobals "NoNumber" = some (some (.ref CN)))
    (aCU : PySem.W.nsIn K mainGlobals "NoRule" = some (some (.ref CU)))
    (a0 : PySem.W.nsIn K mainGlobals "_law_mix" = some (some (.ref f0)))
    (l0 : K.lookup f0 = some ⟨oc0, od0, .func (PySem.W.fnOf "_law_mix" "_law_mix" (defArgs s_mix) (defBody s_mix) (defScope s_mix) .none kV0 dc0 pm0 an0 cd0 ct0), sl0⟩)
    (c0 : PySem.W.codeIn K cd0 "_law_mix" = true)
    (k0 : PySem.W.keepIn K (.ref f0) = true)
    (a1 : PySem.W.nsIn K mainGlobals "_law_deck" = some (some (.ref f1)))
    (l1 : K.lookup f1 = some ⟨oc1, od1, .func (PySem.W.fnOf "_law_deck" "_law_deck" (defArgs s_deck) (defBody s_deck) (defScope s_deck) .none kV1 dc1 pm1 an1 cd1 ct1), sl1⟩)
    (c1 : PySem.W.codeIn K cd1 "_law_deck" = true)
    (k1 : PySem.W.keepIn K (.ref f1) = true)
    (a2 : PySem.W.nsIn K mainGlobals "_law_next" = some (some (.ref f2)))
    (l2 : K.lookup f2 = some ⟨oc2, od2, .func (PySem.W.fnOf "_law_next" "_law_next" (defArgs s_next) (defBody s_next) (defScope s_next) .none kV2 dc2 pm2 an2 cd2 ct2), sl2⟩)
    (c2 : PySem.W.codeIn K cd2 "_law_next" = true)
    (k2 : PySem.W.keepIn K (.ref f2) = true)
    (a3 : PySem.W.nsIn K mainGlobals "_law_great" = some (some (.ref f3)))
    (l3 : K.lookup f3 = some ⟨oc3, od3, .func (PySem.W.fnOf "_law_great" "_law_great" (defArgs s_great) (defBody s_great) (defScope s_great) .none kV3 dc3 pm3 an3 cd3 ct3), sl3⟩)
    (c3 : PySem.W.codeIn K cd3 "_law_great" = true)
    (k3 : PySem.W.keepIn K (.ref f3) = true)
    (a4 : PySem.W.nsIn K mainGlobals "_law_bound" = some (some (.ref f4)))
    (l4 : K.lookup f4 = some ⟨oc4, od4, .func (PySem.W.fnOf "_law_bound" "_law_bound" (defArgs s_bound) (defBody s_bound) (defScope s_bound) .none kV4 dc4 pm4 an4 cd4 ct4), sl4⟩)
    (c4 : PySem.W.codeIn K cd4 "_law_bound" = true)
    (k4 : PySem.W.keepIn K (.ref f4) = true)
    (a5 : PySem.W.nsIn K mainGlobals "_law_rule" = some (some (.ref f5)))
    (l5 : K.lookup f5 = some ⟨oc5, od5, .func (PySem.W.fnOf "_law_rule" "_law_rule" (defArgs s_rule) (defBody s_rule) (defScope s_rule) .none kV5 dc5 pm5 an5 cd5 ct5), sl5⟩)
    (c5 : PySem.W.codeIn K cd5 "_law_rule" = true)
    (k5 : PySem.W.keepIn K (.ref f5) = true)
    (a6 : PySem.W.nsIn K mainGlobals "_law_start" = some (some (.ref f6)))
    (l6 : K.lookup f6 = some ⟨oc6, od6, .func (PySem.W.fnOf "_law_start" "_law_start" (defArgs s_start) (defBody s_start) (defScope s_start) .none kV6 dc6 pm6 an6 cd6 ct6), sl6⟩)
    (c6 : PySem.W.codeIn K cd6 "_law_start" = true)
    (k6 : PySem.W.keepIn K (.ref f6) = true)
    (a7 : PySem.W.nsIn K mainGlobals "_law_wrong" = some (some (.ref f7)))
    (l7 : K.lookup f7 = some ⟨oc7, od7, .func (PySem.W.fnOf "_law_wrong" "_law_wrong" (defArgs s_wrong) (defBody s_wrong) (defScope s_wrong) .none kV7 dc7 pm7 an7 cd7 ct7), sl7⟩)
    (c7 : PySem.W.codeIn K cd7 "_law_wrong" = true)
    (k7 : PySem.W.keepIn K (.ref f7) = true)
    (a8 : PySem.W.nsIn K mainGlobals "_law_kind" = some (some (.ref f8)))
    (l8 : K.lookup f8 = some ⟨oc8, od8, .func (PySem.W.fnOf "_law_kind" "_law_kind" (defArgs s_kind) (defBody s_kind) (defScope s_kind) .none kV8 dc8 pm8 an8 cd8 ct8), sl8⟩)
    (c8 : PySem.W.codeIn K cd8 "_law_kind" = true)
    (k8 : PySem.W.keepIn K (.ref f8) = true)
    (a9 : PySem.W.nsIn K mainGlobals "is_whole" = some (some (.ref f9)))
    (l9 : K.lookup f9 = some ⟨oc9, od9, .func (PySem.W.fnOf "is_whole" "is_whole" (defArgs s_is_whole) (defBody s_is_whole) (defScope s_is_whole) .none kV9 dc9 pm9 an9 cd9 ct9), sl9⟩)
    (c9 : PySem.W.codeIn K cd9 "is_whole" = true)
    (k9 : PySem.W.keepIn K (.ref f9) = true)
    (a10 : PySem.W.nsIn K mainGlobals "is_number" = some (some (.ref f10)))
    (l10 : K.lookup f10 = some ⟨oc10, od10, .func (PySem.W.fnOf "is_number" "is_number" (defArgs s_is_number) (defBody s_is_number) (defScope s_is_number) .none kV10 dc10 pm10 an10 cd10 ct10), sl10⟩)
    (c10 : PySem.W.codeIn K cd10 "is_number" = true)
    (k10 : PySem.W.keepIn K (.ref f10) = true)
    (a11 : PySem.W.nsIn K mainGlobals "check_number" = some (some (.ref f11)))
    (l11 : K.lookup f11 = some ⟨oc11, od11, .func (PySem.W.fnOf "check_number" "check_number" (defArgs s_check_number) (defBody s_check_number) (defScope s_check_number) .none kV11 dc11 pm11 an11 cd11 ct11), sl11⟩)
    (c11 : PySem.W.codeIn K cd11 "check_number" = true)
    (k11 : PySem.W.keepIn K (.ref f11) = true)
    (a12 : PySem.W.nsIn K mainGlobals "next_of" = some (some (.ref f12)))
    (l12 : K.lookup f12 = some ⟨oc12, od12, .func (PySem.W.fnOf "next_of" "next_of" (defArgs s_next_of) (defBody s_next_of) (defScope s_next_of) .none kV12 dc12 pm12 an12 cd12 ct12), sl12⟩)
    (c12 : PySem.W.codeIn K cd12 "next_of" = true)
    (k12 : PySem.W.keepIn K (.ref f12) = true)
    (a13 : PySem.W.nsIn K mainGlobals "common_divisor" = some (some (.ref f13)))
    (l13 : K.lookup f13 = some ⟨oc13, od13, .func (PySem.W.fnOf "common_divisor" "common_divisor" (defArgs s_common_divisor) (defBody s_common_divisor) (defScope s_common_divisor) .none kV13 dc13 pm13 an13 cd13 ct13), sl13⟩)
    (c13 : PySem.W.codeIn K cd13 "common_divisor" = true)
    (k13 : PySem.W.keepIn K (.ref f13) = true)
    (a14 : PySem.W.nsIn K mainGlobals "inverse" = some (some (.ref f14)))
    (l14 : K.lookup f14 = some ⟨oc14, od14, .func (PySem.W.fnOf "inverse" "inverse" (defArgs s_inverse) (defBody s_inverse) (defScope s_inverse) .none kV14 dc14 pm14 an14 cd14 ct14), sl14⟩)
    (c14 : PySem.W.codeIn K cd14 "inverse" = true)
    (k14 : PySem.W.keepIn K (.ref f14) = true)
    (a15 : PySem.W.nsIn K mainGlobals "chained" = some (some (.ref f15)))
    (l15 : K.lookup f15 = some ⟨oc15, od15, .func (PySem.W.fnOf "chained" "chained" (defArgs s_chained) (defBody s_chained) (defScope s_chained) .none kV15 dc15 pm15 an15 cd15 ct15), sl15⟩)
    (c15 : PySem.W.codeIn K cd15 "chained" = true)
    (k15 : PySem.W.keepIn K (.ref f15) = true)
    (a16 : PySem.W.nsIn K mainGlobals "rule_of_steps" = some (some (.ref f16)))
    (l16 : K.lookup f16 = some ⟨oc16, od16, .func (PySem.W.fnOf "rule_of_steps" "rule_of_steps" (defArgs s_rule_of_steps) (defBody s_rule_of_steps) (defScope s_rule_of_steps) .none kV16 dc16 pm16 an16 cd16 ct16), sl16⟩)
    (c16 : PySem.W.codeIn K cd16 "rule_of_steps" = true)
    (k16 : PySem.W.keepIn K (.ref f16) = true)
    (a17 : PySem.W.nsIn K mainGlobals "rule_back" = some (some (.ref f17)))
    (l17 : K.lookup f17 = some ⟨oc17, od17, .func (PySem.W.fnOf "rule_back" "rule_back" (defArgs s_rule_back) (defBody s_rule_back) (defScope s_rule_back) .none kV17 dc17 pm17 an17 cd17 ct17), sl17⟩)
    (c17 : PySem.W.codeIn K cd17 "rule_back" = true)
    (k17 : PySem.W.keepIn K (.ref f17) = true)
    (a18 : PySem.W.nsIn K mainGlobals "jumped" = some (some (.ref f18)))
    (l18 : K.lookup f18 = some ⟨oc18, od18, .func (PySem.W.fnOf "jumped" "jumped" (defArgs s_jumped) (defBody s_jumped) (defScope s_jumped) .none kV18 dc18 pm18 an18 cd18 ct18), sl18⟩)
    (c18 : PySem.W.codeIn K cd18 "jumped" = true)
    (k18 : PySem.W.keepIn K (.ref f18) = true)
    (a19 : PySem.W.nsIn K mainGlobals "_law_divisor" = some (some (.ref f19)))
    (l19 : K.lookup f19 = some ⟨oc19, od19, .func (PySem.W.fnOf "_law_divisor" "_law_divisor" (defArgs s_divisor) (defBody s_divisor) (defScope s_divisor) .none kV19 dc19 pm19 an19 cd19 ct19), sl19⟩)
    (c19 : PySem.W.codeIn K cd19 "_law_divisor" = true)
    (k19 : PySem.W.keepIn K (.ref f19) = true)
    (a20 : PySem.W.nsIn K mainGlobals "_law_power" = some (some (.ref f20)))
    (l20 : K.lookup f20 = some ⟨oc20, od20, .func (PySem.W.fnOf "_law_power" "_law_power" (defArgs s_power) (defBody s_power) (defScope s_power) .none kV20 dc20 pm20 an20 cd20 ct20), sl20⟩)
    (c20 : PySem.W.codeIn K cd20 "_law_power" = true)
    (k20 : PySem.W.keepIn K (.ref f20) = true)
    (a21 : PySem.W.nsIn K mainGlobals "_law_shares" = some (some (.ref f21)))
    (l21 : K.lookup f21 = some ⟨oc21, od21, .func (PySem.W.fnOf "_law_shares" "_law_shares" (defArgs s_shares) (defBody s_shares) (defScope s_shares) .none kV21 dc21 pm21 an21 cd21 ct21), sl21⟩)
    (c21 : PySem.W.codeIn K cd21 "_law_shares" = true)
    (k21 : PySem.W.keepIn K (.ref f21) = true)
    (a22 : PySem.W.nsIn K mainGlobals "_law_ahead" = some (some (.ref f22)))
    (l22 : K.lookup f22 = some ⟨oc22, od22, .func (PySem.W.fnOf "_law_ahead" "_law_ahead" (defArgs s_ahead) (defBody s_ahead) (defScope s_ahead) .none kV22 dc22 pm22 an22 cd22 ct22), sl22⟩)
    (c22 : PySem.W.codeIn K cd22 "_law_ahead" = true)
    (k22 : PySem.W.keepIn K (.ref f22) = true)
    (a23 : PySem.W.nsIn K mainGlobals "_law_steps" = some (some (.ref f23)))
    (l23 : K.lookup f23 = some ⟨oc23, od23, .func (PySem.W.fnOf "_law_steps" "_law_steps" (defArgs s_steps) (defBody s_steps) (defScope s_steps) .none kV23 dc23 pm23 an23 cd23 ct23), sl23⟩)
    (c23 : PySem.W.codeIn K cd23 "_law_steps" = true)
    (k23 : PySem.W.keepIn K (.ref f23) = true)
    (a24 : PySem.W.nsIn K mainGlobals "_law_told" = some (some (.ref f24)))
    (l24 : K.lookup f24 = some ⟨oc24, od24, .func (PySem.W.fnOf "_law_told" "_law_told" (defArgs s_told) (defBody s_told) (defScope s_told) .none kV24 dc24 pm24 an24 cd24 ct24), sl24⟩)
    (c24 : PySem.W.codeIn K cd24 "_law_told" = true)
    (k24 : PySem.W.keepIn K (.ref f24) = true)
    (a25 : PySem.W.nsIn K mainGlobals "_law_right" = some (some (.ref f25)))
    (l25 : K.lookup f25 = some ⟨oc25, od25, .func (PySem.W.fnOf "_law_right" "_law_right" (defArgs s_right) (defBody s_right) (defScope s_right) .none kV25 dc25 pm25 an25 cd25 ct25), sl25⟩)
    (c25 : PySem.W.codeIn K cd25 "_law_right" = true)
    (k25 : PySem.W.keepIn K (.ref f25) = true)
    (a26 : PySem.W.nsIn K mainGlobals "law" = some (some (.ref f26)))
    (l26 : K.lookup f26 = some ⟨oc26, od26, .func (PySem.W.fnOf "law" "law" (defArgs s_law) (defBody s_law) (defScope s_law) .none kV26 dc26 pm26 an26 cd26 ct26), sl26⟩)
    (c26 : PySem.W.codeIn K cd26 "law" = true)
    (k26 : PySem.W.keepIn K (.ref f26) = true)
    (y_sum : PySem.W.nsIn K mainGlobals "sum" = some none)
    (y_len : PySem.W.nsIn K mainGlobals "len" = some none)
    (y_range : PySem.W.nsIn K mainGlobals "range" = some none)
    (y_isinstance : PySem.W.nsIn K mainGlobals "isinstance" = some none)
    (y_ValueError : PySem.W.nsIn K mainGlobals "ValueError" = some none)
    (y_int : PySem.W.nsIn K mainGlobals "int" = some none)
    (y_bool : PySem.W.nsIn K mainGlobals "bool" = some none)
    (y_list : PySem.W.nsIn K mainGlobals "list" = some none)
    (xCNhc : PySem.W.isClsIn K CN = true)
    (xCNhg : PySem.W.findIn K (.ref CN) "__getattribute__" = some (some (.builtin "BaseException.__getattribute__")))
    (xCNhk : PySem.W.findIn K (.ref CN) "__getattr__" = some none)
    (xCNhs : PySem.W.subIn K (.ref CN) (.type "BaseException") = some true)
    (xCNhd : PySem.W.hasDictIn K CN = true)
    (xCNha : PySem.W.findIn K (.ref CN) "__class__" = some (some (.builtin "object.__class__")))
    (xCNhm : PySem.W.mroIn K CN (.type "object") = some true)
    (gn : PySem.W.specialIn K (.builtin "object.__class__") "__get__" = some (some (.builtin "getset_descriptor.__get__")))
    (gt : PySem.W.takesIn K (.builtin "object.__class__") = some true)
    (xCNkr : PySem.W.kitOne K (.ref CN) (.ref CR) = some true)
    (xCNkv : PySem.W.kitOne K (.ref CN) (.type "ValueError") = some true)
    (xCNkCA : PySem.W.kitOne K (.ref CN) (.ref CA) = some false)
    (xCNkCB : PySem.W.kitOne K (.ref CN) (.ref CB) = some false)
    (xCNkCF : PySem.W.kitOne K (.ref CN) (.ref CF) = some false)
    (xCNkCN : PySem.W.kitOne K (.ref CN) (.ref CN) = some true)
    (xCNkCU : PySem.W.kitOne K (.ref CN) (.ref CU) = some false)
    (xCNxm : PySem.W.exmOne K (.ref CN) (.ref CR) = some true)
    (xL : K.lookup CN = some (excClassObj nm qn CN Nn bs [.ref CR, .type "ValueError", .type "Exception", .type "BaseException", .type "object"] true sn sub ab col dd m0 m1 m2 m3 m5 "ValueError.__new__"))
    (sa : PySem.W.findIn K (.ref CN) "__setattr__" = some (some (.builtin "object.__setattr__")))
    (tyC : PySem.W.typeIn K (.ref CN) = some (.type "type"))
    (kC : PySem.W.keepIn K (.ref CN) = true)
    (nf : PySem.W.findIn K (.ref CN) "number" = some none)
    (iI : PySem.W.findIn K (.ref CN) "__init__" = some (some (.ref fI)))
    (tI : PySem.W.typeIn K (.ref fI) = some (.type "function"))
    (lI : K.lookup fI = some ⟨ocI, odI, .func (PySem.W.fnOf "__init__" "NoNumber.__init__" (defArgs s_init) (defBody s_init) (defScope s_init) .none kVI dcI pmI anI cdI ctI), slI⟩)
    (cI : PySem.W.codeIn K cdI "NoNumber.__init__" = true)
    (kI : PySem.W.keepIn K (.ref fI) = true)
    (rd : PySem.W.readsIn K CR (.type "type") = true)
    (rg : PySem.W.specialIn K (.ref CR) "__getattribute__" = some (some (.builtin "type.__getattribute__")))
    (ri : PySem.W.findCls K (.ref CR) (.type "type") "__init__" = some (.val (.builtin "ValueError.__init__")))
    (xCBhc : PySem.W.isClsIn K CB = true)
    (xCBhg : PySem.W.findIn K (.ref CB) "__getattribute__" = some (some (.builtin "BaseException.__getattribute__")))
    (xCBhk : PySem.W.findIn K (.ref CB) "__getattr__" = some none)
    (xCBhs : PySem.W.subIn K (.ref CB) (.type "BaseException") = some true)
    (xCBhd : PySem.W.hasDictIn K CB = true)
    (xCBha : PySem.W.findIn K (.ref CB) "__class__" = some (some (.builtin "object.__class__")))
    (xCBhm : PySem.W.mroIn K CB (.type "object") = some true)
    (xCBkr : PySem.W.kitOne K (.ref CB) (.ref CR) = some true)
    (xCBkv : PySem.W.kitOne K (.ref CB) (.type "ValueError") = some true)
    (xCBkCA : PySem.W.kitOne K (.ref CB) (.ref CA) = some false)
    (xCBkCB : PySem.W.kitOne K (.ref CB) (.ref CB) = some true)
    (xCBkCF : PySem.W.kitOne K (.ref CB) (.ref CF) = some false)
    (xCBkCN : PySem.W.kitOne K (.ref CB) (.ref CN) = some false)
    (xCBkCU : PySem.W.kitOne K (.ref CB) (.ref CU) = some false)
    (xCBxm : PySem.W.exmOne K (.ref CB) (.ref CR) = some true)
    (wCBx : PySem.W.excIn K CB [.type "ValueError", .type "Exception", .type "BaseException", .type "object"] "ValueError.__new__" = true)
    (wCBk : PySem.W.keepIn K (.ref CB) = true)
    (wCBy : PySem.W.typeIn K (.ref CB) = some (.type "type")) :
    ∃ fd : FuncData, (∀ (s : Shared) (v : Value), BindsTo s fd ⟨[v], []⟩ [("script", v)]) ∧ ∀ base : Heap, K.In base → base.Ns mainGlobals mg → FnOk l.prog w K mg base CX0 8 fa fd ["script"] (spLaw K) := by
  have e := hfa.symm.trans (PySem.W.mg_of X G a26)
  cases e
  have T_mix : Top K mg "_law_mix" s_mix ["cell", "k"] := top_mk X G a0 l0 c0 k0 fun _ _ _ _ _ _ us hl => match us, hl with | [_, _], _ => rfl
  have T_deck : Top K mg "_law_deck" s_deck ["script"] := top_mk X G a1 l1 c1 k1 fun _ _ _ _ _ _ us hl => match us, hl with | [_], _ => rfl
  have T_next : Top K mg "_law_next" s_next ["deck", "many"] := top_mk X G a2 l2 c2 k2 fun _ _ _ _ _ _ us hl => match us, hl with | [_, _], _ => rfl
  have T_great : Top K mg "_law_great" s_great ["deck", "most"] := top_mk X G a3 l3 c3 k3 fun _ _ _ _ _ _ us hl => match us, hl with | [_, _], _ => rfl
  have T_bound : Top K mg "_law_bound" s_bound ["deck", "most"] := top_mk X G a4 l4 c4 k4 fun _ _ _ _ _ _ us hl => match us, hl with | [_, _], _ => rfl
  have T_rule : Top K mg "_law_rule" s_rule ["deck", "most"] := top_mk X G a5 l5 c5 k5 fun _ _ _ _ _ _ us hl => match us, hl with | [_, _], _ => rfl
  have T_start : Top K mg "_law_start" s_start ["deck", "bound"] := top_mk X G a6 l6 c6 k6 fun _ _ _ _ _ _ us hl => match us, hl with | [_, _], _ => rfl
  have T_wrong : Top K mg "_law_wrong" s_wrong ["deck", "bound"] := top_mk X G a7 l7 c7 k7 fun _ _ _ _ _ _ us hl => match us, hl with | [_, _], _ => rfl
  have T_kind : Top K mg "_law_kind" s_kind ["caught"] := top_mk X G a8 l8 c8 k8 fun _ _ _ _ _ _ us hl => match us, hl with | [_], _ => rfl
  have T_is_whole : Top K mg "is_whole" s_is_whole ["thing"] := top_mk X G a9 l9 c9 k9 fun _ _ _ _ _ _ us hl => match us, hl with | [_], _ => rfl
  have T_is_number : Top K mg "is_number" s_is_number ["thing", "bound"] := top_mk X G a10 l10 c10 k10 fun _ _ _ _ _ _ us hl => match us, hl with | [_, _], _ => rfl
  have T_check_number : Top K mg "check_number" s_check_number ["number", "bound"] := top_mk X G a11 l11 c11 k11 fun _ _ _ _ _ _ us hl => match us, hl with | [_, _], _ => rfl
  have T_next_of : Top K mg "next_of" s_next_of ["rule", "number"] := top_mk X G a12 l12 c12 k12 fun _ _ _ _ _ _ us hl => match us, hl with | [_, _], _ => rfl
  have T_common_divisor : Top K mg "common_divisor" s_common_divisor ["one", "other"] := top_mk X G a13 l13 c13 k13 fun _ _ _ _ _ _ us hl => match us, hl with | [_, _], _ => rfl
  have T_inverse : Top K mg "inverse" s_inverse ["number", "bound"] := top_mk X G a14 l14 c14 k14 fun _ _ _ _ _ _ us hl => match us, hl with | [_, _], _ => rfl
  have T_chained : Top K mg "chained" s_chained ["first", "second"] := top_mk X G a15 l15 c15 k15 fun _ _ _ _ _ _ us hl => match us, hl with | [_, _], _ => rfl
  have T_rule_of_steps : Top K mg "rule_of_steps" s_rule_of_steps ["rule", "steps"] := top_mk X G a16 l16 c16 k16 fun _ _ _ _ _ _ us hl => match us, hl with | [_, _], _ => rfl
  have T_rule_back : Top K mg "rule_back" s_rule_back ["rule"] := top_mk X G a17 l17 c17 k17 fun _ _ _ _ _ _ us hl => match us, hl with | [_], _ => rfl
  have T_jumped : Top K mg "jumped" s_jumped ["rule", "start", "steps"] := top_mk X G a18 l18 c18 k18 fun _ _ _ _ _ _ us hl => match us, hl with | [_, _, _], _ => rfl
  have T_divisor : Top K mg "_law_divisor" s_divisor ["one", "other"] := top_mk X G a19 l19 c19 k19 fun _ _ _ _ _ _ us hl => match us, hl with | [_, _], _ => rfl
  have T_power : Top K mg "_law_power" s_power ["number", "often", "bound"] := top_mk X G a20 l20 c20 k20 fun _ _ _ _ _ _ us hl => match us, hl with | [_, _, _], _ => rfl
  have T_shares : Top K mg "_law_shares" s_shares ["rule", "steps"] := top_mk X G a21 l21 c21 k21 fun _ _ _ _ _ _ us hl => match us, hl with | [_, _], _ => rfl
  have T_ahead : Top K mg "_law_ahead" s_ahead ["rule", "start", "steps"] := top_mk X G a22 l22 c22 k22 fun _ _ _ _ _ _ us hl => match us, hl with | [_, _, _], _ => rfl
  have T_steps : Top K mg "_law_steps" s_steps ["deck"] := top_mk X G a23 l23 c23 k23 fun _ _ _ _ _ _ us hl => match us, hl with | [_], _ => rfl
  have T_told : Top K mg "_law_told" s_told ["rule", "start", "steps"] := top_mk X G a24 l24 c24 k24 fun _ _ _ _ _ _ us hl => match us, hl with | [_, _, _], _ => rfl
  have T_right : Top K mg "_law_right" s_right ["rule", "start", "steps"] := top_mk X G a25 l25 c25 k25 fun _ _ _ _ _ _ us hl => match us, hl with | [_, _, _], _ => rfl
  have T_law : Top K mg "law" s_law ["script"] := top_mk X G a26 l26 c26 k26 fun _ _ _ _ _ _ us hl => match us, hl with | [_], _ => rfl
  have z_sum := PySem.W.mg_none_of X G y_sum
  have z_len := PySem.W.mg_none_of X G y_len
  have z_range := PySem.W.mg_none_of X G y_range
  have z_isinstance := PySem.W.mg_none_of X G y_isinstance
  have z_ValueError := PySem.W.mg_none_of X G y_ValueError
  have z_int := PySem.W.mg_none_of X G y_int
  have z_bool := PySem.W.mg_none_of X G y_bool
  have z_list := PySem.W.mg_none_of X G y_list
  have G_CR := PySem.W.mg_of X G aCR
  have G_CA := PySem.W.mg_of X G aCA
  have G_CB := PySem.W.mg_of X G aCB
  have G_CF := PySem.W.mg_of X G aCF
  have G_CN := PySem.W.mg_of X G aCN
  have G_CU := PySem.W.mg_of X G aCU
  have EE : Err K mg CR CA CB CF CN CU := ⟨PySem.W.mg_of X G aCR, PySem.W.mg_of X G aCA, PySem.W.mg_of X G aCB, PySem.W.mg_of X G aCF, PySem.W.mg_of X G aCN, PySem.W.mg_of X G aCU⟩
  have K_CN : Kit K CN CR CA CB CF CN CU false false false true false := ⟨⟨xCNhc, xCNhg, xCNhk, xCNhs, xCNhd, xCNha, gn, gt, xCNhm⟩, xCNkr, xCNkv, xCNkCA, xCNkCB, xCNkCF, xCNkCN, xCNkCU⟩
  have ox : OexC K CN := ⟨⟨nm, qn, Nn, bs, _, sn, sub, ab, col, dd, m0, m1, m2, m3, m5, xL, rfl⟩, sa, xCNhs, tyC, kC⟩
  have FI := fun_mk (x := "__init__") (qual := "NoNumber.__init__") (st := s_init) lI cI kI
  have bI := FI.binds (ps := ["self", "number"]) fun _ _ _ _ _ _ us hl => match us, hl with | [_, _], _ => rfl
  have RI : ClX.CRead K CR (.type "type") := ⟨rd, rg⟩
  have K_CB : Kit K CB CR CA CB CF CN CU false true false false false := ⟨⟨xCBhc, xCBhg, xCBhk, xCBhs, xCBhd, xCBha, gn, gt, xCBhm⟩, xCBkr, xCBkv, xCBkCA, xCBkCB, xCBkCF, xCBkCN, xCBkCU⟩
  refine ⟨PySem.W.fnOf "law" "law" (defArgs s_law) (defBody s_law) (defScope s_law) .none kV26 dc26 pm26 an26 cd26 ct26, fun s v => .of_eq rfl, fun base _ _ => ?_⟩
  have FL := fun_mk (st := s_law) l26 c26 k26

  have o_mix := ok_mix (P := l.prog) (w := w) (base := base) T_mix
  have o_next := ok_next T_next o_mix z_len
  have o_great := ok_great T_great o_next
  have o_bound := ok_bound T_bound o_next o_great z_len z_range
  have o_rule := ok_rule T_rule o_next o_great o_bound
  have o_kind := ok_kindNB (P := l.prog) (w := w) (base := base) T_kind EE K_CN K_CB nf z_isinstance z_ValueError
  have o_whole := ok_is_whole (P := l.prog) (w := w) (base := base) T_is_whole z_isinstance z_int z_bool
  have o_check := ok_check_number T_check_number (ok_is_number T_is_number o_whole) ox iI tI (ok_init FI EE.gR RI ri) bI EE.gN nf
  have o_nextof := ok_next_of T_next_of o_check
  have o_ros := ok_rule_of_steps T_rule_of_steps (ok_chained (P := l.prog) (w := w) (base := base) T_chained)
  have o_rb := ok_rule_back T_rule_back (ok_common_divisor (P := l.prog) (w := w) (base := base) T_common_divisor) (ok_inverse T_inverse) wCBx EE.gB wCBk xCBhs wCBy
  have o_jump := ok_jumped T_jumped o_check o_nextof o_ros o_rb
  have o_told := ok_told T_told o_jump o_kind EE.gR xCNxm xCBxm
  have o_sh := ok_shares T_shares (ok_power (P := l.prog) (w := w) (base := base) T_power) z_int
  have o_right := ok_right T_right o_told (ok_divisor T_divisor) (ok_ahead T_ahead o_sh) z_isinstance z_list z_int z_bool
  exact ok_law FL (ok_deck T_deck z_sum) o_rule (ok_start T_start o_next o_great) (ok_wrong T_wrong o_next o_great) (ok_steps T_steps o_next) o_told o_right o_jump z_range
end Tw
open PySem PySem.W PyProof.Rows
set_option maxHeartbeats 0 in
theorem PySem.Challenge.cw_timesrow_k03_jumps_holds : PySem.Challenge.rw_timesrow_k03_jumps.Holds := by
  w_on; o_law; k_head; (case hw => w_witness2)
  k_fill
  refine L2.walk_of (l := PySem.Challenge.rw_timesrow_k03_jumps) (n := 63) (k := 8) (x := "script") (CX := fun _ => L2.CX0) (sp := fun w => Tw.spLaw _) rfl (by decide) rfl ⟨rfl, by decide, by decide⟩ (fun w h Y => PySem.W.kIn_of Y) ?F (fun _ _ a ns hl _ hS => ⟨_, rfl, a, ns, rfl, hS, fun _ => rfl⟩) (fun _ _ _ _ _ h => h)
  case F =>
    intro w mg fa h KX G hmg
    refine' Tw.all_mk KX G hmg ?aCR ?aCA ?aCB ?aCF ?aCN ?aCU ?a0 ?l0 ?c0 ?k0 ?a1 ?l1 ?c1 ?k1 ?a2 ?l2 ?c2 ?k2 ?a3 ?l3 ?c3 ?k3 ?a4 ?l4 ?c4 ?k4 ?a5 ?l5 ?c5 ?k5 ?a6 ?l6 ?c6 ?k6 ?a7 ?l7 ?c7 ?k7 ?a8 ?l8 ?c8 ?k8 ?a9 ?l9 ?c9 ?k9 ?a10 ?l10 ?c10 ?k10 ?a11 ?l11 ?c11 ?k11 ?a12 ?l12 ?c12 ?k12 ?a13 ?l13 ?c13 ?k13 ?a14 ?l14 ?c14 ?k14 ?a15 ?l15 ?c15 ?k15 ?a16 ?l16 ?c16 ?k16 ?a17 ?l17 ?c17 ?k17 ?a18 ?l18 ?c18 ?k18 ?a19 ?l19 ?c19 ?k19 ?a20 ?l20 ?c20 ?k20 ?a21 ?l21 ?c21 ?k21 ?a22 ?l22 ?c22 ?k22 ?a23 ?l23 ?c23 ?k23 ?a24 ?l24 ?c24 ?k24 ?a25 ?l25 ?c25 ?k25 ?a26 ?l26 ?c26 ?k26 ?y_sum ?y_len ?y_range ?y_isinstance ?y_ValueError ?y_int ?y_bool ?y_list ?xCNhc ?xCNhg ?xCNhk ?xCNhs ?xCNhd ?xCNha ?xCNhm ?gn ?gt ?xCNkr ?xCNkv ?xCNkCA ?xCNkCB ?xCNkCF ?xCNkCN ?xCNkCU ?xCNxm ?xL ?sa ?tyC ?kC ?nf ?iI ?tI ?lI ?cI ?kI ?rd ?rg ?ri ?xCBhc ?xCBhg ?xCBhk ?xCBhs ?xCBhd ?xCBha ?xCBhm ?xCBkr ?xCBkv ?xCBkCA ?xCBkCB ?xCBkCF ?xCBkCN ?xCBkCU ?xCBxm ?wCBx ?wCBk ?wCBy
    (case aCR => first | k_is | rfl | k_exc)
    (case aCA => first | k_is | rfl | k_exc)
    (case aCB => first | k_is | rfl | k_exc)
    (case aCF => first | k_is | rfl | k_exc)
    (case aCN => first | k_is | rfl | k_exc)
    (case aCU => first | k_is | rfl | k_exc)
    (case a0 => first | k_is | rfl | k_exc)
    (case l0 => first | k_is | rfl | k_exc)
    (case c0 => first | k_is | rfl | k_exc)
    (case k0 => first | k_is | rfl | k_exc)
    (case a1 => first | k_is | rfl | k_exc)
    (case l1 => first | k_is | rfl | k_exc)
    (case c1 => first | k_is | rfl | k_exc)
    (case k1 => first | k_is | rfl | k_exc)
    (case a2 => first | k_is | rfl | k_exc)
    (case l2 => first | k_is | rfl | k_exc)
    (case c2 => first | k_is | rfl | k_exc)
    (case k2 => first | k_is | rfl | k_exc)
    (case a3 => first | k_is | rfl | k_exc)
    (case l3 => first | k_is | rfl | k_exc)
    (case c3 => first | k_is | rfl | k_exc)
    (case k3 => first | k_is | rfl | k_exc)
    (case a4 => first | k_is | rfl | k_exc)
    (case l4 => first | k_is | rfl | k_exc)
    (case c4 => first | k_is | rfl | k_exc)
    (case k4 => first | k_is | rfl | k_exc)
    (case a5 => first | k_is | rfl | k_exc)
    (case l5 => first | k_is | rfl | k_exc)
    (case c5 => first | k_is | rfl | k_exc)
    (case k5 => first | k_is | rfl | k_exc)
    (case a6 => first | k_is | rfl | k_exc)
    (case l6 => first | k_is | rfl | k_exc)
    (case c6 => first | k_is | rfl | k_exc)
    (case k6 => first | k_is | rfl | k_exc)
    (case a7 => first | k_is | rfl | k_exc)
    (case l7 => first | k_is | rfl | k_exc)
    (case c7 => first | k_is | rfl | k_exc)
    (case k7 => first | k_is | rfl | k_exc)
    (case a8 => first | k_is | rfl | k_exc)
    (case l8 => first | k_is | rfl | k_exc)
    (case c8 => first | k_is | rfl | k_exc)
    (case k8 => first | k_is | rfl | k_exc)
    (case a9 => first | k_is | rfl | k_exc)
    (case l9 => first | k_is | rfl | k_exc)
    (case c9 => first | k_is | rfl | k_exc)
    (case k9 => first | k_is | rfl | k_exc)
    (case a10 => first | k_is | rfl | k_exc)
    (case l10 => first | k_is | rfl | k_exc)
    (case c10 => first | k_is | rfl | k_exc)
    (case k10 => first | k_is | rfl | k_exc)
    (case a11 => first | k_is | rfl | k_exc)
    (case l11 => first | k_is | rfl | k_exc)
    (case c11 => first | k_is | rfl | k_exc)
    (case k11 => first | k_is | rfl | k_exc)
    (case a12 => first | k_is | rfl | k_exc)
    (case l12 => first | k_is | rfl | k_exc)
    (case c12 => first | k_is | rfl | k_exc)
    (case k12 => first | k_is | rfl | k_exc)
    (case a13 => first | k_is | rfl | k_exc)
    (case l13 => first | k_is | rfl | k_exc)
    (case c13 => first | k_is | rfl | k_exc)
    (case k13 => first | k_is | rfl | k_exc)
    (case a14 => first | k_is | rfl | k_exc)
    (case l14 => first | k_is | rfl | k_exc)
    (case c14 => first | k_is | rfl | k_exc)
    (case k14 => first | k_is | rfl | k_exc)
    (case a15 => first | k_is | rfl | k_exc)
    (case l15 => first | k_is | rfl | k_exc)
    (case c15 => first | k_is | rfl | k_exc)
    (case k15 => first | k_is | rfl | k_exc)
    (case a16 => first | k_is | rfl | k_exc)
    (case l16 => first | k_is | rfl | k_exc)
    (case c16 => first | k_is | rfl | k_exc)
    (case k16 => first | k_is | rfl | k_exc)
    (case a17 => first | k_is | rfl | k_exc)
    (case l17 => first | k_is | rfl | k_exc)
    (case c17 => first | k_is | rfl | k_exc)
    (case k17 => first | k_is | rfl | k_exc)
    (case a18 => first | k_is | rfl | k_exc)
    (case l18 => first | k_is | rfl | k_exc)
    (case c18 => first | k_is | rfl | k_exc)
    (case k18 => first | k_is | rfl | k_exc)
    (case a19 => first | k_is | rfl | k_exc)
    (case l19 => first | k_is | rfl | k_exc)
    (case c19 => first | k_is | rfl | k_exc)
    (case k19 => first | k_is | rfl | k_exc)
    (case a20 => first | k_is | rfl | k_exc)
    (case l20 => first | k_is | rfl | k_exc)
    (case c20 => first | k_is | rfl | k_exc)
    (case k20 => first | k_is | rfl | k_exc)
    (case a21 => first | k_is | rfl | k_exc)
    (case l21 => first | k_is | rfl | k_exc)
    (case c21 => first | k_is | rfl | k_exc)
    (case k21 => first | k_is | rfl | k_exc)
    (case a22 => first | k_is | rfl | k_exc)
    (case l22 => first | k_is | rfl | k_exc)
    (case c22 => first | k_is | rfl | k_exc)
    (case k22 => first | k_is | rfl | k_exc)
    (case a23 => first | k_is | rfl | k_exc)
    (case l23 => first | k_is | rfl | k_exc)
    (case c23 => first | k_is | rfl | k_exc)
    (case k23 => first | k_is | rfl | k_exc)
    (case a24 => first | k_is | rfl | k_exc)
    (case l24 => first | k_is | rfl | k_exc)
    (case c24 => first | k_is | rfl | k_exc)
    (case k24 => first | k_is | rfl | k_exc)
    (case a25 => first | k_is | rfl | k_exc)
    (case l25 => first | k_is | rfl | k_exc)
    (case c25 => first | k_is | rfl | k_exc)
    (case k25 => first | k_is | rfl | k_exc)
    (case a26 => first | k_is | rfl | k_exc)
    (case l26 => first | k_is | rfl | k_exc)
    (case c26 => first | k_is | rfl | k_exc)
    (case k26 => first | k_is | rfl | k_exc)
    (case y_sum => first | k_is | rfl | k_exc)
    (case y_len => first | k_is | rfl | k_exc)
    (case y_range => first | k_is | rfl | k_exc)
    (case y_isinstance => first | k_is | rfl | k_exc)
    (case y_ValueError => first | k_is | rfl | k_exc)
    (case y_int => first | k_is | rfl | k_exc)
    (case y_bool => first | k_is | rfl | k_exc)
    (case y_list => first | k_is | rfl | k_exc)
    (case xCNhc => first | k_is | rfl | k_exc)
    (case xCNhg => first | k_is | rfl | k_exc)
    (case xCNhk => first | k_is | rfl | k_exc)
    (case xCNhs => first | k_is | rfl | k_exc)
    (case xCNhd => first | k_is | rfl | k_exc)
    (case xCNha => first | k_is | rfl | k_exc)
    (case xCNhm => first | k_is | rfl | k_exc)
    (case gn => first | k_is | rfl | k_exc)
    (case gt => first | k_is | rfl | k_exc)
    (case xCNkr => first | k_is | rfl | k_exc)
    (case xCNkv => first | k_is | rfl | k_exc)
    (case xCNkCA => first | k_is | rfl | k_exc)
    (case xCNkCB => first | k_is | rfl | k_exc)
    (case xCNkCF => first | k_is | rfl | k_exc)
    (case xCNkCN => first | k_is | rfl | k_exc)
    (case xCNkCU => first | k_is | rfl | k_exc)
    (case xCNxm => first | k_is | rfl | k_exc)
    (case xL => first | k_is | rfl | k_exc)
    (case sa => first | k_is | rfl | k_exc)
    (case tyC => first | k_is | rfl | k_exc)
    (case kC => first | k_is | rfl | k_exc)
    (case nf => first | k_is | rfl | k_exc)
    (case iI => first | k_is | rfl | k_exc)
    (case tI => first | k_is | rfl | k_exc)
    (case lI => first | k_is | rfl | k_exc)
    (case cI => first | k_is | rfl | k_exc)
    (case kI => first | k_is | rfl | k_exc)
    (case rd => first | k_is | rfl | k_exc)
    (case rg => first | k_is | rfl | k_exc)
    (case ri => first | k_is | rfl | k_exc)
    (case xCBhc => first | k_is | rfl | k_exc)
    (case xCBhg => first | k_is | rfl | k_exc)
    (case xCBhk => first | k_is | rfl | k_exc)
    (case xCBhs => first | k_is | rfl | k_exc)
    (case xCBhd => first | k_is | rfl | k_exc)
    (case xCBha => first | k_is | rfl | k_exc)
    (case xCBhm => first | k_is | rfl | k_exc)
    (case xCBkr => first | k_is | rfl | k_exc)
    (case xCBkv => first | k_is | rfl | k_exc)
    (case xCBkCA => first | k_is | rfl | k_exc)
    (case xCBkCB => first | k_is | rfl | k_exc)
    (case xCBkCF => first | k_is | rfl | k_exc)
    (case xCBkCN => first | k_is | rfl | k_exc)
    (case xCBkCU => first | k_is | rfl | k_exc)
    (case xCBxm => first | k_is | rfl | k_exc)
    (case wCBx => first | k_is | rfl | k_exc)
    (case wCBk => first | k_is | rfl | k_exc)
    (case wCBy => first | k_is | rfl | k_exc)

