import PyProof.Rows.All
import Wide.All
import OpenK.AllK
import Wide.FinOn
import KE.KCallOwn
import KE.DatumIndex
import HandS.ForMost
import HandS.Exc
import HandS.TryOnly
import HandS.ExcOwn
import HandS.WordsExc
import HandS.More
import HandS.ClsMeth
import HandS.OwnEq
import HandS.IsInst
import HandS.RaiseMore
import HandS.Style
import HandS.Small
import HandS.Deep
import HandS.Defaults
import HandS.MakeKwOnly
import HandS.Walk
import HandS.TupAny
import HandS.SetFor
import HandS.Zip
import HandS.ExcInit
import HandS.ExcIs
import HandS.ExcField
import HandS.ExcValue
import KE.KExcIs
import PySem.Challenge.RW_forkpolls_k01_errors_and_what_they_keep
set_option Elab.async false
set_option linter.all false
set_option maxRecDepth 100000
set_option maxHeartbeats 4000000
/-! Forkpolls: rules that the hand layer has not: a def read off its class, own == and != with any answer, str of an instance, repr of data. -/
namespace Fk
open PySem PySem.Spec PyProof.Rows L2

/-! ### C.m(..), m a def of the class (or of a base) -/
def tOff (C : Addr) (sp : Sp) (E : XK) (ta : TE) (t : TA) : TE := fun σ H Q => ta σ H fun x H1 => x = .ref C ∧ t σ H1 fun vs H2 => sp vs H2 Q E
section
variable {X : Cx} {CX : CXT} {k : Nat} {C f : Addr} {mc : Value} {fd : FuncData} {ps : List Str} {sp : Sp} {E : XK} {o e : Expr} {es : List Expr} {m : Str} {pos apos : Pos} {ta : TE} {t : TA} {pl : Sem Bool}
theorem pe_off (he : PE X o ta) (r : ClX.CRead X.K C mc) (c : ClX.CVal X.K C mc m (.ref f) (.ref f)) (F : FnOk X.prog X.w X.K X.mg X.base CX k f fd ps sp) (hr : Room k X.A) (hk : PySem.W.keepIn X.K (.ref f) = true) (hb : Binds X.K fd ps []) (hx : Passes CX X E) (ha : PA X (e :: es) t)
    (hst : starEach (e :: es) X.env = (false, eval e X.env) :: starEach es X.env := by rfl) (hpl : (backTo pos (starEach es X.env)).any (·.1) = false := by rfl)
    (ht : eval (.Call (.Attribute o m apos) (e :: es) [] pos) X.env = (do
      let u ← eval o X.env
      standAt apos.atName
      let (g, front) ← holding [u] (getMethod u m pl)
      callWith pos g front (backTo pos (starEach (e :: es) X.env)) (backToKw pos (keywordEach [] X.env))) := by rfl) :
    PE X (.Call (.Attribute o m apos) (e :: es) [] pos) (tOff C sp E ta t) := by
  refine ⟨fun pins s σ H Q I q0 => ?_⟩
  refine PySem.W.methodCall_KW (pl := pl) (thn (he.run pins s σ H _ I q0) fun u s1 ⟨x, H1, I1, rx, ex, q⟩ => ?_) ht
  subst ex; cases rx
  refine PySem.W.method_cls I1.kIn r.ga (ClX.getcval_ok I1 r c fun s2 I2 => ?_)
  refine PySem.W.callWith_K (h₀ := X.base) I2.ok.mod.kin hk (thn (ha.run pos pins s2 σ H1 _ I2 q) fun us s3 ⟨vs, H2, I3, rv, q2⟩ => ⟨I3.kIn, ?_⟩) hst hpl
  exact run_fn F hr hb .nil hx I3 rv (by rw [List.append_nil]; exact q2)
end

/-! ### == and != by the text's own __eq__, any answer -/
/-- what the class at C says of comparing and showing its instances: f the own __eq__, g the own __str__ -/
structure EqC (K : PySem.W.Frag) (C f : Addr) : Prop where
  eq : PySem.W.findIn K (.ref C) "__eq__" = some (some (.ref f))
  ne : PySem.W.findIn K (.ref C) "__ne__" = some (some (.builtin "object.__ne__"))
  fn : PySem.W.isFn K (.ref f) = true
  ob : PySem.W.mroIn K C (.type "object") = some true
def rOwn (K : PySem.W.Frag) (C : Addr) (sp : Sp) (E : XK) (g : Bool → Bool) : R2 := fun x y H Q => ∃ (a dx : Addr) (fs : List (Str × V)) (t : Value), x = .ref a ∧ H a = some (.ins C dx fs) ∧ TyX K H y t ∧ PySem.W.notFirst K C t = true ∧
  sp [x, y] H (fun v H' => ∃ b : Bool, v = .bl b ∧ Q (.bl (g b)) H') E
section
variable {X : Cx} {CX : CXT} {k : Nat} {C f : Addr} {fd : FuncData} {ps : List Str} {sp : Sp} {E : XK}
theorem op_own_eq (T : EqC X.K C f) (F : FnOk X.prog X.w X.K X.mg X.base CX k f fd ps sp) (hr : Room k X.A) (hb : Binds X.K fd ps []) (hx : Passes CX X E) : OpR X (compareOp .Eq) (rOwn X.K C sp E fun b => b) := by
  intro pins s σ H x y v u Q I rx ry hq
  obtain ⟨a, dx, fs, t, rfl, ha, ty, hn, q⟩ := hq
  cases rx
  obtain ⟨mA, J, _⟩ := ins_get I.hok ha
  obtain ⟨od, J1, _⟩ := J.look
  obtain ⟨m, fr⟩ := I.fr
  obtain ⟨P, Z, p, _⟩ := kit_of I ry ty
  show wpAny (model X.prog X.w) X.A (richCompare .Eq (.ref a) u) (EP X pins σ Q) X.xe s
  refine PySem.W.cmp_K hr.units0 fr I.ok.mod.kin J1 (Z.ty _ _ I.kIn p) hn T.eq T.fn ?_
  refine thn (run_fn (vs := [.ref a, y]) F hr hb .nil hx I (.cons rfl (.cons ry .nil)) (by rw [List.append_nil]; exact q)) fun w' s' z => ?_
  obtain ⟨v', H', I', rv, b, rfl, q'⟩ := z
  cases rv
  exact ⟨.bl b, H', I', rfl, q'⟩
end
end Fk

namespace PySem.W
open PySem PySem.Spec PyProof.Rows
section
variable {prog : Program} {w : World} {A : Around} {E : Value → Shared → Prop} {s : Shared} {K : Frag} {x C f : Addr} {ox : Obj} {od : Option Obj} {b tb : Value}
theorem fk_slotNe : Slot "object" "__ne__" "object.__ne__" := F.cmp_object.ne
/-- object.__ne__ asks the own __eq__ -/
theorem fk_objNe (hu : A.units < cLine) (X : K.In s.heap) (I : InstAt s.heap x ox C od) (he : findIn K (.ref C) "__eq__" = some (some (.ref f))) (hf : isFn K (.ref f) = true) {Q : Fin → Shared → Prop}
    (h : wpAny (model prog w) A (call (.ref f) [.ref x, b]) (fun v s' => ∃ r, v = .bool r ∧ Q (.done (.ret (.bool (!r)))) s') E s) :
    wpAny (model prog w) A (Builtin.«object.__ne__» ⟨[.ref x, b], []⟩) Q E s := by
  unfold Builtin.«object.__ne__»
  repeat (first
    | with_reducible refine wpAny_cRoomFor hu ?_
    | (refine wpAny_bind (m := callSpecialIfBound? (.ref x) (Str.ofString "__eq__") [b]) (ifBound_K X I he hf (wpAny_mono h (fun v s' z => by
          obtain ⟨r, rfl, q⟩ := z
          repeat (first | exact q | exact wpAny_pure q | exact wpAny_truthy_bool q | (refine wpAny_bind (m := truthy (.bool _)) (wpAny_truthy_bool ?_)) | wp_step)) fun _ _ e => e)))
    | wp_step)
theorem fk_ne (hu : A.units + 1 < cLine) (X : K.In s.heap) (I : InstAt s.heap x ox C od) (hb : Looks (model prog w) s.heap (typeOf b) tb) (hn : notFirst K C tb = true)
    (hs : findIn K (.ref C) "__ne__" = some (some (.builtin "object.__ne__"))) (he : findIn K (.ref C) "__eq__" = some (some (.ref f))) (hf : isFn K (.ref f) = true) (ho : mroIn K C (.type "object") = some true) {Q : Value → Shared → Prop}
    (h : wpAny (model prog w) A.in1 (call (.ref f) [.ref x, b]) (fun v s' => ∃ r, v = .bool r ∧ Q (.bool (!r)) s') E s) :
    wpAny (model prog w) A (richCompare .NotEq (.ref x) b) Q E s := by
  have sub : Looks (model prog w) s.heap (isInstance (.ref x) (.type "object")) true := I.type.andThen (looks_mroIn X ho)
  have hc : wpAny (model prog w) A (call (.builtin "object.__ne__") [.ref x, b]) (fun v s' => ∃ r, v = .bool r ∧ Q v s') E s := by
    refine wpAny_call (codeAny_call_builtin fk_slotNe.plain F.cmpEntry_ne (check_slot F.cmpKind_ne F.cmpSplit_ne sub (F.cmpArgs_ne _ _) ?_))
    refine fk_objNe hu X I he hf (wpAny_mono h (fun v s' z => ?_) fun _ _ e => e)
    obtain ⟨r, rfl, q⟩ := z
    exact ⟨r, rfl, ⟨_, rfl, q⟩⟩
  have one : wpAny (model prog w) A (tryCompare (.ref x) "__ne__" b) (fun r s' => ∃ v, r = some v ∧ Q v s') E s := by
    unfold tryCompare
    refine wpAny_bind ?_
    simp only [callSpecialIfBound?, bindSpecialIfBound?]
    refine wpAny_holding (wpAny_bind (wpAny_bind (wpAny_bind (I.type.here ((looks_findIn X hs).here ?_)))))
    simp only [fk_slotNe.bind]
    refine wpAny_bind (wpAny_askSetting (wpAny_ite ?_))
    split
    · refine wpAny_bind (wpAny_pure (wpAny_pure (wpAny_bind (wpAny_mono hc (fun v s' z => ?_) fun _ _ e => e))))
      obtain ⟨r, rfl, q⟩ := z
      exact wpAny_pure (wpAny_pure ⟨_, rfl, q⟩)
    · refine wpAny_tryCatch (wpAny_bind (wpAny_pure (wpAny_pure (wpAny_bind (wpAny_mono hc (fun v s' z => ?_) fun _ _ e => e)))))
      obtain ⟨r, rfl, q⟩ := z
      exact wpAny_pure (wpAny_pure ⟨_, rfl, q⟩)
  unfold richCompare; simp only [oneThing_ref]; rw [cmpInfo_NotEq]
  refine wpAny_holding (wpAny_bind (wpAny_cRoomFor (Nat.lt_of_succ_lt hu) (wpAny_bind (I.type.here (wpAny_bind (hb.here ?_))))))
  have last : wpAny (model prog w) A (tryCompare (.ref x) "__ne__" b) (fun r s' => ∃ v, r = some v ∧ Q v s') E s := one
  split
  · rename_i q
    have e : subIn K tb (.ref C) = some false := (Bool.or_eq_true_iff.mp hn).elim (fun e => by rw [beq_iff_eq.mp e] at q; simp at q) fun e => beq_iff_eq.mp e
    refine wpAny_bind ((looks_subIn X e).here ?_); simp only [Bool.false_eq_true, if_false]
    refine wpAny_bind (wpAny_mono last (fun r s' z => ?_) fun _ _ e => e); obtain ⟨v, rfl, q'⟩ := z; exact wpAny_pure q'
  · refine wpAny_bind (wpAny_pure ?_); simp only [Bool.false_eq_true, if_false]
    refine wpAny_bind (wpAny_mono last (fun r s' z => ?_) fun _ _ e => e); obtain ⟨v, rfl, q'⟩ := z; exact wpAny_pure q'
end
end PySem.W

namespace Fk
open PySem PySem.Spec PyProof.Rows L2
section
variable {X : Cx} {CX : CXT} {k : Nat} {C f : Addr} {fd : FuncData} {ps : List Str} {sp : Sp} {E : XK}
theorem env0_at {P : Program} {w : World} {K : PySem.W.Frag} {mg : Str → Option Value} {base : Heap} {A B : Around} {outer : List Env} {s : Shared} {H : Hp} (e : Env0 P w K mg base A outer s H) (h : B.frames = A.frames) : Env0 P w K mg base B outer s H :=
  ⟨by rw [h]; exact e.frames, e.mod, e.bs, e.bsz, e.funs, e.frf, e.hok, e.bare⟩
/-- a def's call at an Around below the running one -/
theorem run_at {pins : List (Addr × Obj)} {σ : L2.St} {H : Hp} {s : Shared} {Q : VK} {us : List Value} {vs : List V} {A : Around} (F : FnOk X.prog X.w X.K X.mg X.base CX k f fd ps sp) (hr : Room k A) (hA : A.frames = X.A.frames) (hb : Binds X.K fd ps []) (hx : Passes CX X E)
    (I : Inv X pins σ H s) (r : Vals vs us) (h : sp vs H Q E) : wpAny (model X.prog X.w) A (call (.ref f) us) (EP X pins σ Q) X.xe s := by
  have hl : us.length = ps.length := by rw [← r.length]; exact F.len _ _ _ _ h
  have bb := hb s us I.kIn (by rw [List.append_nil]; exact hl)
  rw [List.append_nil] at bb
  refine wpAny_call (codeAny_mono (F.run A X.stack s H ⟨us, []⟩ us vs Q E hr (env0_at I.env0 hA) bb r h) fun z s' hq => ?_)
  cases z with
  | error e => exact hx pins σ H s e s' I hq
  | ok fl => cases fl <;> first | exact I.after hq | exact False.elim hq
theorem op_own_ne (T : EqC X.K C f) (F : FnOk X.prog X.w X.K X.mg X.base CX k f fd ps sp) (hr : Room (k + 1) X.A) (hb : Binds X.K fd ps []) (hx : Passes CX X E) : OpR X (compareOp .NotEq) (rOwn X.K C sp E fun b => !b) := by
  intro pins s σ H x y v u Q I rx ry hq
  obtain ⟨a, dx, fs, t, rfl, ha, ty, hn, q⟩ := hq
  cases rx
  obtain ⟨mA, J, _⟩ := ins_get I.hok ha
  obtain ⟨od, J1, _⟩ := J.look
  obtain ⟨P, Z, p, _⟩ := kit_of I ry ty
  show wpAny (model X.prog X.w) X.A (richCompare .NotEq (.ref a) u) (EP X pins σ Q) X.xe s
  have hu := hr.units
  refine PySem.W.fk_ne (by omega) I.kIn J1 (Z.ty _ _ I.kIn p) hn T.ne T.eq T.fn T.ob ?_
  refine thn (run_at (vs := [.ref a, y]) F hr.in1 rfl hb hx I (.cons rfl (.cons ry .nil)) q) fun w' s' z => ?_
  obtain ⟨v', H', I', rv, b, rfl, q'⟩ := z
  cases rv
  exact ⟨b, rfl, .bl (!b), H', I', rfl, q'⟩
/-- str(o), o an instance with an own __str__ -/
structure StrC (K : PySem.W.Frag) (C f : Addr) : Prop where
  st : PySem.W.findIn K (.ref C) "__str__" = some (some (.ref f))
  fn : PySem.W.isFn K (.ref f) = true
def rStrOwn (C : Addr) (sp : Sp) (E : XK) : List V → Hp → VK → Prop := fun xs H Q => ∃ (a dx : Addr) (fs : List (Str × V)), xs = [.ref a] ∧ H a = some (.ins C dx fs) ∧ sp xs H (fun v H' => ∃ z : Str, v = .str z ∧ Q (.str z) H') E
theorem call_str_own (T : StrC X.K C f) (F : FnOk X.prog X.w X.K X.mg X.base CX k f fd ps sp) (hr : Room (k + 2) X.A) (hb : Binds X.K fd ps []) (hx : Passes CX X E) : CallR X (.type "str") (rStrOwn C sp E) := by
  intro pins s σ H xs us Q I r hq
  obtain ⟨a, dx, fs, rfl, ha, q⟩ := hq
  obtain ⟨u, rfl, ru⟩ := vals1 r
  cases ru
  obtain ⟨mA, J, _⟩ := ins_get I.hok ha
  obtain ⟨od, J1, _⟩ := J.look
  have hu := hr.in1.in1.units0
  refine PySem.W.kso_call hu I.kIn J1 T.st T.fn ?_
  refine thn (run_at (vs := [.ref a]) F hr.in1.in1 rfl hb hx I (.cons rfl .nil) q) fun w' s' z => ?_
  obtain ⟨v', H', I', rv, y, rfl, q'⟩ := z
  obtain ⟨t, rfl⟩ := rv
  exact ⟨.str y, H', I', ⟨t, rfl⟩, q'⟩
/-- repr of data of any depth, in a def that is called with no repr under way -/
def rReprD (K : PySem.W.Frag) : List V → Hp → VK → Prop := fun xs H Q => ∃ (x : V) (d : PyData), xs = [x] ∧ Dp K H x d ∧ d.showable = true ∧ d.hasDict = false ∧ d.depth ≤ 50 ∧ d.shown.length ≤ sizeLine ∧ Q (.str d.shown) H
theorem call_repr_data (hg : X.A.guards = some []) (hr : Room k X.A) : CallR X (.builtin "repr") (rReprD X.K) := by
  intro pins s σ H xs us Q I r hq
  obtain ⟨x, d, rfl, hd, hs, hn, hz, hl, q⟩ := hq
  obtain ⟨u, rfl, ru⟩ := vals1 r
  obtain ⟨as, rd⟩ := Dp.reads I d x u hd ru
  have hu := hr.units
  have big : ∀ a : Addr, u = .ref a → wpAny (model X.prog X.w) X.A (call (.builtin "repr") [u]) (EP X pins σ Q) X.xe s := fun a e => by
    subst e
    exact repr_of_reads' (h₀ := s.heap) rd hs (fun z => by rw [hn] at z; cases z) hg (by omega) (fun _ _ z => z) (fun h' v tk hk => ⟨.str d.shown, H, I.kept hk, ⟨v, rfl⟩, q⟩) hl
  cases hd with
  | non => cases ru; exact P.repr_of_none ⟨.str _, H, I.tok _, ⟨_, rfl⟩, q⟩
  | bl b => cases ru; exact P.repr_of_bool ⟨.str _, H, I.tok _, ⟨_, rfl⟩, by cases b <;> exact q⟩
  | int i =>
    obtain ⟨t, rfl⟩ := ru
    exact P.repr_of_int (by simpa [PyData.showable] using hs) ⟨.str _, H, I.tok _, ⟨_, rfl⟩, q⟩
  | str z =>
    obtain ⟨t, rfl⟩ := ru
    exact P.repr_of_str ⟨.str _, H, I.tok _, ⟨_, rfl⟩, q⟩ (hsz := hl)
  | lst h1 h2 => exact big _ ru
  | tup h1 h2 => exact big _ ru
/-- str(x), x an int or a text -/
theorem call_str_is : CallR X (.type "str") (fun xs H Q => (∃ i, xs = [.int i] ∧ i.natAbs.log2 < 1920 ∧ Q (.str (toString i)) H) ∨ ∃ a, xs = [.str a] ∧ Q (.str a) H) := CallR.or call_str_int SkE.call_str_str
end
end Fk

/-! Forkpolls: the law's own def, called where no repr is under way. -/
namespace Fk
open PySem PySem.Spec PyProof.Rows L2

/-- a def's promise where no repr (or the like) is under way -/
structure FnG (P : Program) (w : World) (K : PySem.W.Frag) (mg : Str → Option Value) (base : Heap) (CX : CXT) (k : Nat) (f : Addr) (fd : FuncData) (ps : List Str) (sp : Sp) : Prop where
  run : ∀ (A : Around) (outer : List Env) (s : Shared) (H : Hp) (args : Args) (us : List Value) (vs : List V) (Q : VK) (E : XK), A.guards = some [] → Room k A → Env0 P w K mg base A outer s H → BindsTo s fd args (ps.zip us) → Vals vs us → sp vs H Q E →
    codeAny (model P w) A (.call (.ref f) args) (CR CX outer P w H s Q E) s
theorem guards_deeper {A : Around} {env : Env} (h : A.guards = some []) : (A.deeper env).guards = some [] := by
  first | exact h | simpa [Around.deeper] using h
section
variable {CX : CXT} {P : Program} {w : World} {K : PySem.W.Frag} {mg : Str → Option Value} {base : Heap} {k : Nat} {f : Addr} {x qual : Str} {st : Stmt} {fd : FuncData} {N ps : List Str} {sp : Sp}
theorem fun_okG (F : Fun K x qual st f fd) (S : FnScope N ps (defScope st)) (len : ∀ vs H Q E, sp vs H Q E → vs.length = ps.length)
    (body : ∀ (cdv : Value) (A : Around) (outer : List Env) (s : Shared) (H : Hp) (vs : List V) (Q : VK) (E : XK), (A.deeper (envOfC qual (defScope st) s.heap.objs.size f cdv)).guards = some [] → Room k (A.deeper (envOfC qual (defScope st) s.heap.objs.size f cdv)) → sp vs H Q E →
      ∃ t, PSs (cxOf CX P w K mg base N qual (defScope st) f cdv A outer s H E) (defBody st) t ∧ t { nx := fun _ H' => Q .non H', rt := Q } (start N vs) H) : FnG P w K mg base CX (k + 1) f fd ps sp := by
  obtain ⟨oc, od, kV, doc, pm, an, cdv, ct, osl, rfl, lk, hcd⟩ := F.ex
  refine ⟨fun A outer s H args us vs Q E hG hr e0 hb r hsp => ?_⟩
  have KX : K.In s.heap := e0.mod.kin.keeps fun b o e => (e0.bs b o e).1
  have lim : s.heap.NoLimit := e0.mod.nolimit.keeps fun b o e => (e0.bs b o e).1
  refine codeAny_call_function hr.depth (KX _ _ lk) rfl S.co S.gen rfl (PySem.W.codeRec_of KX hcd) (hb _ _ _ _ ?_)
  refine wpAny_newFunctionEnv_cells S.kind (fun y hy => (S.par y.1 (List.of_mem_zip hy).1).elim (fun q => .inl q) fun q => .inr ⟨q, PySem.W.cellsFrom_some _ _ _ (.inl q)⟩) fun env he s1 z => ?_
  subst he
  obtain ⟨t, ht, hq⟩ := body cdv A outer s H vs Q E (guards_deeper hG) (hr.deeper _) hsp
  refine ⟨lim.keeps z.toInCall.keep, codeAny_func (wpAny_mono (ht.run [] s1 (start N vs) H _ (inv_start S hr.hd e0 (len _ _ _ _ hsp) r z) hq) (fun fl s' hs => ?_) fun _ _ hs => hs)⟩
  cases fl with
  | ret u => exact let ⟨v, _, H', J, rv, q⟩ := hs; ⟨v, H', J.os, J.bare, J.base, J.hok, rv, q⟩
  | next => exact let ⟨_, H', J, q⟩ := hs; ⟨V.non, H', J.os, J.bare, J.base, J.hok, (rfl : Value.none = Value.none), q⟩
  | brk => exact let ⟨_, _, _, q⟩ := hs; q.elim
  | cont => exact let ⟨_, _, _, q⟩ := hs; q.elim
end
/-- the heap at the law's entry, of which the script alone may be tracked -/
theorem lawG_core {P : Program} {w : World} {K : PySem.W.Frag} {mg mb : Str → Option Value} {CX : CXT} {k : Nat} {fa a : Addr} {fd : FuncData} {x : Str} {sp : Sp} {s : Shared} {vs : List Value} {H : Hp}
    (KX : K.In s.heap) (hns : s.heap.Ns mainGlobals mg) (hb : s.heap.Ns builtinsNs mb) (hbb : ∀ x : Str, x ≠ "__name__" → mb x = bootBuiltins x) (hlim : s.heap.NoLimit) (hg : s.gens = #[])
    (ha : s.heap.get? a = some { cls := .type "list", data := .seq vs.toArray }) (hr : Room k callerA)
    (F : ∀ base : Heap, K.In base → base.Ns mainGlobals mg → FnG P w K mg base CX k fa fd [x] sp) (bind : ∀ (s : Shared) (u : Value), BindsTo s fd ⟨[u], []⟩ [(x, u)])
    (hsp : sp [.ref a] H (fun v _ => v = .bl true) fun _ _ _ => False) (hCX : ∀ e s', CX [] H s (fun _ _ _ => False) e s' → False)
    (hO : Only H) (hok : HOk P w H s.heap) (hA : ∀ b, H b ≠ none → b = a) (hK : H a ≠ none → K.lookup a = none) :
    codeAny (model P w) callerA (.call (.ref fa) ⟨[.ref a], []⟩) (fun r s' => r = .ok (.ret (.bool true)) ∧ OldK s.heap s'.heap ∧ s'.os = s.os ∧ AllBare s'.gens) s := by
  have free : ∀ {b : Addr} {o : Obj} {es : Array DictEntry} {ep : Nat}, s.heap.get? b = some o → o.data = .dict es ep → H b = none := by
    intro b o es ep e d
    by_cases q : H b = none
    · exact q
    · rw [hA b q, ha] at e
      cases e
      have d' : Data.seq vs.toArray _ = Data.dict es ep := d
      cases d'
  have ns : ∀ {b : Addr} {m : Str → Option Value}, s.heap.Ns b m → (hidT s.heap H).Ns b m := fun z => let ⟨o, es, ep, e, d, r⟩ := z; ⟨o, es, ep, hidT_get e (free e d), d, r⟩
  have kin : K.In (hidT s.heap H) := fun b o e => hidT_get (KX b o e) (by
    by_cases q : H b = none
    · exact q
    · have eb := hA b q
      subst eb
      rw [hK q] at e
      cases e)
  obtain ⟨mc, l1, l2⟩ := hlim
  have e0 : Env0 P w K mg (hidT s.heap H) callerA [] s H := ⟨rfl, ⟨kin, ns hns, ⟨mb, ns hb, hbb⟩, ⟨mc, ns l1, l2⟩⟩, fun b o e => of_hidT e, Nat.le_of_eq (hidT_size _ _), trivial, fun b hb => absurd (show b ∈ ([] : List Addr) from hb) List.not_mem_nil, hok, AllBare.of_eq hg⟩
  refine codeAny_mono ((F _ kin (ns hns)).run callerA [] s H ⟨[.ref a], []⟩ [.ref a] [.ref a] _ _ rfl hr e0 (bind s (.ref a)) (.cons rfl .nil) hsp) fun r s' h => ?_
  cases r with
  | error e => exact (hCX e s' h).elim
  | ok fl =>
    cases fl with
    | next => exact h.elim
    | brk => exact h.elim
    | cont => exact h.elim
    | ret u =>
      obtain ⟨v, H', os, bare, un, hok', rv, q⟩ := h
      obtain rfl : v = V.bl true := q
      obtain rfl : u = Value.bool true := rv
      refine ⟨rfl, OldK.of_keep fun b o e => ?_, os, bare⟩
      by_cases q : H b = none
      · exact un.keep b o e q (fun z => absurd (show b ∈ ([] : List Addr) from z) List.not_mem_nil) List.not_mem_nil
      · rcases hO b with z | ⟨ob, xs, z⟩
        · exact (q z).elim
        · obtain ⟨e1, _⟩ := hok b _ z
          obtain ⟨e2, _⟩ := hok' b _ (un.frzs b ob _ z)
          rw [e] at e1
          cases e1
          exact e2
theorem walk_ofG {l : PySem.W.OpenLaw} {n k : Nat} {q : Program} {loose : List Str} {XP : (Str → Option Value) → Heap → Prop} {YP : World → Heap → Prop} {d : DefRec} {K : Params → PySem.W.Frag} {CX : World → CXT} {sp : World → Sp} {x : Str}
    (hn : l.most = some n) (hn2 : n ≤ sizeLine) (hdf : d.params.defaults = []) (hr : Room k callerA) (hY : ∀ (w : World) (h : Heap), YP w h → (K w.params).In h)
    (F : ∀ (w : World) (mg : Str → Option Value) (fa : Addr) (h : Heap), (K w.params).In h → h.Ns mainGlobals mg → mg d.name = some (.ref fa) →
      ∃ fd : FuncData, (∀ (s : Shared) (u : Value), BindsTo s fd ⟨[u], []⟩ [(x, u)]) ∧ ∀ base : Heap, (K w.params).In base → base.Ns mainGlobals mg → FnG l.prog w (K w.params) mg base (CX w) k fa fd [x] (sp w))
    (hsp : ∀ (w : World) (H : Hp) (a : Addr) (ns : List Int), ns.length ≤ n → Only H → SqL (K w.params) H a (ns.map V.int) → sp w [.ref a] H (fun v _ => v = .bl true) fun _ _ _ => False)
    (hCX : ∀ (w : World) (H : Hp) (s : Shared) (e : Value) (s' : Shared), CX w [] H s (fun _ _ _ => False) e s' → False) :
    PySem.W.WalkO q loose XP YP l.row.toRowW d [] (fun f vs => PySem.call f vs) := by
  refine Att.attach_call hn hdf fun w s₀ s mg mb fa o pm cd doc a vs ns G Y ho hd hcd hmg hobj hints hlen hg => ?_
  have KX := hY w _ Y
  obtain ⟨fd, hb, hF⟩ := F w mg fa _ KX G.T.g hmg
  have rv := vals_ints hints
  have hl : ns.length ≤ sizeLine := Nat.le_trans hlen hn2
  by_cases hk : (K w.params).lookup a = none
  · have at_a : (fun b => if b = a then some (HO.frz { cls := .type "list", data := .seq vs.toArray } (.lst (ns.map V.int))) else none) a = some (HO.frz { cls := .type "list", data := .seq vs.toArray } (.lst (ns.map V.int))) := if_pos rfl
    have off : ∀ b, b ≠ a → (fun b => if b = a then some (HO.frz { cls := .type "list", data := .seq vs.toArray } (.lst (ns.map V.int))) else none) b = none := fun b hb => if_neg hb
    generalize (fun b => if b = a then some (HO.frz { cls := .type "list", data := .seq vs.toArray } (.lst (ns.map V.int))) else none) = H at at_a off
    have hO : Only H := fun b => (Decidable.em (b = a)).elim (fun e => .inr ⟨_, _, e ▸ at_a⟩) fun e => .inl (off b e)
    refine lawG_core (H := H) KX G.T.g G.T.b G.T.builtins G.T.nolimit hg hobj hr hF hb (hsp w H a ns hlen hO (.inl (.inr ⟨_, at_a⟩))) (fun e s' => hCX w H s e s') hO (fun b u z => ?_) (fun b z => ?_) fun _ => hk
    · by_cases e : b = a
      · subst e
        rw [at_a] at z
        cases z
        exact ⟨hobj, by rw [List.length_map]; exact hl, vs, _, rv, hobj⟩
      · rw [off b e] at z
        cases z
    · exact Decidable.byContradiction fun e => z (off b e)
  · cases hk2 : (K w.params).lookup a with
    | none => exact (hk hk2).elim
    | some o2 =>
      have e := KX a o2 hk2
      rw [hobj] at e
      cases e
      have hO : Only (fun _ => none) := fun _ => .inl rfl
      exact lawG_core (H := fun _ => none) KX G.T.g G.T.b G.T.builtins G.T.nolimit hg hobj hr hF hb
        (hsp w _ a ns hlen hO (.inr ⟨_, vs.toArray, _, hk2, rfl, rfl, rfl, by rw [List.size_toArray, hints.length]; exact hl, by simpa using rv⟩)) (fun e s' => hCX w _ s e s') hO (fun b u z => nomatch (show (none : Option HO) = some u from z)) (fun b z => absurd rfl z) fun z => absurd rfl z
end Fk

/-! Forkpolls: what a reading comes to, with a few objects (R.D) that may change under a word (R.J) and all else standing. -/
namespace Fk
open PySem PySem.Spec PyProof.Rows L2

/-- D: objects that may change, by the word J; h: objects that stand while one evaluates, and of which no fact speaks -/
structure Res where
  D : List Addr
  h : List Addr
  J : Hp → Prop
  at_ : ∀ H, J H → ∀ x, x ∈ D ∨ x ∈ h → H x ≠ none
  st : ∀ H H', J H → (∀ x, x ∈ D → H' x = H x) → (∀ x, x ∈ h → H' x ≠ none) → J H'
def Free : Res where
  D := []
  h := []
  J := fun _ => True
  at_ := fun _ _ _ h => h.elim (fun z => absurd z List.not_mem_nil) fun z => absurd z List.not_mem_nil
  st := fun _ _ _ _ _ => True.intro
/-- facts stand from H to H' -/
def Gr (R : Res) (H H' : Hp) : Prop := R.J H' ∧ ∀ x o, H x = some o → x ∉ R.D → x ∉ R.h → H' x = some o
/-- what evaluating does -/
def Gv (R : Res) (H H' : Hp) : Prop := Gr R H H' ∧ ∀ x, x ∈ R.h → H' x = H x
abbrev VP := V → Hp → Prop
/-- from now on -/
abbrev Al (R : Res) (φ : Hp → Prop) (H : Hp) : Prop := ∀ H', Gr R H H' → φ H'
def Stb (R : Res) (P : VP) : Prop := ∀ v H H', Gr R H H' → P v H → P v H'
section
variable {R : Res} {H H1 H2 H' : Hp} {p : Addr} {o : HO}
theorem free_j : Free.J H := True.intro
theorem Gr.refl (h : R.J H) : Gr R H H := ⟨h, fun _ _ e _ _ => e⟩
theorem Gv.refl (h : R.J H) : Gv R H H := ⟨Gr.refl h, fun _ _ => rfl⟩
theorem Gr.tr (a : Gr R H H1) (b : Gr R H1 H2) : Gr R H H2 := ⟨b.1, fun x o e n m => b.2 x o (a.2 x o e n m) n m⟩
theorem Gr.trans (a : Gr R H H1) (b : Gv R H1 H2) : Gr R H H2 := a.tr b.1
theorem Gv.trans (a : Gv R H H1) (b : Gv R H1 H2) : Gv R H H2 := ⟨a.1.tr b.1, fun x hx => (b.2 x hx).trans (a.2 x hx)⟩
theorem Gr.at (a : Gr R H H1) : Gv R H1 H1 := Gv.refl a.1
theorem Gv.at (a : Gv R H H1) : Gv R H1 H1 := Gv.refl a.1.1
theorem Gv.same (j : R.J H) (e : Same H H') : Gv R H H' := by
  have k : ∀ x, x ∈ R.D ∨ x ∈ R.h → H' x = H x := fun x hx => by
    cases q : H x with
    | none => exact absurd q (R.at_ H j x hx)
    | some o => exact e x o q
  exact ⟨⟨R.st H H' j (fun x hx => k x (.inl hx)) fun x hx => by rw [k x (.inr hx)]; exact R.at_ H j x (.inr hx), fun x o q _ _ => e x o q⟩, fun x hx => k x (.inr hx)⟩
theorem same_new (hp : H p = none) : Same H (upd H p o) := fun b x e => by
  rw [upd_ne (ne_of_none e hp)]
  exact e
theorem Gv.new (j : R.J H) (hp : H p = none) : Gv R H (upd H p o) := Gv.same j (same_new hp)
theorem off (j : R.J H) (hp : H p = none) : p ∉ R.D ∧ p ∉ R.h := ⟨fun h => R.at_ H j p (.inl h) hp, fun h => R.at_ H j p (.inr h) hp⟩
theorem Gr.back (a : Gr R H H1) (hp : H1 p = none) : H p = none := by
  obtain ⟨h1, h2⟩ := off a.1 hp
  cases q : H p with
  | none => rfl
  | some o =>
    rw [a.2 p o q h1 h2] at hp
    cases hp
theorem Gr.free (a : Gr Free H H1) : Same H H1 := fun b o e => a.2 b o e List.not_mem_nil List.not_mem_nil
theorem gv_free (a : Same H H1) : Gv Free H H1 := Gv.same True.intro a
theorem Al.gr {φ : Hp → Prop} (a : Gr R H H1) (h : Al R φ H) : Al R φ H1 := fun H' g => h H' (a.tr g)
theorem Al.now {φ : Hp → Prop} (h : Al R φ H) (j : R.J H) : φ H := h H (Gr.refl j)
theorem al_of (hp : H p = some o) (hd : p ∉ R.D ∧ p ∉ R.h) : Al R (fun H' => H' p = some o) H := fun H' g => g.2 p o hp hd.1 hd.2
end

def Is (v : V) : VP := fun u _ => u = v
/-- v shows the datum d, from now on -/
def Rp (K : PySem.W.Frag) (R : Res) (d : PyData) : VP := fun u H => Al R (fun H' => Dp K H' u d) H
/-- a list, a tuple of these values, from now on -/
def IsL (K : PySem.W.Frag) (R : Res) (xs : List V) : VP := fun u H => ∃ p, u = .ref p ∧ Al R (fun H' => SqL K H' p xs) H
def IsU (K : PySem.W.Frag) (R : Res) (xs : List V) : VP := fun u H => ∃ p, u = .ref p ∧ Al R (fun H' => SqT K H' p xs) H
/-- a list of one's own -/
def IsN (xs : List V) : VP := fun u H => ∃ p, u = .ref p ∧ H p = some (.lst xs)
section
variable {K : PySem.W.Frag} {R : Res} {v : V} {d : PyData} {xs : List V}
theorem stb_is : Stb R (Is v) := fun _ _ _ _ h => h
theorem stb_rp : Stb R (Rp K R d) := fun _ _ _ g h => Al.gr g h
theorem stb_isL : Stb R (IsL K R xs) := fun _ _ _ g ⟨p, e, h⟩ => ⟨p, e, Al.gr g h⟩
theorem stb_isU : Stb R (IsU K R xs) := fun _ _ _ g ⟨p, e, h⟩ => ⟨p, e, Al.gr g h⟩
end
/-- te comes to some v of which P holds -/
def EvP (R : Res) (te : TE) (σ : L2.St) (H : Hp) (P : VP) : Prop := ∀ H1, Gr R H H1 → ∀ Q : VK, (∀ v H2, Gv R H1 H2 → P v H2 → Q v H2) → te σ H1 Q
def EvT (R : Res) (tt : TT) (σ : L2.St) (H : Hp) (b : Bool) : Prop := ∀ H1, Gr R H H1 → ∀ Q : Bool → Hp → Prop, (∀ H2, Gv R H1 H2 → Q b H2) → tt σ H1 Q
def PsOk : List VP → List V → Hp → Prop
  | [], [], _ => True
  | P :: Ps, v :: vs, H => P v H ∧ PsOk Ps vs H
  | _, _, _ => False
def EvA (R : Res) (ta : TA) (σ : L2.St) (H : Hp) (Ps : List VP) : Prop := ∀ H1, Gr R H H1 → ∀ Q : List V → Hp → Prop, (∀ vs H2, Gv R H1 H2 → PsOk Ps vs H2 → Q vs H2) → ta σ H1 Q
def EvO (R : Res) (to : TO) (σ : L2.St) (H : Hp) (o : Option Int) : Prop := ∀ H1, Gr R H H1 → ∀ Q : Option Int → Hp → Prop, (∀ H2, Gv R H1 H2 → Q o H2) → to σ H1 Q
/-- an operation on values; a call on values -/
def RvP (R : Res) (r : R2) (x y : V) (H : Hp) (P : VP) : Prop := ∀ Q : VK, (∀ v H2, Gv R H H2 → P v H2 → Q v H2) → r x y H Q
def RcP (R : Res) (r : List V → Hp → VK → Prop) (vs : List V) (H : Hp) (P : VP) : Prop := ∀ Q : VK, (∀ v H2, Gv R H H2 → P v H2 → Q v H2) → r vs H Q
section
variable {K : PySem.W.Frag} {R : Res} {σ : L2.St} {H H' : Hp} {ta tb te : TE} {t u : TT} {x y v : V} {r : R2} {P P' A B : VP} {i j : Int}
theorem EvP.gr (g : Gr R H H') (h : EvP R te σ H P) : EvP R te σ H' P := fun H1 a => h H1 (g.tr a)
theorem EvT.gr {b : Bool} (g : Gr R H H') (h : EvT R t σ H b) : EvT R t σ H' b := fun H1 a => h H1 (g.tr a)
theorem ev_imp (h : EvP R te σ H P) (k : ∀ v H', Gr R H H' → P v H' → P' v H') : EvP R te σ H P' := fun H1 g Q q => h H1 g Q fun v H2 g2 p => q v H2 g2 (k v H2 (g.trans g2) p)
theorem ev_var {i : Nat} (h : σ[i]? = some (some v)) (p : Al R (P v) H) : EvP R (tVar i) σ H P := fun H1 g Q q => ⟨v, h, q v H1 g.at (p H1 g)⟩
theorem ev_is {i : Nat} (h : σ[i]? = some (some v)) : EvP R (tVar i) σ H (Is v) := fun H1 g Q q => ⟨v, h, q v H1 g.at rfl⟩
theorem ev_c : EvP R (tC v) σ H (Is v) := fun H1 g Q q => q v H1 g.at rfl
theorem ev_cP (p : Al R (P v) H) : EvP R (tC v) σ H P := fun H1 g Q q => q v H1 g.at (p H1 g)
theorem ev_op (sA : Stb R A) (ha : EvP R ta σ H A) (hb : EvP R tb σ H B) (hr : ∀ x y H1, Gr R H H1 → A x H1 → B y H1 → RvP R r x y H1 P) : EvP R (tOp r ta tb) σ H P := fun H1 g Q q =>
  ha H1 g _ fun x H2 g2 px => hb H2 (g.trans g2) _ fun y H3 g3 py => hr x y H3 (g.trans (g2.trans g3)) (sA x H2 H3 g3.1 px) py Q fun v H4 g4 pv => q v H4 (g2.trans (g3.trans g4)) pv
theorem ev_opS (ha : EvP R ta σ H (Is x)) (hb : EvP R tb σ H (Is y)) (hr : ∀ H1, Gr R H H1 → RvP R r x y H1 P) : EvP R (tOp r ta tb) σ H P :=
  ev_op stb_is ha hb fun x' y' H1 g hx hy => by
    cases hx; cases hy
    exact hr H1 g
theorem ev_I0 {g : Int → Int → V} (ha : EvP R ta σ H (Is (.int i))) (hb : EvP R tb σ H (Is (.int j))) : EvP R (tOp (rI0 g) ta tb) σ H (Is (g i j)) := ev_opS ha hb fun H1 g1 Q q => ⟨i, j, rfl, rfl, q _ H1 g1.at rfl⟩
theorem ev_I {C : Int → Int → Prop} {g : Int → Int → V} (hc : C i j) (ha : EvP R ta σ H (Is (.int i))) (hb : EvP R tb σ H (Is (.int j))) : EvP R (tOp (rI C g) ta tb) σ H (Is (g i j)) := ev_opS ha hb fun H1 g1 Q q => ⟨i, j, rfl, rfl, hc, q _ H1 g1.at rfl⟩
theorem ev_eq (hs : scal x y = true) (ha : EvP R ta σ H (Is x)) (hb : EvP R tb σ H (Is y)) : EvP R (tOp rEq ta tb) σ H (Is (.bl (decide (x = y)))) := ev_opS ha hb fun H1 g1 Q q => ⟨hs, q _ H1 g1.at rfl⟩
theorem ev_ne (hs : scal x y = true) (ha : EvP R ta σ H (Is x)) (hb : EvP R tb σ H (Is y)) : EvP R (tOp rNe ta tb) σ H (Is (.bl (!decide (x = y)))) := ev_opS ha hb fun H1 g1 Q q => ⟨hs, q _ H1 g1.at rfl⟩
theorem ev_val {w : V} (h : EvP R te σ H (Is v)) (e : v = w) : EvP R te σ H (Is w) := e ▸ h
theorem ev_neg {i : Int} (ha : EvP R ta σ H (Is (.int i))) : EvP R (tUn (rU fun i => .int (-i)) ta) σ H (Is (.int (-i))) := fun H1 g Q q => ha H1 g _ fun x H2 g2 px => by
  cases px
  exact ⟨i, rfl, q _ H2 g2 rfl⟩
/-- x in, not in a tuple or list of flat things -/
theorem ev_in {neg : Bool} {xs : List V} (fx : flatV x = true) (fa : xs.all flatV = true) (ha : EvP R ta σ H (Is x)) (hb : EvP R tb σ H (fun u H => ∃ p, u = .ref p ∧ (SqL K H p xs ∨ SqT K H p xs))) :
    EvP R (tOp (rIn K neg) ta tb) σ H (Is (.bl (if neg then !inV x xs else inV x xs))) := ev_op stb_is ha hb fun x' y H1 g hx hy Q q => by
  cases hx
  obtain ⟨p, rfl, h⟩ := hy
  exact ⟨p, xs, rfl, h, fx, fa, q _ H1 g.at rfl⟩
theorem et_test {b : Bool} (h : EvP R te σ H (Is (.bl b))) : EvT R (tTest te) σ H b := fun H1 g _ q => h H1 g _ fun v H2 g2 e => ⟨b, e, q H2 g2⟩
theorem et_B {b : Bool} (h : EvP R te σ H (Is (.bl b))) : EvT R (tB te) σ H b := fun H1 g _ q => h H1 g _ fun v H2 g2 e => ⟨b, e, q H2 g2⟩
theorem et_is {a b : Bool} (h : EvT R t σ H a) (e : a = b) : EvT R t σ H b := e ▸ h
theorem et_and {a b : Bool} (h1 : EvT R t σ H a) (h2 : a = true → EvT R u σ H b) : EvT R (tAnd t u) σ H (a && b) := fun H1 g Q q => h1 H1 g _ fun H2 g2 => by
  cases a with
  | true => exact (if_pos rfl).mpr (h2 rfl H2 (g.trans g2) Q fun H3 g3 => q H3 (g2.trans g3))
  | false => exact (if_neg Bool.false_ne_true).mpr (q H2 g2)
theorem et_or {a b : Bool} (h1 : EvT R t σ H a) (h2 : a = false → EvT R u σ H b) : EvT R (tOr t u) σ H (a || b) := fun H1 g Q q => h1 H1 g _ fun H2 g2 => by
  cases a with
  | true => exact (if_pos rfl).mpr (q H2 g2)
  | false => exact (if_neg Bool.false_ne_true).mpr (h2 rfl H2 (g.trans g2) Q fun H3 g3 => q H3 (g2.trans g3))
theorem et_not {a : Bool} (h1 : EvT R t σ H a) : EvT R (tNot t) σ H (!a) := fun H1 g _ q => h1 H1 g _ q
theorem ev_and {a b : Bool} (h1 : EvP R ta σ H (Is (.bl a))) (h2 : a = true → EvP R tb σ H (Is (.bl b))) : EvP R (tAndV ta tb) σ H (Is (.bl (a && b))) := fun H1 g Q q => h1 H1 g _ fun v H2 g2 e => ⟨a, e, by
  cases a with
  | true => exact (if_pos rfl).mpr (h2 rfl H2 (g.trans g2) Q fun v H3 g3 => q v H3 (g2.trans g3))
  | false => exact (if_neg Bool.false_ne_true).mpr (q _ H2 g2 rfl)⟩
theorem ev_or {a b : Bool} (h1 : EvP R ta σ H (Is (.bl a))) (h2 : a = false → EvP R tb σ H (Is (.bl b))) : EvP R (tOrV ta tb) σ H (Is (.bl (a || b))) := fun H1 g Q q => h1 H1 g _ fun v H2 g2 e => ⟨a, e, by
  cases a with
  | true => exact (if_pos rfl).mpr (q _ H2 g2 rfl)
  | false => exact (if_neg Bool.false_ne_true).mpr (h2 rfl H2 (g.trans g2) Q fun v H3 g3 => q v H3 (g2.trans g3))⟩
theorem ev_not {a : Bool} (h1 : EvP R ta σ H (Is (.bl a))) : EvP R (tNotV ta) σ H (Is (.bl (!a))) := fun H1 g Q q => h1 H1 g _ fun v H2 g2 e => ⟨a, e, q _ H2 g2 rfl⟩
theorem ev_chain {r r' : R2} {tc : TE} {z : V} {a b : Bool} (ha : EvP R ta σ H (Is x)) (hb : EvP R tb σ H (Is y)) (hc : EvP R tc σ H (Is z)) (h1 : ∀ H1, Gr R H H1 → RvP R r x y H1 (Is (.bl a))) (h2 : ∀ H1, Gr R H H1 → RvP R r' y z H1 (Is (.bl b))) :
    EvP R (tChain r r' ta tb tc) σ H (Is (.bl (a && b))) := fun H1 g Q q =>
  ha H1 g _ fun x' H2 g2 ex => by
    cases ex
    exact hb H2 (g.trans g2) _ fun y' H3 g3 ey => by
      cases ey
      exact h1 H3 (g.trans (g2.trans g3)) _ fun w H4 g4 ew => ⟨a, ew, by
        cases a with
        | true => exact (if_pos rfl).mpr (hc H4 (g.trans (g2.trans (g3.trans g4))) _ fun z' H5 g5 ez => by
            cases ez
            exact h2 H5 (g.trans (g2.trans (g3.trans (g4.trans g5)))) _ fun v H6 g6 ev => q v H6 (g2.trans (g3.trans (g4.trans (g5.trans g6)))) ev)
        | false => exact (if_neg Bool.false_ne_true).mpr (q _ H4 (g2.trans (g3.trans g4)) rfl)⟩
theorem rv_i0 {g : Int → Int → V} (jj : R.J H) : RvP R (rI0 g) (.int i) (.int j) H (Is (g i j)) := fun Q q => ⟨i, j, rfl, rfl, q _ H (Gv.refl jj) rfl⟩
theorem ev_if {b : Bool} (h : EvT R t σ H b) (h1 : b = true → EvP R ta σ H P) (h2 : b = false → EvP R tb σ H P) : EvP R (tIf t ta tb) σ H P := fun H1 g Q q => h H1 g _ fun H2 g2 => by
  cases b with
  | true => exact (if_pos rfl).mpr (h1 rfl H2 (g.trans g2) Q fun v H3 g3 => q v H3 (g2.trans g3))
  | false => exact (if_neg Bool.false_ne_true).mpr (h2 rfl H2 (g.trans g2) Q fun v H3 g3 => q v H3 (g2.trans g3))
/-! ### arguments, calls, displays -/
theorem ea_nil : EvA R tNil σ H [] := fun H1 g _ q => q [] H1 g.at trivial
theorem ea_cons {tr : TA} {Ps : List VP} (s : Stb R P) (h : EvP R te σ H P) (hr : EvA R tr σ H Ps) : EvA R (tCons te tr) σ H (P :: Ps) := fun H1 g _ q =>
  h H1 g _ fun x H2 g2 px => hr H2 (g.trans g2) _ fun xs H3 g3 ps => q (x :: xs) H3 (g2.trans g3) ⟨s x H2 H3 g3.1 px, ps⟩
theorem ea_is {tr : TA} {Ps : List VP} (h : EvP R te σ H (Is v)) (hr : EvA R tr σ H Ps) : EvA R (tCons te tr) σ H (Is v :: Ps) := ea_cons stb_is h hr
theorem ev_cb {r : List V → Hp → VK → Prop} {ta : TA} {Ps : List VP} (h : EvA R ta σ H Ps) (hr : ∀ vs H1, Gr R H H1 → PsOk Ps vs H1 → RcP R r vs H1 P) : EvP R (tCB r ta) σ H P := fun H1 g Q q =>
  h H1 g _ fun vs H2 g2 ps => hr vs H2 (g.trans g2) ps Q fun v H3 g3 pv => q v H3 (g2.trans g3) pv
theorem ev_call {sp : Sp} {dvs : List V} {E : XK} {ta : TA} {Ps : List VP} (h : EvA R ta σ H Ps) (hs : ∀ vs H1, Gr R H H1 → PsOk Ps vs H1 → ∀ Q : VK, (∀ v H2, Gv R H1 H2 → P v H2 → Q v H2) → sp (vs ++ dvs) H1 Q E) : EvP R (tCall sp dvs E ta) σ H P := fun H1 g Q q =>
  h H1 g _ fun vs H2 g2 ps => hs vs H2 (g.trans g2) ps Q fun v H3 g3 pv => q v H3 (g2.trans g3) pv
theorem psOk1 {vs : List V} (h : PsOk [Is x] vs H) : vs = [x] := by
  match vs, h with
  | [a], ⟨e, _⟩ => exact congrArg (fun z => [z]) e
theorem psOk2 {vs : List V} (h : PsOk [Is x, Is y] vs H) : vs = [x, y] := by
  match vs, h with
  | [a, b], ⟨e1, e2, _⟩ => cases e1; cases e2; rfl
/-- isinstance -/
theorem ev_isi {ty : Value} {c : V} {cu : Value} {b : Bool} (ha : EvP R ta σ H (Is x)) (hc : EvP R tb σ H (Is c)) (hk : ClsV c cu) (hx : Al R (fun H' => TyX K H' x ty) H) (e : PySem.W.kitOne K ty cu = some b) :
    EvP R (tCB (rIsi K) (tCons ta (tCons tb tNil))) σ H (Is (.bl b)) := ev_cb (ea_is ha (ea_is hc ea_nil)) fun vs H1 g ps Q q => by
  cases psOk2 ps
  exact ⟨x, c, ty, cu, b, rfl, hk, hx H1 g, e, q _ H1 g.at rfl⟩
/-- scalars as data -/
def toD : V → PyData
  | .bl b => .bool b
  | .int i => .int i
  | .str z => .str z
  | _ => .none
theorem dp_toD (h : flatV v = true) : Dp K H v (toD v) := by
  cases v with
  | non => exact .non
  | bl b => exact .bl b
  | int i => exact .int i
  | str z => exact .str z
  | _ => exact absurd h Bool.false_ne_true
theorem rp_flat (h : flatV v = true) : Rp K R (toD v) v H := fun _ _ => dp_toD h
theorem ev_D (h : EvP R te σ H (Is v)) (f : flatV v = true) : EvP R te σ H (Rp K R (toD v)) := ev_imp h fun u H' _ e => by
  cases e
  exact rp_flat f
theorem dpAll_of {ds : List PyData} : ∀ {vs : List V}, PsOk (ds.map (Rp K R)) vs H → ∀ H', Gr R H H' → DpAll K H' vs ds := by
  induction ds with
  | nil => intro vs h H' g; match vs, h with | [], _ => exact .nil
  | cons d ds ih => intro vs h H' g; match vs, h with | v :: vs, ⟨h1, h2⟩ => exact .cons (h1 H' g) (ih h2 H' g)
theorem dpAll_len {ds : List PyData} : ∀ {vs : List V}, DpAll K H vs ds → vs.length = ds.length := by
  induction ds with
  | nil => intro vs h; cases h; rfl
  | cons d ds ih => intro vs h; cases h with | cons h1 h2 => exact congrArg Nat.succ (ih h2)
theorem psOk_len : ∀ {Ps : List VP} {vs : List V}, PsOk Ps vs H → vs.length = Ps.length := by
  intro Ps
  induction Ps with
  | nil => intro vs h; match vs, h with | [], _ => rfl
  | cons P Ps ih => intro vs h; match vs, h with | v :: vs, ⟨_, h⟩ => exact congrArg Nat.succ (ih h)
theorem small {n : Nat} (h : n ≤ 1000) : n ≤ sizeLine := Nat.le_of_lt (small1000 h)
theorem ev_tupD {ta : TA} {ds : List PyData} (h : EvA R ta σ H (ds.map (Rp K R))) (hl : ds.length ≤ 1000) : EvP R (tTup ta) σ H (Rp K R (.tuple ds)) := fun H1 g Q q =>
  h H1 g _ fun vs H2 g2 ps => by
    have el := (psOk_len ps).trans (List.length_map _)
    exact ⟨small (by omega), fun p hp => q _ _ (g2.trans (Gv.new g2.1.1 hp)) fun H' g' => .tup (.inl (.inl (g'.2 p _ upd_same (off g2.1.1 hp).1 (off g2.1.1 hp).2))) (dpAll_of ps H' ((Gv.new g2.1.1 hp).1.tr g'))⟩
theorem ev_lstD {ta : TA} {ds : List PyData} (h : EvA R ta σ H (ds.map (Rp K R))) (hl : ds.length ≤ 1000) : EvP R (tLst ta) σ H (Rp K R (.list ds)) := fun H1 g Q q =>
  h H1 g _ fun vs H2 g2 ps => by
    have el := (psOk_len ps).trans (List.length_map _)
    exact ⟨small (by omega), fun p hp => q _ _ (g2.trans (Gv.new g2.1.1 hp)) fun H' g' => .lst (.inl (.inl (g'.2 p _ upd_same (off g2.1.1 hp).1 (off g2.1.1 hp).2))) (dpAll_of ps H' ((Gv.new g2.1.1 hp).1.tr g'))⟩
/-- == and != of data -/
theorem ev_eqD {d e : PyData} (sd : SeqAt.shaped d = true) (se : SeqAt.shaped e = true) (ha : EvP R ta σ H (Rp K R d)) (hb : EvP R tb σ H (Rp K R e)) : EvP R (tOp (rEqD K) ta tb) σ H (Is (.bl (PyData.eqv d e))) :=
  ev_op stb_rp ha hb fun x y H1 g hx hy Q q => ⟨d, e, hx H1 g.at.1, hy H1 g.at.1, sd, se, q _ H1 g.at rfl⟩
theorem ev_neD {d e : PyData} (sd : SeqAt.shaped d = true) (se : SeqAt.shaped e = true) (ha : EvP R ta σ H (Rp K R d)) (hb : EvP R tb σ H (Rp K R e)) : EvP R (tOp (rNeD K) ta tb) σ H (Is (.bl (!PyData.eqv d e))) :=
  ev_op stb_rp ha hb fun x y H1 g hx hy Q q => ⟨d, e, hx H1 g.at.1, hy H1 g.at.1, sd, se, q _ H1 g.at rfl⟩
end
/-! ### statements: Hc the heap as it stands, H the heap of the facts -/
section
variable {K : PySem.W.Frag} {R : Res} {σ : L2.St} {H Hc : Hp} {te : TE} {t : TT} {P : VP} {D : Ends} {tu tw : TS} {v : V}
theorem s_ret (h : EvP R te σ H P) (g : Gr R H Hc) (k : ∀ v H1, Gr R H H1 → Gv R Hc H1 → P v H1 → D.rt v H1) : tRet te D σ Hc := h Hc g _ fun v H1 g1 p => k v H1 (g.trans g1) g1 p
theorem s_set {i : Nat} (h : EvP R te σ H P) (g : Gr R H Hc) (k : ∀ v H1, Gr R H H1 → Gv R Hc H1 → P v H1 → D.nx (σ.set i (some v)) H1) : tAsg te (gName i) D σ Hc := h Hc g _ fun v H1 g1 p => k v H1 (g.trans g1) g1 p
theorem s_drop (h : EvP R te σ H P) (g : Gr R H Hc) (k : ∀ v H1, Gr R H H1 → Gv R Hc H1 → P v H1 → D.nx σ H1) : tDrop te D σ Hc := h Hc g _ fun v H1 g1 p => k v H1 (g.trans g1) g1 p
theorem s_if {b : Bool} (h : EvT R t σ H b) (g : Gr R H Hc) (h1 : b = true → ∀ H1, Gr R H H1 → Gv R Hc H1 → tu D σ H1) (h2 : b = false → ∀ H1, Gr R H H1 → Gv R Hc H1 → tw D σ H1) : tIfS t tu tw D σ Hc := h Hc g _ fun H1 g1 => by
  cases b with
  | true => exact (if_pos rfl).mpr (h1 rfl H1 (g.trans g1) g1)
  | false => exact (if_neg Bool.false_ne_true).mpr (h2 rfl H1 (g.trans g1) g1)
theorem s_if1 {b : Bool} (h : EvT R t σ H b) (g : Gr R H Hc) (h1 : b = true → ∀ H1, Gr R H H1 → Gv R Hc H1 → tu D σ H1) (h2 : b = false → ∀ H1, Gr R H H1 → Gv R Hc H1 → D.nx σ H1) : tIfS t tu tNext D σ Hc := s_if h g h1 h2
end
end Fk

/-! Forkpolls: loops and comprehensions, calls by name. -/
namespace Fk
open PySem PySem.Spec PyProof.Rows L2
/-- one more object of which no fact speaks -/
def Res.add (R : Res) (p : Addr) : Res where
  D := R.D
  h := p :: R.h
  J := fun H => R.J H ∧ H p ≠ none
  at_ := fun H j x hx => by
    rcases hx with e | e
    · exact R.at_ H j.1 x (.inl e)
    · rcases List.mem_cons.mp e with e | e
      · rw [e]
        exact j.2
      · exact R.at_ H j.1 x (.inr e)
  st := fun H H' j k m => ⟨R.st H H' j.1 k fun x hx => m x (List.mem_cons_of_mem _ hx), m p List.mem_cons_self⟩
section
variable {R : Res} {H H' H1 : Hp} {p : Addr} {o : HO} {φ : Hp → Prop}
theorem add_into (hn : H p = none) (g : Gr (R.add p) H H') : Gr R H H' := ⟨g.1.1, fun x o e n m => g.2 x o e n fun z => by
  rcases List.mem_cons.mp z with q | q
  · rw [q, hn] at e
    cases e
  · exact m q⟩
theorem al_into (hn : H p = none) (h : Al R φ H) : Al (R.add p) φ H := fun H' g => h H' (add_into hn g)
theorem add_out (hp : H p = some o) (hd : p ∉ R.D ∧ p ∉ R.h) (g : Gr R H H') : Gr (R.add p) H H' := ⟨⟨g.1, by rw [g.2 p o hp hd.1 hd.2]; exact fun z => nomatch z⟩, fun x o e n m => g.2 x o e n fun z => m (List.mem_cons_of_mem _ z)⟩
theorem al_out (hp : H p = some o) (hd : p ∉ R.D ∧ p ∉ R.h) (h : Al (R.add p) φ H) : Al R φ H := fun H' g => h H' (add_out hp hd g)
theorem add_mut (hd : p ∉ R.D ∧ p ∉ R.h) (g : Gr (R.add p) H H') : Gr (R.add p) H (upd H' p o) := by
  have some_ne : ∀ x, (upd H' p o) x = some o ∨ (upd H' p o) x = H' x := fun x => by
    by_cases e : x = p
    · rw [e]; exact .inl upd_same
    · exact .inr (upd_ne e)
  refine ⟨⟨R.st H' _ g.1.1 (fun x hx => upd_ne fun z => hd.1 (by rw [← z]; exact hx)) fun x hx => by
      rcases some_ne x with q | q
      · rw [q]; exact fun z => nomatch z
      · rw [q]; exact R.at_ H' g.1.1 x (.inr hx), by rw [upd_same]; exact fun z => nomatch z⟩, fun x u e n m => ?_⟩
  have hx : x ≠ p := fun z => m (by rw [z]; exact List.mem_cons_self)
  rw [upd_ne hx]
  exact g.2 x u e n m
theorem add_new (j : R.J H) (hn : H p = none) : Gr (R.add p) H (upd H p o) := ⟨⟨(Gv.new j hn).1.1, by rw [upd_same]; exact fun z => nomatch z⟩, fun x u e _ _ => same_new hn x u e⟩
end
section
variable {R : Res} {H H' : Hp} {P : VP} {Ps Qs : List VP} {xs : List V} {v : V}
theorem psOk_snoc : ∀ {Ps : List VP} {xs : List V}, PsOk Ps xs H → P v H → PsOk (Ps ++ [P]) (xs ++ [v]) H := by
  intro Ps
  induction Ps with
  | nil => intro xs h hp; match xs, h with | [], _ => exact ⟨hp, True.intro⟩
  | cons A Ps ih => intro xs h hp; match xs, h with | x :: xs, ⟨h1, h2⟩ => exact ⟨h1, ih h2 hp⟩
theorem psOk_imp {f g : Nat → VP} {l : List Nat} (k : ∀ i, i ∈ l → ∀ v, f i v H → g i v H') : ∀ {xs : List V}, PsOk (l.map f) xs H → PsOk (l.map g) xs H' := by
  induction l with
  | nil => intro xs h; match xs, h with | [], _ => exact True.intro
  | cons i l ih => intro xs h; match xs, h with | x :: xs, ⟨h1, h2⟩ => exact ⟨k i List.mem_cons_self x h1, ih (fun j hj => k j (List.mem_cons_of_mem _ hj)) h2⟩
end
/-- a source of n turns -/
def EvW (R : Res) (wi : TI) (σ : L2.St) (H : Hp) (n : Nat) (Y : Nat → Hp → V → Hp → Prop) : Prop :=
  ∀ H1, Gr R H H1 → ∀ Z : It → Hp → Prop, (∀ J H2 G, Gv R H1 H2 → Walk J n G Y → Al R G H2 → Z J H2) → wi σ H1 Z
section
variable {K : PySem.W.Frag} {R : Res} {σ : L2.St} {H Hc : Hp} {tl te : TE} {tt : TT} {wi : TI} {g : TG} {xs : List V} {n : Nat} {Y : Nat → Hp → V → Hp → Prop} {vs : List Nat}
theorem ew_list (h : EvP R tl σ H (IsL K R xs)) : EvW R (iList K tl) σ H xs.length (YAt xs) := fun H1 a Z k => h H1 a _ fun v H2 a2 ⟨p, e, q⟩ => ⟨p, e, ⟨xs, q.now a2.1.1⟩, k _ H2 _ a2 walk_list q⟩
theorem ew_tup (h : EvP R tl σ H (IsU K R xs)) : EvW R (iTup K tl) σ H xs.length (YAt xs) := fun H1 a Z k => h H1 a _ fun v H2 a2 ⟨p, e, q⟩ => ⟨p, e, ⟨xs, q.now a2.1.1⟩, k _ H2 _ a2 walk_tup q⟩
theorem ew_str {z : Str} (h : EvP R tl σ H (Is (.str z))) : EvW R (iStr tl) σ H z.cps.size (fun i H v H' => H' = H ∧ ∃ c, z.cps[i]? = some c ∧ v = .str ⟨#[c]⟩) := fun H1 a Z k => h H1 a _ fun v H2 a2 e => ⟨z, e, k _ H2 _ a2 walk_str fun _ _ => True.intro⟩
theorem ew_range {ta : TA} {m : Int} (h : EvA R ta σ H [Is (.int m)]) (hm : 0 ≤ m ∧ m ≤ 100000) : EvW R (iRng1 ta) σ H m.toNat (YFn fun i => .int (i : Int)) := fun H1 a Z k => h H1 a _ fun vs H2 a2 ps => by
  have e := psOk1 ps
  refine ⟨m, e, by omega, by omega, k _ H2 _ a2 (walk_range.mono (fun _ _ => True.intro) fun i H x H' _ _ y => ?_) fun _ _ => True.intro⟩
  obtain ⟨y1, y2⟩ := y
  exact ⟨y1, y2.trans (congrArg V.int (Int.zero_add _))⟩
/-- what a comprehension gives -/
def gl (n : Nat) (f : Nat → Bool) (Pe : Nat → VP) : List VP := ((List.range n).filter f).map Pe
theorem gl_yes {f : Nat → Bool} {Pe : Nat → VP} (h : f n = true) : gl (n + 1) f Pe = gl n f Pe ++ [Pe n] := by
  unfold gl
  rw [List.range_succ, List.filter_append, List.map_append, List.filter_cons, if_pos h] <;> rfl
theorem gl_no {f : Nat → Bool} {Pe : Nat → VP} (h : f n = false) : gl (n + 1) f Pe = gl n f Pe := by
  unfold gl
  rw [List.range_succ, List.filter_append, List.map_append, List.filter_cons, if_neg (by rw [h]; decide), List.filter_nil, List.map_nil, List.append_nil]
theorem gl_len (f : Nat → Bool) (Pe : Nat → VP) : (gl n f Pe).length ≤ n := by
  unfold gl
  rw [List.length_map]
  exact Nat.le_trans (List.length_filter_le _ _) (Nat.le_of_eq (List.length_range))
/-- a list of one's own; the i-th is told by the i-th word -/
def LsOk (R : Res) (Ps : List VP) : VP := fun u H => ∃ p xs, u = .ref p ∧ H p = some (.lst xs) ∧ (p ∉ R.D ∧ p ∉ R.h) ∧ PsOk Ps xs H
theorem ev_lc {j : Nat} {Z : Nat → V → Prop} (Pe : Res → Nat → VP) (f : Nat → Bool) (hw : EvW R wi σ H n Y) (hn : n ≤ 1000) (hY : ∀ R' i H x H', Res.J R' H → i < n → Y i H x H' → Gv R' H H' ∧ Z i x)
    (hσ : ∀ x, wipe ((wipe σ vs).set j (some x)) vs = wipe σ vs) (st : ∀ R' i, Stb R' (Pe R' i)) (out : ∀ D i v H' xs, H' D = some (.lst xs) → (D ∉ R.D ∧ D ∉ R.h) → Pe (R.add D) i v H' → Pe R i v H')
    (he : ∀ D, H D = none → ∀ i x, i < n → Z i x → EvT (R.add D) tt ((wipe σ vs).set j (some x)) H (f i) ∧ (f i = true → EvP (R.add D) te ((wipe σ vs).set j (some x)) H (Pe (R.add D) i))) :
    EvP R (tLc wi (gName j) tt te vs) σ H (LsOk R (gl n f (Pe R))) := fun H0 a0 Q q => hw H0 a0 _ fun J H1 G a1 W hG => fun D hD => by
  have hd := off a1.1.1 hD
  have hD0 : H D = none := (a0.trans a1).back hD
  have ne : ∀ x, x ∈ R.h → x ≠ D := fun x hx z => hd.2 (by rw [← z]; exact hx)
  have base : ∀ {H2 : Hp}, Gr (R.add D) H1 H2 → Gr (R.add D) H H2 := fun {H2} g => ⟨g.1, fun x o e m k => g.2 x o ((a0.trans a1).2 x o e m fun z => k (List.mem_cons_of_mem _ z)) m k⟩
  refine lc_it W (fun i H' => (Gr (R.add D) H1 H' ∧ ∀ x, x ∈ R.h → H' x = H1 x) ∧ ∃ xs, H' D = some (.lst xs) ∧ PsOk (gl i f (Pe (R.add D))) xs H') ⟨⟨add_new a1.1.1 hD, fun x hx => upd_ne (ne x hx)⟩, [], upd_same, True.intro⟩ (fun i H' hi p => hG H' (add_into hD p.1.1)) (fun i x H2 H3 hi p y => ?_) fun H' p => ?_
  · obtain ⟨⟨g2, k2⟩, xs, hx, ps⟩ := p
    obtain ⟨g3, z⟩ := hY (R.add D) i H2 x H3 g2.1 hi y
    obtain ⟨et, ee⟩ := he D hD0 i x hi z
    refine ⟨hσ x, et H3 (base (g2.trans g3)) _ fun H4 g4 => ?_⟩
    have keep : ∀ {A B : Hp}, Gr (R.add D) A B → PsOk (gl i f (Pe (R.add D))) xs A → PsOk (gl i f (Pe (R.add D))) xs B := fun {A B} g h => psOk_imp (fun k _ v pv => st (R.add D) k v A B g pv) h
    have g24 := g3.trans g4
    have inh : ∀ x, x ∈ R.h → x ∈ (R.add D).h := fun x hx => List.mem_cons_of_mem _ hx
    have hD4 : H4 D = some (.lst xs) := (g24.2 D List.mem_cons_self).trans hx
    cases hf : f i with
    | false =>
      refine (if_neg Bool.false_ne_true).mpr ⟨⟨g2.trans g24, fun x hx => (g24.2 x (inh x hx)).trans (k2 x hx)⟩, xs, hD4, ?_⟩
      rw [gl_no hf]
      exact keep g24.1 ps
    | true =>
      refine (if_pos rfl).mpr (ee hf H4 (base (g2.trans g24)) _ fun v H5 g5 pv => ?_)
      have g25 := g24.trans g5
      have hD5 : H5 D = some (.lst xs) := (g25.2 D List.mem_cons_self).trans hx
      have ps5 := keep g25.1 ps
      have gm : Gr (R.add D) H5 (upd H5 D (.lst (xs ++ [v]))) := add_mut hd g5.at.1
      refine ⟨xs, hD5, ?_, ⟨(g2.trans g25).tr gm, fun x hx => (upd_ne (ne x hx)).trans ((g25.2 x (inh x hx)).trans (k2 x hx))⟩, _, upd_same, ?_⟩
      · have := psOk_len ps5
        have := gl_len (n := i) f (Pe (R.add D))
        exact small1000 (by omega)
      · rw [gl_yes hf]
        exact psOk_snoc (keep gm ps5) (st _ i v _ _ gm pv)
  · obtain ⟨⟨g2, k2⟩, xs, hx, ps⟩ := p
    have gr : Gv R H1 H' := ⟨add_into hD g2, k2⟩
    exact q _ _ (a1.trans gr) ⟨D, xs, rfl, hx, hd, psOk_imp (fun i _ v pv => out D i v H' xs hx hd pv) ps⟩
/-- .. of data -/
theorem ev_lcD {j : Nat} {Z : Nat → V → Prop} (d : Nat → PyData) (f : Nat → Bool) (hw : EvW R wi σ H n Y) (hn : n ≤ 1000) (hY : ∀ R' i H x H', Res.J R' H → i < n → Y i H x H' → Gv R' H H' ∧ Z i x)
    (hσ : ∀ x, wipe ((wipe σ vs).set j (some x)) vs = wipe σ vs)
    (he : ∀ D, H D = none → ∀ i x, i < n → Z i x → EvT (R.add D) tt ((wipe σ vs).set j (some x)) H (f i) ∧ (f i = true → EvP (R.add D) te ((wipe σ vs).set j (some x)) H (Rp K (R.add D) (d i)))) :
    EvP R (tLc wi (gName j) tt te vs) σ H (Rp K R (.list (((List.range n).filter f).map d))) :=
  ev_imp (ev_lc (fun R' i => Rp K R' (d i)) f hw hn hY hσ (fun _ _ => stb_rp) (fun D i v H' xs hx hd h => al_out hx hd h) he) fun v H' g p => by
    obtain ⟨a, xs, rfl, ha, hd, ps⟩ := p
    intro H2 g2
    have ps' : PsOk ((((List.range n).filter f).map d).map (Rp K R)) xs H' := by
      rw [List.map_map]
      exact ps
    exact .lst (.inl (.inl (g2.2 a _ ha hd.1 hd.2))) (dpAll_of ps' H2 g2)
/-- .. of flat things -/
theorem psIs {l : List V} : ∀ {xs : List V}, PsOk (l.map Is) xs H → xs = l := by
  induction l with
  | nil => intro xs h; match xs, h with | [], _ => rfl
  | cons a l ih => intro xs h; match xs, h with | x :: xs, ⟨h1, h2⟩ => rw [ih h2, show x = a from h1]
theorem ev_lcV {j : Nat} {Z : Nat → V → Prop} (d : Nat → V) (f : Nat → Bool) (hw : EvW R wi σ H n Y) (hn : n ≤ 1000) (hY : ∀ R' i H x H', Res.J R' H → i < n → Y i H x H' → Gv R' H H' ∧ Z i x)
    (hσ : ∀ x, wipe ((wipe σ vs).set j (some x)) vs = wipe σ vs)
    (he : ∀ D, H D = none → ∀ i x, i < n → Z i x → EvT (R.add D) tt ((wipe σ vs).set j (some x)) H (f i) ∧ (f i = true → EvP (R.add D) te ((wipe σ vs).set j (some x)) H (Is (d i)))) :
    EvP R (tLc wi (gName j) tt te vs) σ H (fun u H => ∃ p, u = .ref p ∧ H p = some (.lst (((List.range n).filter f).map d)) ∧ (p ∉ R.D ∧ p ∉ R.h)) :=
  ev_imp (ev_lc (fun R' i => Is (d i)) f hw hn hY hσ (fun _ _ => stb_is) (fun D i v H' xs hx hd h => h) he) fun v H' g p => by
    obtain ⟨a, xs, rfl, ha, hd, ps⟩ := p
    have ps' : PsOk ((((List.range n).filter f).map d).map Is) xs H' := by
      rw [List.map_map]
      exact ps
    rw [psIs ps'] at ha
    exact ⟨a, rfl, ha, hd⟩
theorem isL_of {p : Addr} (h : H p = some (.lst xs)) (hd : p ∉ R.D ∧ p ∉ R.h) : IsL K R xs (.ref p) H := ⟨p, rfl, fun H' g => .inl (.inl (g.2 p _ h hd.1 hd.2))⟩
theorem isU_of {p : Addr} (h : H p = some (.tup xs)) (hd : p ∉ R.D ∧ p ∉ R.h) : IsU K R xs (.ref p) H := ⟨p, rfl, fun H' g => .inl (.inl (g.2 p _ h hd.1 hd.2))⟩
theorem yAt_ok : ∀ (R' : Res) i (H : Hp) x H', R'.J H → i < n → YAt xs i H x H' → Gv R' H H' ∧ xs[i]? = some x := fun R' i H x H' j _ y => ⟨by rw [y.1]; exact Gv.refl j, y.2⟩
theorem yFn_ok {f : Nat → V} : ∀ (R' : Res) i (H : Hp) x H', R'.J H → i < n → YFn f i H x H' → Gv R' H H' ∧ x = f i := fun R' i H x H' j _ y => ⟨by rw [y.1]; exact Gv.refl j, y.2⟩
theorem yStr_ok {z : Str} : ∀ (R' : Res) i (H : Hp) v H', R'.J H → i < n → (H' = H ∧ ∃ c, z.cps[i]? = some c ∧ v = .str ⟨#[c]⟩) → Gv R' H H' ∧ ∃ c, z.cps[i]? = some c ∧ v = V.str ⟨#[c]⟩ := fun R' i H x H' j _ y => ⟨by rw [y.1]; exact Gv.refl j, y.2⟩
theorem et_yes {H : Hp} {σ : L2.St} : EvT R tYes σ H true := fun H1 g Q q => q H1 g.at
/-- a for -/
theorem s_for {tb : TS} {D : Ends} {g : TG} (hw : EvW R wi σ H n Y) (gc : Gr R H Hc)
    (k : ∀ H1, Gr R H H1 → Gv R Hc H1 → ∃ Pv : Nat → L2.St → Hp → Prop, Pv 0 σ H1 ∧ (∀ i σ' H', i ≤ n → Pv i σ' H' → Gr R H1 H') ∧
      (∀ i x σ' H' H2, i < n → Pv i σ' H' → Y i H' x H2 → g x σ' H2 fun σ2 H3 => tb { D with nx := Pv (i + 1), ct := Pv (i + 1), bk := D.nx } σ2 H3) ∧ ∀ σ' H', Pv n σ' H' → D.nx σ' H') :
    tFor wi g tb D σ Hc := hw Hc gc _ fun J H1 G a1 W hG => by
  obtain ⟨Pv, h0, h1, h2, h3⟩ := k H1 (gc.trans a1) a1
  exact for_it W Pv h0 (fun i σ' H' hi p => hG H' (h1 i σ' H' hi p)) h2 h3
end
end Fk

/-! Forkpolls: defs and classes by their names. -/
namespace Fk
open PySem PySem.Spec PyProof.Rows L2
/-- the def x holds sp -/
def CalX (P : Program) (w : World) (K : PySem.W.Frag) (mg : Str → Option Value) (base : Heap) (CX : CXT) (k : Nat) (x : Str) (sp : Sp) : Prop :=
  ∃ (f : Addr) (fd : FuncData) (ps : List Str), FnOk P w K mg base CX k f fd ps sp ∧ mg x = some (.ref f) ∧ PySem.W.keepIn K (.ref f) = true ∧ Binds K fd ps []
/-- the class x makes an instance of the class at C by an __init__ that holds sp -/
def MakX (P : Program) (w : World) (K : PySem.W.Frag) (mg : Str → Option Value) (base : Heap) (CX : CXT) (k : Nat) (x : Str) (C : Addr) (sp : Sp) : Prop :=
  ∃ (f : Addr) (fd : FuncData) (ps : List Str), FnOk P w K mg base CX k f fd ps sp ∧ mg x = some (.ref C) ∧ Mk K C f ∧ Binds K fd ps []
section
variable {P : Program} {w : World} {K : PySem.W.Frag} {mg : Str → Option Value} {base : Heap} {CX : CXT} {k j : Nat} {x qual : Str} {st : Stmt} {f : Addr} {ps : List Str} {sp : Sp}
theorem cal_of (d : mg x = some (.ref f) ∧ ∃ fd, Fun K x qual st f fd) (ok : ∀ fd, Fun K x qual st f fd → FnOk P w K mg base CX k f fd ps sp)
    (b : ∀ (kV doc pm : Value) (an : Option Addr) (cdv ct : Value) (us : List Value), us.length = ps.length → bindArgs (PySem.W.fnOf x qual (defArgs st) (defBody st) (defScope st) .none kV doc pm an cdv ct) ⟨us, []⟩ = pure (ps.zip us)) : CalX P w K mg base CX k x sp := by
  obtain ⟨g, fd, F⟩ := d
  exact ⟨f, fd, ps, ok fd F, g, F.kp, F.binds b⟩
theorem mak_of {C : Addr} {m : Str} (g : mg x = some (.ref C)) (M : Mk K C f) (d : ∃ fd, Fun K m qual st f fd) (ok : ∀ fd, Fun K m qual st f fd → FnOk P w K mg base CX k f fd ps sp)
    (b : ∀ (kV doc pm : Value) (an : Option Addr) (cdv ct : Value) (us : List Value), us.length = ps.length → bindArgs (PySem.W.fnOf m qual (defArgs st) (defBody st) (defScope st) .none kV doc pm an cdv ct) ⟨us, []⟩ = pure (ps.zip us)) : MakX P w K mg base CX k x C sp := by
  obtain ⟨fd, F⟩ := d
  exact ⟨f, fd, ps, ok fd F, g, M, F.binds b⟩
end
section
variable {X : Cx} {CX : CXT} {k j : Nat} {x : Str} {C : Addr} {sp : Sp} {E : XK} {p pos : Pos} {e : Expr} {es : List Expr} {t : TA}
theorem pe_cal (c : CalX X.prog X.w X.K X.mg X.base CX k x sp) (hr : Room j X.A) (hk : k ≤ j) (hx : Passes CX X E) (ha : PA X (e :: es) t) (hg : Gl X x := by rfl) (hdb : (x == ("__debug__" : Str)) = false := by decide)
    (he : starEach (e :: es) X.env = (false, eval e X.env) :: starEach es X.env := by rfl) (hpl : (backTo pos (starEach es X.env)).any (·.1) = false := by rfl) : PE X (.Call (.Name x p) (e :: es) [] pos) (tCall sp [] E t) := by
  obtain ⟨f, fd, ps, F, g, kp, b⟩ := c
  exact pe_call F (hr.mono hk) hg g kp b .nil hx ha hdb he hpl
theorem pe_cal0 (c : CalX X.prog X.w X.K X.mg X.base CX k x sp) (hr : Room j X.A) (hk : k ≤ j) (hx : Passes CX X E) (hg : Gl X x := by rfl) (hdb : (x == ("__debug__" : Str)) = false := by decide) : PE X (.Call (.Name x p) [] [] pos) (tCall sp [] E tNil) := by
  obtain ⟨f, fd, ps, F, g, kp, b⟩ := c
  exact pe_call0 F (hr.mono hk) hg g kp b .nil hx hdb
theorem pe_mkc (c : MakX X.prog X.w X.K X.mg X.base CX k x C sp) (hr : Room j X.A) (hk : k + 1 ≤ j) (hx : Passes CX X E) (ha : PA X (e :: es) t) (hg : Gl X x := by rfl) (hdb : (x == ("__debug__" : Str)) = false := by decide)
    (he : starEach (e :: es) X.env = (false, eval e X.env) :: starEach es X.env := by rfl) (hpl : (backTo pos (starEach es X.env)).any (·.1) = false := by rfl) : PE X (.Call (.Name x p) (e :: es) [] pos) (tMake C sp [] E t) := by
  obtain ⟨f, fd, ps, F, g, M, b⟩ := c
  exact pe_make M F (hr.mono hk) hg g b .nil hx ha hdb he hpl
end
/-- an own class whose instances are plain -/
structure OwnC (K : PySem.W.Frag) (C : Addr) : Prop where
  pg : PySem.W.plainGet K C Str.empty = true
  hd : PySem.W.hasDictIn K C = true
  po : PySem.W.plainOver K C = true
  sa : PySem.W.findIn K (.ref C) "__setattr__" = some (some (.builtin "object.__setattr__"))
  ma : PySem.W.makesIn K C = true
  kp : PySem.W.keepIn K (.ref C) = true
  ha : PySem.W.findIn K (.ref C) "__class__" = some (some (.builtin "object.__class__"))
  ne : PySem.W.findIn K (.ref C) "__ne__" = some (some (.builtin "object.__ne__"))
  mo : PySem.W.mroIn K C (.type "object") = some true
  ic : PySem.W.isClsIn K C = true
  ty : PySem.W.typeIn K (.ref C) = some (.type "type")
  me : PySem.W.subIn K (.ref C) (.ref C) = some true
/-- of the classes' own descriptor -/
structure ObjC (K : PySem.W.Frag) : Prop where
  gt : PySem.W.specialIn K (.builtin "object.__class__") "__get__" = some (some (.builtin "getset_descriptor.__get__"))
  tk : PySem.W.takesIn K (.builtin "object.__class__") = some true
section
variable {K : PySem.W.Frag} {C D : Addr} {t : Value} {b : Bool} {H : Hp}
theorem OwnC.cls (c : OwnC K C) : Cls K C := ⟨c.pg, c.hd, c.po, c.sa⟩
theorem OwnC.typ (c : OwnC K C) (o : ObjC K) {a dx : Addr} {fs : List (Str × V)} (e : H a = some (.ins C dx fs)) : TyX K H (.ref a) (.ref C) := .base (.ins e c.cls c.ha o.gt o.tk c.mo)
/-- isinstance(.., C): the answer -/
theorem OwnC.kit (c : OwnC K C) (h : PySem.W.subIn K t (.ref C) = some b) : PySem.W.kitOne K t (.ref C) = some b := by
  unfold PySem.W.kitOne
  by_cases e : (t == Value.ref C) = true
  · rw [if_pos e]
    have e' : t = .ref C := beq_iff_eq.mp e
    subst e'
    rw [c.me] at h
    exact h
  · rw [if_neg e]
    have z : ((PySem.W.clsIn K C).isSome && PySem.W.typeIn K (.ref C) == some (.type "type")) = true := by
      have z1 : (PySem.W.clsIn K C).isSome = true := c.ic
      rw [z1, c.ty]
      rfl
    show (if ((PySem.W.clsIn K C).isSome && PySem.W.typeIn K (.ref C) == some (.type "type")) = true then PySem.W.subIn K t (.ref C) else none) = some b
    rw [if_pos z]
    exact h
/-- isinstance(an instance, a built-in class) -/
theorem kit_ownB {T : String} (hm : PySem.W.kitMeta T = true) (h : PySem.W.subIn K (.ref C) (.type T) = some b) : PySem.W.kitOne K (.ref C) (.type T) = some b := by
  unfold PySem.W.kitOne
  rw [if_neg (by simp)]
  show (if PySem.W.kitMeta T = true then PySem.W.subIn K (.ref C) (.type T) else none) = some b
  rw [if_pos hm]
  exact h
theorem notFirst_of (h : PySem.W.subIn K t (.ref C) = some false) : PySem.W.notFirst K C t = true := by
  unfold PySem.W.notFirst
  rw [h]
  simp
theorem notFirst_me : PySem.W.notFirst K C (.ref C) = true := by
  unfold PySem.W.notFirst
  simp
end
/-! ### flat values -/
def isI : V → Bool
  | .int _ => true
  | _ => false
def isB : V → Bool
  | .bl _ => true
  | _ => false
def isS : V → Bool
  | .str _ => true
  | _ => false
def tyN : V → String
  | .bl _ => "bool"
  | .int _ => "int"
  | .str _ => "str"
  | _ => "NoneType"
section
variable {K : PySem.W.Frag} {H : Hp} {v : V}
theorem ty_flat (h : flatV v = true) : TyX K H v (.type (tyN v)) := by
  cases v with
  | non => exact .base .non
  | bl b => exact .base (.bl b)
  | int i => exact .base (.int i)
  | str z => exact .base (.str z)
  | _ => exact absurd h Bool.false_ne_true
theorem kit_int (h : flatV v = true) : PySem.W.kitOne K (.type (tyN v)) (.type "int") = some (isI v || isB v) := by
  cases v with
  | non => exact kit_ty (show kitB "NoneType" "int" = some false by decide +kernel)
  | bl b => exact kit_ty (show kitB "bool" "int" = some true by decide +kernel)
  | int i => exact kit_ty (show kitB "int" "int" = some true by decide +kernel)
  | str z => exact kit_ty (show kitB "str" "int" = some false by decide +kernel)
  | _ => exact absurd h Bool.false_ne_true
theorem kit_bool (h : flatV v = true) : PySem.W.kitOne K (.type (tyN v)) (.type "bool") = some (isB v) := by
  cases v with
  | non => exact kit_ty (show kitB "NoneType" "bool" = some false by decide +kernel)
  | bl b => exact kit_ty (show kitB "bool" "bool" = some true by decide +kernel)
  | int i => exact kit_ty (show kitB "int" "bool" = some false by decide +kernel)
  | str z => exact kit_ty (show kitB "str" "bool" = some false by decide +kernel)
  | _ => exact absurd h Bool.false_ne_true
theorem kit_str (h : flatV v = true) : PySem.W.kitOne K (.type (tyN v)) (.type "str") = some (isS v) := by
  cases v with
  | non => exact kit_ty (show kitB "NoneType" "str" = some false by decide +kernel)
  | bl b => exact kit_ty (show kitB "bool" "str" = some false by decide +kernel)
  | int i => exact kit_ty (show kitB "int" "str" = some false by decide +kernel)
  | str z => exact kit_ty (show kitB "str" "str" = some true by decide +kernel)
  | _ => exact absurd h Bool.false_ne_true
end
/-! ### texts -/
def sp1 : Str := " "
def letters (z : Str) : Bool := z.cps.toList.all fun c => decide (97 ≤ c) && decide (c ≤ 122)
def keyws : List V := [.str "any", .str "by", .str "one", .str "same", .str "to"]
def nameS (z : Str) : Bool := !inV (.str z) keyws && (decide (1 ≤ z.length) && decide (z.length ≤ 4) && letters z)
def nameV : V → Bool
  | .str z => nameS z
  | _ => false

section
variable {K : PySem.W.Frag} {R : Res} {σ : L2.St} {H : Hp} {ta tb te : TE} {z y : Str}
theorem ev_lenS (ha : EvP R ta σ H (Is (.str z))) (hz : z.length ≤ 100000) : EvP R (tCB (fun xs H Q => ∃ z : Str, xs = [.str z] ∧ z.length ≤ sizeLine ∧ Q (.int z.length) H) (tCons ta tNil)) σ H (Is (.int z.length)) := ev_cb (ea_is ha ea_nil) fun vs H1 g ps Q q => by
  cases psOk1 ps
  exact ⟨z, rfl, Nat.le_trans hz (by decide), q _ H1 g.at rfl⟩
/-- len of a list or tuple -/
theorem ev_len {xs : List V} (ha : EvP R ta σ H (fun u H => ∃ p, u = .ref p ∧ (SqL K H p xs ∨ SqT K H p xs))) : EvP R (tCB (fun vs H Q => ∃ p ys, vs = [.ref p] ∧ (SqL K H p ys ∨ SqT K H p ys) ∧ Q (.int ys.length) H) (tCons ta tNil)) σ H (Is (.int (xs.length : Int))) := fun H1 g Q q =>
  ha H1 g _ fun v H2 g2 ⟨p, e, h⟩ => ⟨p, xs, by rw [e], h, q _ H2 g2 rfl⟩
theorem ev_all {bs : List Bool} (ha : EvP R ta σ H (fun u H => ∃ p, u = .ref p ∧ SqL K H p (bs.map V.bl))) : EvP R (tCB (rAll K) (tCons ta tNil)) σ H (Is (.bl (bs.all id))) := fun H1 g Q q =>
  ha H1 g _ fun v H2 g2 ⟨p, e, h⟩ => ⟨p, bs, by rw [e], h, q _ H2 g2 rfl⟩
theorem rv_le {a b : Str} (j : R.J H) : RvP R (fun x y H Q => ∃ i j : Str, x = .str i ∧ y = .str j ∧ Q (.bl (!decide (j.cps.toList < i.cps.toList))) H) (.str a) (.str b) H (Is (.bl (!decide (b.cps.toList < a.cps.toList)))) := fun Q q => ⟨a, b, rfl, rfl, q _ H (Gv.refl j) rfl⟩
theorem filter_yes (n : Nat) : (List.range n).filter (fun _ => true) = List.range n := List.filter_eq_self.mpr fun _ _ => rfl
theorem lt_one (a b : Nat) : decide (([a] : List Nat) < [b]) = decide (a < b) := by
  rw [Bool.eq_iff_iff, decide_eq_true_iff, decide_eq_true_iff, List.cons_lt_cons_iff]
  constructor
  · rintro (h | ⟨_, h⟩)
    · exact h
    · exact absurd h (List.not_lt_nil _)
  · exact Or.inl
theorem az_lo (c : Nat) : (!decide ((⟨#[c]⟩ : Str).cps.toList < ("a" : Str).cps.toList)) = decide (97 ≤ c) := by
  show (!decide ([c] < [97])) = decide (97 ≤ c)
  rw [lt_one]
  by_cases h : 97 ≤ c
  · rw [decide_eq_true h, decide_eq_false (by omega)]; rfl
  · rw [decide_eq_false h, decide_eq_true (by omega)]; rfl
theorem az_hi (c : Nat) : (!decide (("z" : Str).cps.toList < (⟨#[c]⟩ : Str).cps.toList)) = decide (c ≤ 122) := by
  show (!decide ([122] < [c])) = decide (c ≤ 122)
  rw [lt_one]
  by_cases h : c ≤ 122
  · rw [decide_eq_true h, decide_eq_false (by omega)]; rfl
  · rw [decide_eq_false h, decide_eq_true (by omega)]; rfl
theorem letters_is (z : Str) : letters z = ((List.range z.cps.size).map fun i => (decide (97 ≤ z.cps.getD i 0) && decide (z.cps.getD i 0 ≤ 122))).all id := by
  unfold letters
  rw [List.all_map, Bool.eq_iff_iff, List.all_eq_true, List.all_eq_true]
  constructor
  · intro h i hi
    have hi' : i < z.cps.size := List.mem_range.mp hi
    have := h z.cps[i] (by simp)
    simpa [Array.getD, hi'] using this
  · intro h c hc
    obtain ⟨i, hi, rfl⟩ := List.getElem_of_mem hc
    have hi' : i < z.cps.size := by simpa using hi
    have := h i (List.mem_range.mpr hi')
    simpa [Array.getD, hi'] using this
theorem ev_chainI {tc : TE} {p q : Int → Int → Bool} {i j k : Int} (ha : EvP R ta σ H (Is (.int i))) (hb : EvP R tb σ H (Is (.int j))) (hc : EvP R tc σ H (Is (.int k))) :
    EvP R (tChain (rI0 fun i j => .bl (p i j)) (rI0 fun i j => .bl (q i j)) ta tb tc) σ H (Is (.bl (p i j && q j k))) := ev_chain ha hb hc (fun H1 g => rv_i0 g.1) (fun H1 g => rv_i0 g.1)
/-- a tuple, a list of flat things, new -/
theorem ev_tupV {t : TA} {vs : List V} (h : EvA R t σ H (vs.map Is)) (hl : vs.length ≤ 1000) : EvP R (tTup t) σ H (fun u H => ∃ p, u = .ref p ∧ H p = some (.tup vs) ∧ (p ∉ R.D ∧ p ∉ R.h)) := fun H1 g Q q =>
  h H1 g _ fun xs H2 g2 ps => by
    cases psIs ps
    exact ⟨small hl, fun p hp => q _ _ (g2.trans (Gv.new g2.1.1 hp)) ⟨p, rfl, upd_same, off g2.1.1 hp⟩⟩
theorem ev_lstV {t : TA} {vs : List V} (h : EvA R t σ H (vs.map Is)) (hl : vs.length ≤ 1000) : EvP R (tLst t) σ H (fun u H => ∃ p, u = .ref p ∧ H p = some (.lst vs) ∧ (p ∉ R.D ∧ p ∉ R.h)) := fun H1 g Q q =>
  h H1 g _ fun xs H2 g2 ps => by
    cases psIs ps
    exact ⟨small hl, fun p hp => q _ _ (g2.trans (Gv.new g2.1.1 hp)) ⟨p, rfl, upd_same, off g2.1.1 hp⟩⟩
theorem ev_strI {i : Int} (ha : EvP R ta σ H (Is (.int i))) (hz : i.natAbs.log2 < 1920) : EvP R (tCB (fun xs H Q => ∃ i, xs = [.int i] ∧ i.natAbs.log2 < 1920 ∧ Q (.str (toString i)) H) (tCons ta tNil)) σ H (Is (.str (toString i))) := ev_cb (ea_is ha ea_nil) fun vs H1 g ps Q q => by
  cases psOk1 ps
  exact ⟨i, rfl, hz, q _ H1 g.at rfl⟩
end
/-! ### data stand while their objects stand -/
section
variable {K : PySem.W.Frag} {H H' : Hp}
mutual
theorem dp_same (e : Same H H') : ∀ (d : PyData) (v : V), Dp K H v d → Dp K H' v d
  | .none, _, h => by cases h; exact .non
  | .bool b, _, h => by cases h; exact .bl b
  | .int i, _, h => by cases h; exact .int i
  | .str z, _, h => by cases h; exact .str z
  | .list ds, _, h => by
    cases h with
    | lst h1 h2 => exact .lst (SqL.ext h1 e) (dpAll_same e ds _ h2)
  | .tuple ds, _, h => by
    cases h with
    | tup h1 h2 => exact .tup (SqT.ext h1 e) (dpAll_same e ds _ h2)
  | .dict _, _, h => by cases h
theorem dpAll_same (e : Same H H') : ∀ (ds : List PyData) (vs : List V), DpAll K H vs ds → DpAll K H' vs ds
  | [], _, h => by cases h; exact .nil
  | d :: ds, _, h => by
    cases h with
    | cons h1 h2 => exact .cons (dp_same e d _ h1) (dpAll_same e ds _ h2)
end
theorem rp_free {v : V} {d : PyData} (h : Dp K H v d) : Rp K Free d v H := fun H' g => dp_same g.free d v h
theorem dpAll_get {ds : List PyData} : ∀ {xs : List V} {i : Nat} {x : V}, DpAll K H xs ds → xs[i]? = some x → ∃ d, ds[i]? = some d ∧ Dp K H x d := by
  induction ds with
  | nil => intro xs i x h e; cases h; simp at e
  | cons d ds ih =>
    intro xs i x h e
    cases h with
    | cons h1 h2 =>
      cases i with
      | zero => simp at e; subst e; exact ⟨d, rfl, h1⟩
      | succ i => exact ih h2 (by simpa using e)
theorem dp_tup {v : V} {ds : List PyData} (h : Dp K H v (.tuple ds)) : ∃ a xs, v = .ref a ∧ SqT K H a xs ∧ DpAll K H xs ds := by
  cases h with
  | tup h1 h2 => exact ⟨_, _, rfl, h1, h2⟩
theorem dp_lst {v : V} {ds : List PyData} (h : Dp K H v (.list ds)) : ∃ a xs, v = .ref a ∧ SqL K H a xs ∧ DpAll K H xs ds := by
  cases h with
  | lst h1 h2 => exact ⟨_, _, rfl, h1, h2⟩
theorem dp_str {v : V} {z : Str} (h : Dp K H v (.str z)) : v = .str z := by cases h; rfl
theorem dp_int {v : V} {i : Int} (h : Dp K H v (.int i)) : v = .int i := by cases h; rfl
theorem dp_bool {v : V} {b : Bool} (h : Dp K H v (.bool b)) : v = .bl b := by cases h; rfl
theorem al_free {φ : Hp → Prop} (h : ∀ H', Same H H' → φ H') : Al Free φ H := fun H' g => h H' g.free
end
end Fk

/-! Forkpolls: what rows are. -/
namespace Fk
open PySem PySem.Spec PyProof.Rows L2
inductive RowD where
  | step (kind old then_ : Str) (add : Int)
  | join (here there then_ : Str) (add : Int)
  | part (old left right : Str) (add more : Int)
def numS (i : Int) : Str := (toString i : String)
def RowD.words : RowD → List Str
  | .step k o t a => [k, o, "to", t, "by", numS a]
  | .join h o t a => ["join", h, o, "to", t, "by", numS a]
  | .part o l r a m => ["part", o, "to", l, r, "by", numS a, numS m]
def RowD.text (r : RowD) : Str := Txt.join " " r.words
def RowD.flds (t : Addr) : RowD → List (Str × V)
  | .step k o n a => [("words", .ref t), ("kind", .str k), ("old", .str o), ("then", .str n), ("add", .int a)]
  | .join h o n a => [("words", .ref t), ("here", .str h), ("there", .str o), ("then", .str n), ("add", .int a)]
  | .part o l r a m => [("words", .ref t), ("old", .str o), ("left", .str l), ("right", .str r), ("add", .int a), ("more", .int m)]
def kindsV : List V := [.str "yes", .str "no", .str "late yes", .str "late no", .str "word", .str "strike", .str "back", .str "cut"]
def nameOr (z : Str) (ws : List V) : Bool := nameS z || inV (.str z) ws
def addOk (i : Int) : Bool := decide (-3 ≤ i) && decide (i ≤ 3)
def RowD.ok : RowD → Bool
  | .step k o t a => inV (.str k) kindsV && nameOr o [.str "any"] && nameOr t [.str "same"] && addOk a
  | .join h o t a => nameOr h [.str "any"] && nameOr o [.str "any"] && nameOr t [.str "one", .str "other"] && addOk a
  | .part o l r a m => nameOr o [.str "any"] && nameOr l [.str "same"] && nameOr r [.str "same"] && addOk a && addOk m
/-- texts of its parts are short -/
def RowD.small : RowD → Prop
  | .step k o t _ => k.length ≤ 1000 ∧ o.length ≤ 1000 ∧ t.length ≤ 1000
  | .join h o t _ => h.length ≤ 1000 ∧ o.length ≤ 1000 ∧ t.length ≤ 1000
  | .part o l r _ _ => o.length ≤ 1000 ∧ l.length ≤ 1000 ∧ r.length ≤ 1000
section
variable {K : PySem.W.Frag} {R : Res} {σ : L2.St} {H : Hp} {ta tb te : TE}
theorem ev_tupU {t : TA} {vs : List V} (h : EvA R t σ H (vs.map Is)) (hl : vs.length ≤ 1000) : EvP R (tTup t) σ H (IsU K R vs) := ev_imp (ev_tupV h hl) fun u H' _ ⟨p, e, hp, hd⟩ => e ▸ isU_of hp hd
theorem add_log {a : Int} (h : addOk a = true) : a.natAbs.log2 < 1920 := by
  obtain ⟨h1, h2⟩ := Bool.and_eq_true_iff.mp h
  have h1' : -3 ≤ a := of_decide_eq_true h1
  have h2' : a ≤ 3 := of_decide_eq_true h2
  have : a.natAbs ≤ 3 := by omega
  have h3 : a.natAbs.log2 ≤ 3 := Nat.le_trans (Nat.log2_le_self _) this
  omega
theorem psOk_2 {x : V} {P : VP} {vs : List V} (h : PsOk [Is x, P] vs H) : ∃ v, vs = [x, v] ∧ P v H := by
  match vs, h with
  | [a, b], ⟨e1, e2, _⟩ => cases e1; exact ⟨b, rfl, e2⟩
/-- a new tuple of these -/
def TupN (R : Res) (vs : List V) : VP := fun u H => ∃ p, u = .ref p ∧ H p = some (.tup vs) ∧ (p ∉ R.D ∧ p ∉ R.h)
theorem stb_tupN {vs : List V} : Stb R (TupN R vs) := fun _ _ _ g ⟨p, e, h, hd⟩ => ⟨p, e, g.2 p _ h hd.1 hd.2, hd⟩
theorem ev_tupN {t : TA} {vs : List V} (h : EvA R t σ H (vs.map Is)) (hl : vs.length ≤ 1000) : EvP R (tTup t) σ H (TupN R vs) := ev_tupV h hl
/-- a new tuple of these, new at H0, too -/
def TupW (R : Res) (H0 : Hp) (vs : List V) : VP := fun u H => ∃ p, u = .ref p ∧ H p = some (.tup vs) ∧ (p ∉ R.D ∧ p ∉ R.h) ∧ H0 p = none
theorem stb_tupW {H0 : Hp} {vs : List V} : Stb R (TupW R H0 vs) := fun _ _ _ g ⟨p, e, h, hd, hn⟩ => ⟨p, e, g.2 p _ h hd.1 hd.2, hd, hn⟩
theorem ev_tupW {t : TA} {vs : List V} (h : EvA R t σ H (vs.map Is)) (hl : vs.length ≤ 1000) : EvP R (tTup t) σ H (TupW R H vs) := fun H1 g Q q =>
  h H1 g _ fun xs H2 g2 ps => by
    cases psIs ps
    exact ⟨small hl, fun p hp => q _ _ (g2.trans (Gv.new g2.1.1 hp)) ⟨p, rfl, upd_same, off g2.1.1 hp, (g.trans g2).back hp⟩⟩
theorem s_off {t : TA} {C : Addr} {sp : Sp} {E : XK} {D : Ends} {Ps : List VP} {Hc : Hp} (h : EvA R t σ H Ps) (g : Gr R H Hc) (k : ∀ vs H2, Gr R H H2 → Gv R Hc H2 → PsOk Ps vs H2 → sp vs H2 (fun _ H3 => D.nx σ H3) E) : tDrop (tOff C sp E (tC (.ref C)) t) D σ Hc :=
  ⟨rfl, h Hc g _ fun vs H2 g2 ps => k vs H2 (g.trans g2) g2 ps⟩
/-- self.f = a slot's value -/
theorem s_fld {D : Ends} {i : Nat} {f : Str} {a C dx : Addr} {fs : List (Str × V)} {v : V} (h0 : σ[0]? = some (some (.ref a))) (hi : σ[i]? = some (some v)) (ha : H a = some (.ins C dx fs)) (hc : Cls K C) (hn : NoAttr K C f) (hl : fs.length < 1000) (k : D.nx σ (upd H a (.ins C dx (putF f v fs)))) :
    sFld K (tVar 0) (tVar i) f D σ H := ⟨v, hi, .ref a, h0, a, C, dx, fs, rfl, ha, hc, hn, hl, k⟩
theorem ev_fld {a C dx : Addr} {fs : List (Str × V)} {v : V} {f : Str} (h : EvP R te σ H (Is (.ref a))) (ha : Al R (fun H' => H' a = some (.ins C dx fs)) H) (hc : Cls K C) (hn : NoAttr K C f) (hl : fs.lookup f = some v) : EvP R (tFld K te f) σ H (Is v) := fun H1 g Q q =>
  h H1 g _ fun u H2 g2 e => ⟨a, C, dx, fs, v, e, ha H2 (g.trans g2), hc, hn, hl, q v H2 g2 rfl⟩
abbrev rJoin (K : PySem.W.Frag) : V → List V → Hp → VK → Prop := fun x xs H Q => ∃ a p, ∃ ys : List Str, x = .str a ∧ xs = [.ref p] ∧ (SqL K H p (ys.map V.str) ∨ SqT K H p (ys.map V.str)) ∧ (ys.map (·.length)).sum + ys.length * a.length ≤ 16777216 ∧ Q (.str (Txt.join a ys)) H
theorem ev_join {z : Str} {ys : List Str} (ho : EvP R te σ H (Is (.str z))) (h : EvP R ta σ H (fun u H => ∃ p, u = .ref p ∧ (SqL K H p (ys.map V.str) ∨ SqT K H p (ys.map V.str)))) (hz : (ys.map (·.length)).sum + ys.length * z.length ≤ 16777216) :
    EvP R (tBM K "str" (rJoin K) te (tCons ta tNil)) σ H (Is (.str (Txt.join z ys))) := fun H1 g Q q =>
  ho H1 g _ fun x H2 g2 e => by
    cases e
    exact ⟨rfl, h H2 (g.trans g2) _ fun u H3 g3 ⟨p, e, hp⟩ => ⟨z, p, ys, rfl, by rw [e], hp, hz, q _ H3 (g2.trans g3) rfl⟩⟩
theorem dec_str' {a b : Str} : decide (V.str a = V.str b) = decide (a = b) := by
  by_cases h : a = b
  · subst h; simp
  · rw [decide_eq_false h, decide_eq_false (fun e => h (V.str.inj e))]
/-- a row as it may be made -/
def RowD.good (r : RowD) : Prop := r.ok = true ∧ r.small
theorem numS_len {a : Int} (h : addOk a = true) : (numS a).length ≤ 2 := by
  obtain ⟨h1, h2⟩ := Bool.and_eq_true_iff.mp h
  have h1' : -3 ≤ a := of_decide_eq_true h1
  have h2' : a ≤ 3 := of_decide_eq_true h2
  have : a = -3 ∨ a = -2 ∨ a = -1 ∨ a = 0 ∨ a = 1 ∨ a = 2 ∨ a = 3 := by omega
  rcases this with rfl | rfl | rfl | rfl | rfl | rfl | rfl <;> decide +kernel
theorem words_fit {r : RowD} (h : r.good) : (r.words.map (·.length)).sum + r.words.length * (" " : Str).length ≤ 16777216 := by
  obtain ⟨ok, sm⟩ := h
  have l1 : ("to" : Str).length = 2 := rfl
  have l2 : ("by" : Str).length = 2 := rfl
  have l3 : ("join" : Str).length = 4 := rfl
  have l4 : ("part" : Str).length = 4 := rfl
  have l5 : (" " : Str).length = 1 := rfl
  cases r with
  | step k o t a =>
    have la := numS_len (Bool.and_eq_true_iff.mp ok).2
    obtain ⟨s1, s2, s3⟩ := sm
    simp only [RowD.words, List.map_cons, List.map_nil, List.sum_cons, List.sum_nil, List.length_cons, List.length_nil, l1, l2, l5]
    omega
  | join k o t a =>
    have la := numS_len (Bool.and_eq_true_iff.mp ok).2
    obtain ⟨s1, s2, s3⟩ := sm
    simp only [RowD.words, List.map_cons, List.map_nil, List.sum_cons, List.sum_nil, List.length_cons, List.length_nil, l1, l2, l3, l5]
    omega
  | part o l r a m =>
    obtain ⟨ok2, okm⟩ := Bool.and_eq_true_iff.mp ok
    have la := numS_len (Bool.and_eq_true_iff.mp ok2).2
    have lm := numS_len okm
    obtain ⟨s1, s2, s3⟩ := sm
    simp only [RowD.words, List.map_cons, List.map_nil, List.sum_cons, List.sum_nil, List.length_cons, List.length_nil, l1, l2, l4, l5]
    omega
end
end Fk

/-! Forkpolls: the source of draws, a list [cells, number] that changes at each draw. -/
namespace Fk
open PySem PySem.Spec PyProof.Rows L2
/-- the list at a holds the list at b and a number -/
def DealAt (a b : Addr) (cs : List Int) (m : Int) (H : Hp) : Prop := H a = some (.lst [.ref b, .int m]) ∧ H b = some (.lst (cs.map V.int)) ∧ (∀ c, c ∈ cs → 0 ≤ c) ∧ cs.length ≤ 64 ∧ 0 ≤ m ∧ m < 2147483647
def DealJ (a b : Addr) (H : Hp) : Prop := ∃ cs m, DealAt a b cs m H
theorem DealAt.ne {a b : Addr} {cs : List Int} {m : Int} {H : Hp} (h : DealAt a b cs m H) : a ≠ b := fun e => by
  obtain ⟨h1, h2, _⟩ := h
  rw [e, h2] at h1
  have h3 := HO.lst.inj (Option.some.inj h1)
  cases cs with
  | nil => cases h3
  | cons c cs => exact nomatch (List.cons.inj h3).1
/-- all but the source stands -/
def Rest (a b : Addr) (H H' : Hp) : Prop := ∀ x o, x ≠ a → x ≠ b → H x = some o → H' x = some o
theorem Rest.refl {a b : Addr} (H : Hp) : Rest a b H H := fun _ _ _ _ e => e
theorem Rest.trans {a b : Addr} {H H1 H2 : Hp} (x : Rest a b H H1) (y : Rest a b H1 H2) : Rest a b H H2 := fun c o n m e => y c o n m (x c o n m e)
theorem Rest.same {a b : Addr} {H H' : Hp} (e : Same H H') : Rest a b H H' := fun c o _ _ h => e c o h
/-- R's changing objects are the source's -/
structure IsDeal (R : Res) (a b : Addr) : Prop where
  d : R.D = [a, b]
  j : ∀ H, R.J H ↔ DealJ a b H ∧ ∀ x, x ∈ R.h → H x ≠ none
  n : ∀ x, x ∈ R.h → x ≠ a ∧ x ≠ b
def DealR (a b : Addr) : Res where
  D := [a, b]
  h := []
  J := DealJ a b
  at_ := fun H j x hx => by
    obtain ⟨cs, m, h1, h2, _⟩ := j
    rcases hx with h | h
    · rcases List.mem_cons.mp h with e | e
      · rw [e, h1]; exact fun z => nomatch z
      · rw [List.mem_singleton.mp e, h2]; exact fun z => nomatch z
    · exact absurd h List.not_mem_nil
  st := fun H H' j k _ => by
    obtain ⟨cs, m, h1, h2, h3⟩ := j
    exact ⟨cs, m, by rw [k a (by simp), h1], by rw [k b (by simp), h2], h3⟩
theorem isDeal_R {a b : Addr} : IsDeal (DealR a b) a b := ⟨rfl, fun H => ⟨fun h => ⟨h, fun x hx => absurd hx List.not_mem_nil⟩, fun h => h.1⟩, fun x hx => absurd hx List.not_mem_nil⟩
section
variable {R : Res} {a b p : Addr} {H H' H1 : Hp}
theorem IsDeal.add (h : IsDeal R a b) (hp : p ≠ a ∧ p ≠ b) : IsDeal (R.add p) a b where
  d := h.d
  j := fun H => by
    constructor
    · rintro ⟨j, n⟩
      refine ⟨((h.j H).mp j).1, fun x hx => ?_⟩
      rcases List.mem_cons.mp hx with e | e
      · rw [e]; exact n
      · exact ((h.j H).mp j).2 x e
    · rintro ⟨j, n⟩
      exact ⟨(h.j H).mpr ⟨j, fun x hx => n x (List.mem_cons_of_mem _ hx)⟩, n p List.mem_cons_self⟩
  n := fun x hx => by
    rcases List.mem_cons.mp hx with e | e
    · rw [e]; exact hp
    · exact h.n x e
theorem IsDeal.off (h : IsDeal R a b) (j : R.J H) (hp : H p = none) : p ≠ a ∧ p ≠ b := by
  obtain ⟨⟨cs, m, h1, h2, _⟩, _⟩ := (h.j H).mp j
  exact ⟨fun e => (by rw [e, h1] at hp; exact nomatch hp), fun e => (by rw [e, h2] at hp; exact nomatch hp)⟩
theorem IsDeal.gv (h : IsDeal R a b) (j : R.J H) (d : DealJ a b H') (r : Rest a b H H') : Gv R H H' := by
  have hh : ∀ x, x ∈ R.h → H' x = H x := fun x hx => by
    obtain ⟨n1, n2⟩ := h.n x hx
    cases q : H x with
    | none => exact absurd q (R.at_ H j x (.inr hx))
    | some o => exact r x o n1 n2 q
  refine ⟨⟨(h.j H').mpr ⟨d, fun x hx => by rw [hh x hx]; exact R.at_ H j x (.inr hx)⟩, fun x o e n _ => ?_⟩, hh⟩
  rw [h.d] at n
  exact r x o (fun e => n (by simp [e])) (fun e => n (by simp [e])) e
theorem Gr.rest (h : IsDeal R a b) (hn : R.h = []) (g : Gr R H H') : Rest a b H H' := fun x o n1 n2 e => g.2 x o e (by rw [h.d]; simp [n1, n2]) (by rw [hn]; exact List.not_mem_nil)
end
/-! ### more of reading -/
section
variable {K : PySem.W.Frag} {R : Res} {σ : L2.St} {H Hc : Hp} {ta tb te : TE} {t : TT} {D : Ends} {tu : TS} {v : V}
theorem ev_ixL {xs : List V} {i : Int} (ha : EvP R ta σ H (IsL K R xs)) (hb : EvP R tb σ H (Is (.int i))) (hx : atI xs i = some v) : EvP R (tOp (rIxL K) ta tb) σ H (Is v) := ev_op stb_isL ha hb fun x y H1 g ⟨p, e, h⟩ hy Q q => by
  cases hy
  exact ⟨p, xs, i, v, e, rfl, h.now g.1, hx, q v H1 g.at rfl⟩
theorem ev_ixT {xs : List V} {i : Int} (ha : EvP R ta σ H (IsU K R xs)) (hb : EvP R tb σ H (Is (.int i))) (hx : atI xs i = some v) : EvP R (tOp (rIxT K) ta tb) σ H (Is v) := ev_op stb_isU ha hb fun x y H1 g ⟨p, e, h⟩ hy Q q => by
  cases hy
  exact ⟨p, xs, i, v, e, rfl, h.now g.1, hx, q v H1 g.at rfl⟩
theorem ev_varL {i : Nat} {p : Addr} {xs : List V} (h : σ[i]? = some (some (.ref p))) (hp : Al R (fun H' => SqL K H' p xs) H) : EvP R (tVar i) σ H (IsL K R xs) := ev_var h fun H' g => ⟨p, rfl, Al.gr g hp⟩
theorem al_lst {p : Addr} {xs : List V} (h : H p = some (.lst xs)) (hd : p ∉ R.D ∧ p ∉ R.h) : Al R (fun H' => SqL K H' p xs) H := fun H' g => .inl (.inl (g.2 p _ h hd.1 hd.2))
theorem al_tup {p : Addr} {xs : List V} (h : H p = some (.tup xs)) (hd : p ∉ R.D ∧ p ∉ R.h) : Al R (fun H' => SqT K H' p xs) H := fun H' g => .inl (.inl (g.2 p _ h hd.1 hd.2))
theorem ev_int1 {i : Int} (ha : EvP R ta σ H (Is (.int i))) : EvP R (tCB (fun xs H Q => (∃ i, xs = [.int i] ∧ Q (.int i) H) ∨ ∃ k, xs = [.bl k] ∧ Q (.int (if k then 1 else 0)) H) (tCons ta tNil)) σ H (Is (.int i)) := ev_cb (ea_is ha ea_nil) fun vs H1 g ps Q q => by
  cases psOk1 ps
  exact .inl ⟨i, rfl, q _ H1 g.at rfl⟩
theorem ev_abs {i : Int} (ha : EvP R ta σ H (Is (.int i))) : EvP R (tCB (fun xs H Q => ∃ i, xs = [.int i] ∧ Q (.int (if i < 0 then -i else i)) H) (tCons ta tNil)) σ H (Is (.int (if i < 0 then -i else i))) := ev_cb (ea_is ha ea_nil) fun vs H1 g ps Q q => by
  cases psOk1 ps
  exact ⟨i, rfl, q _ H1 g.at rfl⟩
theorem s_while (W : Nat → L2.St → Hp → Prop) (m0 : Nat) (h0 : W m0 σ Hc)
    (hs : ∀ m σ' H', W m σ' H' → ∃ b, EvT R t σ' H' b ∧ Gr R H' H' ∧ (b = true → ∀ H1, Gv R H' H1 → ∃ N : L2.St → Hp → Prop, (∀ σ2 H2, N σ2 H2 → ∃ m', m' < m ∧ W m' σ2 H2) ∧ tu { D with nx := N, ct := N, bk := D.nx } σ' H1) ∧ (b = false → ∀ H1, Gv R H' H1 → D.nx σ' H1)) : tWhile t tu D σ Hc :=
  ⟨W, ⟨m0, h0⟩, fun m σ' H' hw => by
    obtain ⟨b, hb, g, h1, h2⟩ := hs m σ' H' hw
    refine hb H' g _ fun H1 g1 => ?_
    cases b with
    | true => exact (if_pos rfl).mpr (h1 rfl H1 g1)
    | false => exact (if_neg Bool.false_ne_true).mpr (h2 rfl H1 g1)⟩
end
/-! ### data of ints -/
def dInts (cs : List Int) : PyData := .list (cs.map PyData.int)
theorem eqv_nilI (cs : List Int) : PyData.eqv (dInts cs) (.list []) = cs.isEmpty := by cases cs <;> rfl
theorem dpAll_ints {K : PySem.W.Frag} {H : Hp} : ∀ cs : List Int, DpAll K H (cs.map V.int) (cs.map PyData.int)
  | [] => .nil
  | c :: cs => .cons (.int c) (dpAll_ints cs)
theorem canLay_ints : ∀ cs : List Int, PyData.canLayAll0 (cs.map PyData.int) = true
  | [] => rfl
  | c :: cs => by
    show (PyData.canLay0 (.int c) && PyData.canLayAll0 (cs.map PyData.int)) = true
    rw [canLay_ints cs]
    rfl
theorem depth_ints : ∀ cs : List Int, (dInts cs).depth ≤ 1
  | [] => by decide
  | c :: cs => by
    have ih := depth_ints cs
    simp only [dInts, List.map_cons, PyData.depth, PyData.depthAll] at ih ⊢
    omega
theorem shaped_ints (cs : List Int) : SeqAt.shaped (dInts cs) = true := by
  have h1 : (dInts cs).canLay0 = true := canLay_ints cs
  have h2 := depth_ints cs
  unfold SeqAt.shaped
  rw [h1, decide_eq_true (by omega)]
  rfl
theorem rp_ints {K : PySem.W.Frag} {R : Res} {H : Hp} {p : Addr} {cs : List Int} (h : Al R (fun H' => SqL K H' p (cs.map V.int)) H) : Rp K R (dInts cs) (.ref p) H := fun H' g => .lst (h H' g) (dpAll_ints cs)
end Fk

/-! Forkpolls: lists and tuples of one's own, counted, cut, put together; calls that draw. -/
namespace Fk
open PySem PySem.Spec PyProof.Rows L2
/-! ### list.count of bools -/
def eqb (k : Bool) (v : Value) : Bool := match v with
  | .bool b => b == k
  | _ => false
theorem vals_bools : ∀ {bs : List Bool} {us : List Value}, Vals (bs.map V.bl) us → us = bs.map Value.bool
  | [], _, h => by cases h; rfl
  | b :: bs, _, h => by
    cases h with
    | cons h1 h2 =>
      have ih := vals_bools h2
      cases h1
      rw [ih]
      rfl
theorem eqb_count (k : Bool) : ∀ bs : List Bool, (bs.map Value.bool).countP (eqb k) = bs.count k
  | [] => rfl
  | b :: bs => by
    have ih := eqb_count k bs
    rw [List.map_cons, List.countP_cons, List.count_cons, ih] <;> rfl
section
variable {X : Cx}
def rCntB (K : PySem.W.Frag) : V → List V → Hp → VK → Prop := fun x xs H Q => ∃ (p : Addr) (bs : List Bool) (k : Bool), x = .ref p ∧ xs = [.bl k] ∧ SqL K H p (bs.map V.bl) ∧ Q (.int (bs.count k : Nat)) H
theorem mt_lcountB : MtR X "list.count" (rCntB X.K) := by
  intro pins s σ H x xs v us Q I rx rxs h
  obtain ⟨p, bs, k, rfl, rfl, hs, q⟩ := h
  cases rx
  obtain ⟨u, rfl, ru⟩ := rxs.one
  cases ru
  obtain ⟨its, rv, ⟨⟨cls, dd, data, sl⟩, n, ho, hc, hdn, hd⟩, hlen⟩ := I.list hs
  simp only at hc hd
  subst hc hd
  have hi := vals_bools rv
  refine call_meets PySem.F.slot_list_count ⟨_, ho, rfl⟩ PySem.F.entry_list_count (PySem.F.args_list_count_2 _ _)
    (SeqAt.list_countAt p its.toArray n dd sl (.bool k) (eqb k)) ⟨ho, fun y hy => ?_, ?_⟩
  · have hy' : y ∈ its := by simpa using hy
    rw [hi] at hy'
    obtain ⟨b, _, rfl⟩ := List.mem_map.mp hy'
    exact SeqAt.EqAt.bool_bool b k
  · have ec : its.toArray.toList.countP (eqb k) = bs.count k := by rw [← eqb_count k bs, ← hi]
    refine ⟨.int (bs.count k : Nat), H, I.tok _, ⟨s.toks, ?_⟩, q⟩
    show Value.int ((its.toArray.toList.countP (eqb k) : Nat) : Int) s.toks = Value.int ((bs.count k : Nat) : Int) s.toks
    rw [ec]
end
/-! ### lists and tuples of one's own -/
def LstN (R : Res) (vs : List V) : VP := fun u H => ∃ p, u = .ref p ∧ H p = some (.lst vs) ∧ (p ∉ R.D ∧ p ∉ R.h)
section
variable {K : PySem.W.Frag} {R : Res} {σ : L2.St} {H Hc : Hp} {ta tb te tl : TE} {to1 to2 : TO} {t : TA} {xs ys vs : List V} {v : V}
theorem stb_lstN : Stb R (LstN R vs) := fun _ _ _ g ⟨p, e, h, hd⟩ => ⟨p, e, g.2 p _ h hd.1 hd.2, hd⟩
theorem lstN_L {u : V} (h : LstN R vs u H) : IsL K R vs u H := let ⟨_, e, hp, hd⟩ := h; e ▸ isL_of hp hd
theorem tupN_U {u : V} (h : TupN R vs u H) : IsU K R vs u H := let ⟨_, e, hp, hd⟩ := h; e ▸ isU_of hp hd
theorem ev_L (h : EvP R te σ H (LstN R vs)) : EvP R te σ H (IsL K R vs) := ev_imp h fun _ _ _ e => lstN_L e
theorem ev_U (h : EvP R te σ H (TupN R vs)) : EvP R te σ H (IsU K R vs) := ev_imp h fun _ _ _ e => tupN_U e
theorem ev_lstN (h : EvA R t σ H (vs.map Is)) (hl : vs.length ≤ 1000) : EvP R (tLst t) σ H (LstN R vs) := ev_lstV h hl
theorem ev_varLN {i : Nat} {p : Addr} (h : σ[i]? = some (some (.ref p))) (hp : H p = some (.lst vs)) (hd : p ∉ R.D ∧ p ∉ R.h) : EvP R (tVar i) σ H (LstN R vs) := ev_var h fun H' g => ⟨p, rfl, g.2 p _ hp hd.1 hd.2, hd⟩
theorem ev_varTN {i : Nat} {p : Addr} (h : σ[i]? = some (some (.ref p))) (hp : H p = some (.tup vs)) (hd : p ∉ R.D ∧ p ∉ R.h) : EvP R (tVar i) σ H (TupN R vs) := ev_var h fun H' g => ⟨p, rfl, g.2 p _ hp hd.1 hd.2, hd⟩
theorem ev_cat (ha : EvP R ta σ H (LstN R xs)) (hb : EvP R tb σ H (LstN R ys)) (hl : xs.length + ys.length ≤ 1000) : EvP R (tOp rCat ta tb) σ H (LstN R (xs ++ ys)) :=
  ev_op stb_lstN ha hb fun x y H1 g ⟨p, e1, h1, _⟩ ⟨p2, e2, h2, _⟩ Q q => ⟨p, p2, xs, ys, e1, e2, h1, h2, small hl, fun l hl' => q _ _ (Gv.new g.1 hl') ⟨l, rfl, upd_same, off g.1 hl'⟩⟩
theorem ev_catA (ha : EvP R ta σ H (TupN R xs)) (hb : EvP R tb σ H (TupN R ys)) (hl : xs.length + ys.length ≤ 1000) : EvP R (tOp (rCatA K) ta tb) σ H (TupN R (xs ++ ys)) :=
  ev_op stb_tupN ha hb fun x y H1 g ⟨p, e1, h1, d1⟩ ⟨p2, e2, h2, d2⟩ Q q => ⟨p, p2, xs, ys, e1, e2, .inl (.inl h1), .inl (.inl h2), small hl,
    fun e => q _ _ (Gv.refl g.1) ⟨p2, rfl, by rw [e]; exact h2, d2⟩, fun _ e => q _ _ (Gv.refl g.1) ⟨p, rfl, by rw [e, List.append_nil]; exact h1, d1⟩, fun _ _ l hl' => q _ _ (Gv.new g.1 hl') ⟨l, rfl, upd_same, off g.1 hl'⟩⟩
theorem eo_none : EvO R tNoPart σ H none := fun H1 g Q q => q H1 g.at
theorem eo_some {i : Int} (h : EvP R te σ H (Is (.int i))) : EvO R (tPart te) σ H (some i) := fun H1 g Q q => h H1 g _ fun v H2 g2 e => ⟨i, e, q H2 g2⟩
theorem cut_whole {lo hi : Option Int} (h : HT.sIx xs.length 0 lo = 0 ∧ HT.sIx xs.length xs.length hi = xs.length) : cutV xs lo hi = xs := by
  unfold cutV
  rw [h.1, h.2]
  simp
theorem ev_slA {lo hi : Option Int} (ha : EvP R ta σ H (TupN R xs)) (hl : EvO R to1 σ H lo) (hh : EvO R to2 σ H hi) : EvP R (tSl (rSlA K) ta to1 to2) σ H (TupN R (cutV xs lo hi)) := fun H0 g0 Q q =>
  ha H0 g0 _ fun x H1 g1 px => hl H1 (g0.trans g1) _ fun H2 g2 => hh H2 (g0.trans (g1.trans g2)) _ fun H3 g3 => by
    obtain ⟨p, e, h, hd⟩ := stb_tupN x _ _ (g2.trans g3).1 px
    refine ⟨p, xs, e, .inl (.inl h), fun w => q _ _ (g1.trans (g2.trans g3)) ⟨p, rfl, by rw [cut_whole w]; exact h, hd⟩, fun _ l hl' => q _ _ ((g1.trans (g2.trans g3)).trans (Gv.new g3.1.1 hl')) ⟨l, rfl, upd_same, off g3.1.1 hl'⟩⟩
theorem ev_slL {lo hi : Option Int} (ha : EvP R ta σ H (IsL K R xs)) (hl : EvO R to1 σ H lo) (hh : EvO R to2 σ H hi) : EvP R (tSl (rSlL K) ta to1 to2) σ H (LstN R (cutV xs lo hi)) := fun H0 g0 Q q =>
  ha H0 g0 _ fun x H1 g1 px => hl H1 (g0.trans g1) _ fun H2 g2 => hh H2 (g0.trans (g1.trans g2)) _ fun H3 g3 => by
    obtain ⟨p, e, h⟩ := stb_isL x _ _ (g2.trans g3).1 px
    exact ⟨p, xs, e, h.now g3.1.1, fun l hl' => q _ _ ((g1.trans (g2.trans g3)).trans (Gv.new g3.1.1 hl')) ⟨l, rfl, upd_same, off g3.1.1 hl'⟩⟩
theorem ev_slE {φ : List V → Prop} {lo hi : Option Int} (ha : EvP R ta σ H (fun u H => ∃ xs, φ xs ∧ LstN R xs u H)) (hl : EvO R to1 σ H lo) (hh : EvO R to2 σ H hi) : EvP R (tSl (rSlL K) ta to1 to2) σ H (fun u H => ∃ xs, φ xs ∧ LstN R (cutV xs lo hi) u H) := fun H0 g0 Q q =>
  ha H0 g0 _ fun x H1 g1 ⟨xs, f, px⟩ => hl H1 (g0.trans g1) _ fun H2 g2 => hh H2 (g0.trans (g1.trans g2)) _ fun H3 g3 => by
    obtain ⟨p, e, h, _⟩ := stb_lstN x _ _ (g2.trans g3).1 px
    exact ⟨p, xs, e, .inl (.inl h), fun l hl' => q _ _ ((g1.trans (g2.trans g3)).trans (Gv.new g3.1.1 hl')) ⟨xs, f, l, rfl, upd_same, off g3.1.1 hl'⟩⟩
theorem ev_revL (ha : EvP R ta σ H (IsL K R xs)) : EvP R (tRevL K ta) σ H (LstN R xs.reverse) := fun H0 g0 Q q =>
  ha H0 g0 _ fun x H1 g1 ⟨p, e, h⟩ => ⟨p, xs, e, h.now g1.1.1, fun l hl' => q _ _ (g1.trans (Gv.new g1.1.1 hl')) ⟨l, rfl, upd_same, off g1.1.1 hl'⟩⟩
theorem ev_cntB {bs : List Bool} {k : Bool} (ho : EvP R te σ H (LstN R (bs.map V.bl))) (htk : EvP R ta σ H (Is (.bl k))) : EvP R (tBM K "list" (rCntB K) te (tCons ta tNil)) σ H (Is (.int (bs.count k : Nat))) := fun H0 g0 Q q =>
  ho H0 g0 _ fun x H1 g1 hx => by
    obtain ⟨p, e, h, hd⟩ := hx
    cases e
    refine ⟨.inl ⟨rfl, _, .inl (.inl h)⟩, htk H1 (g0.trans g1) _ fun u H2 g2 ek => ?_⟩
    cases ek
    exact ⟨p, bs, k, rfl, rfl, .inl (.inl (g2.1.2 p _ h hd.1 hd.2)), q _ H2 (g1.trans g2) rfl⟩
theorem ew_zip {n : Nat} (h : EvA R t σ H [IsL K R xs, IsL K R ys]) (hn : n = min xs.length ys.length) : EvW R (iZip K t) σ H n (YPair (fun i => xs[i]?) (fun i => ys[i]?)) := fun H1 a Z k => h H1 a _ fun us H2 a2 ps => by
  match us, ps with
  | [u1, u2], ⟨⟨p, e1, h1⟩, ⟨p2, e2, h2⟩, _⟩ =>
    cases e1; cases e2
    exact ⟨p, p2, xs, ys, rfl, h1.now a2.1.1, h2.now a2.1.1, k _ H2 (fun H => SqL K H p xs ∧ SqL K H p2 ys) a2 (walk_zip hn) fun H' g => ⟨h1 H' g, h2 H' g⟩⟩
theorem s_retL {D : Ends} {Ps : List VP} (h : EvA R t σ H Ps) (g : Gr R H Hc) (k : ∀ us H1, Gr R H H1 → PsOk Ps us H1 → us.length ≤ 1000 ∧ ∀ p, H1 p = none → D.rt (.ref p) (upd H1 p (.lst us))) : tRet (tLst t) D σ Hc := h Hc g _ fun us H1 g1 ps => ⟨small (k us H1 (g.trans g1) ps).1, (k us H1 (g.trans g1) ps).2⟩
theorem s_retT {D : Ends} {Ps : List VP} (h : EvA R t σ H Ps) (g : Gr R H Hc) (k : ∀ us H1, Gr R H H1 → PsOk Ps us H1 → us.length ≤ 1000 ∧ ∀ p, H1 p = none → D.rt (.ref p) (upd H1 p (.tup us))) : tRet (tTup t) D σ Hc := h Hc g _ fun us H1 g1 ps => ⟨small (k us H1 (g.trans g1) ps).1, (k us H1 (g.trans g1) ps).2⟩
theorem s_par {D : Ends} {i j : Nat} {P1 P2 : VP} (h : EvA R t σ H [P1, P2]) (g : Gr R H Hc) (k : ∀ v u H1, Gr R H H1 → Gv R Hc H1 → P1 v H1 → P2 u H1 → D.nx ((σ.set i (some v)).set j (some u)) H1) : tPar i j t D σ Hc := h Hc g _ fun us H1 g1 ps => by
  match us, ps with
  | [v, u], ⟨p1, p2, _⟩ => exact ⟨v, u, rfl, k v u H1 (g.trans g1) g1 p1 p2⟩
theorem ev_listOf (h : EvP R ta σ H (fun u H => ∃ p, u = .ref p ∧ (SqL K H p xs ∨ SqT K H p xs))) : EvP R (tCB (fun us H Q => ∃ p zs, us = [.ref p] ∧ (SqL K H p zs ∨ SqT K H p zs) ∧ ∀ l, H l = none → Q (.ref l) (upd H l (.lst zs))) (tCons ta tNil)) σ H (LstN R xs) := fun H0 g0 Q q =>
  h H0 g0 _ fun x H1 g1 ⟨p, e, hp⟩ => ⟨p, xs, by rw [e], hp, fun l hl' => q _ _ (g1.trans (Gv.new g1.1.1 hl')) ⟨l, rfl, upd_same, off g1.1.1 hl'⟩⟩
/-- a call that draws -/
theorem ev_dc {a b : Addr} (I : IsDeal R a b) {sp : Sp} {E : XK} {Ps : List VP} {P : VP} (h : EvA R t σ H Ps)
    (hs : ∀ vs H1, Gr R H H1 → PsOk Ps vs H1 → DealJ a b H1 → ∀ Q : VK, (∀ v H2, DealJ a b H2 → Rest a b H1 H2 → P v H2 → Q v H2) → sp vs H1 Q E) : EvP R (tCall sp [] E t) σ H P :=
  ev_call h fun vs H1 g ps Q q => by
    rw [List.append_nil]
    exact hs vs H1 g ps ((I.j H1).mp g.1).1 Q fun v H2 d r p => q v H2 (I.gv g.1 d r) p
end
theorem deal_gr {a b : Addr} {H H' : Hp} (d : DealJ a b H') (r : Rest a b H H') : Gr (DealR a b) H H' := ⟨d, fun x o e n _ => r x o (fun z => n (by rw [z]; exact List.mem_cons_self)) (fun z => n (by rw [z]; exact List.mem_cons_of_mem _ List.mem_cons_self)) e⟩
theorem gr_deal {a b : Addr} {H H' : Hp} (g : Gr (DealR a b) H H') : DealJ a b H' ∧ Rest a b H H' := ⟨g.1, fun x o n1 n2 e => g.2 x o e (by show x ∉ [a, b]; simp [n1, n2]) List.not_mem_nil⟩
theorem off_deal {a b p : Addr} (n1 : p ≠ a) (n2 : p ≠ b) : p ∉ (DealR a b).D ∧ p ∉ (DealR a b).h := ⟨by show p ∉ [a, b]; simp [n1, n2], List.not_mem_nil⟩
theorem deal_off {a b p : Addr} (h : p ∉ (DealR a b).D ∧ p ∉ (DealR a b).h) : p ≠ a ∧ p ≠ b := by
  have h1 : p ∉ [a, b] := h.1
  simp at h1
  exact h1
theorem seq_ix {n : Nat} {i : Int} (h0 : 0 ≤ i) (h1 : i < (n : Int)) : seqIndex? i n = some i.toNat := by
  show (if (decide (0 ≤ (if i < 0 then i + (n : Int) else i)) && decide ((if i < 0 then i + (n : Int) else i) < (n : Int))) = true then some (if i < 0 then i + (n : Int) else i).toNat else none) = some i.toNat
  rw [if_neg (show ¬ i < 0 by omega), decide_eq_true h0, decide_eq_true h1]
  rfl
/-! ### data of texts -/
def dStrs (zs : List Str) : PyData := .list (zs.map PyData.str)
theorem eqv_nilS (zs : List Str) : PyData.eqv (dStrs zs) (.list []) = zs.isEmpty := by cases zs <;> rfl
theorem dpAll_strs {K : PySem.W.Frag} {H : Hp} : ∀ zs : List Str, DpAll K H (zs.map V.str) (zs.map PyData.str)
  | [] => .nil
  | z :: zs => .cons (.str z) (dpAll_strs zs)
theorem canLay_strs : ∀ zs : List Str, (∀ z, z ∈ zs → PyData.strOk z = true) → PyData.canLayAll0 (zs.map PyData.str) = true
  | [], _ => rfl
  | z :: zs, h => by
    show (PyData.strOk z && PyData.canLayAll0 (zs.map PyData.str)) = true
    rw [canLay_strs zs fun y hy => h y (List.mem_cons_of_mem _ hy), h z List.mem_cons_self]
    rfl
theorem depth_strs : ∀ zs : List Str, (dStrs zs).depth ≤ 1
  | [] => by decide
  | z :: zs => by
    have ih := depth_strs zs
    simp only [dStrs, List.map_cons, PyData.depth, PyData.depthAll] at ih ⊢
    omega
theorem shaped_strs (zs : List Str) (h : ∀ z, z ∈ zs → PyData.strOk z = true) : SeqAt.shaped (dStrs zs) = true := by
  have h1 : (dStrs zs).canLay0 = true := canLay_strs zs h
  have h2 := depth_strs zs
  unfold SeqAt.shaped
  rw [h1, decide_eq_true (by omega)]
  rfl
theorem ev_strsD {K : PySem.W.Frag} {R : Res} {σ : L2.St} {H : Hp} {te : TE} {zs : List Str} (h : EvP R te σ H (LstN R (zs.map V.str))) : EvP R te σ H (Rp K R (dStrs zs)) := ev_imp h fun u H' g ⟨p, e, hp, hd⟩ => e ▸ fun H2 g2 => .lst (.inl (.inl (g2.2 p _ hp hd.1 hd.2))) (dpAll_strs zs)
end Fk

/-! Forkpolls: for over range without a heap of facts; lists of things of which something is known. -/
namespace Fk
open PySem PySem.Spec PyProof.Rows L2
section
variable {K : PySem.W.Frag} {R : Res} {σ : L2.St} {H Hc H' : Hp} {ta tb te : TE} {t : TA} {P : VP} {Ps : List VP} {xs : List V}
theorem s_rng {tu : TS} {D : Ends} {g : TG} {m : Int} (h : EvA R t σ H [Is (.int m)]) (hm : 0 ≤ m ∧ m ≤ 100000) (gc : Gr R H Hc) (Pv : Nat → L2.St → Hp → Prop) (h0 : ∀ H1, Gr R H H1 → Gv R Hc H1 → Pv 0 σ H1)
    (hs : ∀ (i : Nat) σ' H', i < m.toNat → Pv i σ' H' → g (.int (i : Int)) σ' H' fun σ2 H3 => tu { D with nx := Pv (i + 1), ct := Pv (i + 1), bk := D.nx } σ2 H3) (he : ∀ σ' H', Pv m.toNat σ' H' → D.nx σ' H') :
    tFor (iRng1 t) g tu D σ Hc := h Hc gc _ fun vs H2 a2 ps => by
  have e := psOk1 ps
  refine ⟨m, e, by omega, by omega, ?_⟩
  refine for_it (walk_range (lo := 0) (n := m.toNat)) Pv (h0 H2 (gc.trans a2) a2) (fun _ _ _ _ _ => True.intro) (fun i x σ' H' H'' hi p y => ?_) he
  obtain ⟨y1, y2⟩ := y
  subst y1
  have y3 : x = .int (i : Int) := y2.trans (congrArg V.int (Int.zero_add _))
  subst y3
  exact hs i σ' _ hi p
theorem psOk_stb : ∀ {Ps : List VP} {xs : List V}, (∀ P, P ∈ Ps → Stb R P) → Gr R H H' → PsOk Ps xs H → PsOk Ps xs H'
  | [], [], _, _, _ => True.intro
  | P :: Ps, x :: xs, h, g, ⟨h1, h2⟩ => ⟨h P List.mem_cons_self x H H' g h1, psOk_stb (fun Q hQ => h Q (List.mem_cons_of_mem _ hQ)) g h2⟩
theorem psOk_get : ∀ {Ps : List VP} {xs : List V} {i : Nat} {P : VP}, PsOk Ps xs H → Ps[i]? = some P → ∃ x, xs[i]? = some x ∧ P x H
  | P :: Ps, x :: xs, 0, _, ⟨h1, _⟩, e => by
    cases e
    exact ⟨x, rfl, h1⟩
  | P :: Ps, x :: xs, i + 1, Q, ⟨_, h2⟩, e => psOk_get (Ps := Ps) (xs := xs) (i := i) h2 e
  | [], _, _, _, _, e => by simp at e
theorem psOk_ex {α β : Type} {φ : β → Prop} {S : β → VP} : ∀ {l : List α} {xs : List V}, PsOk (l.map fun _ => (fun u H => ∃ r, φ r ∧ S r u H)) xs H → ∃ rs : List β, rs.length = l.length ∧ (∀ r, r ∈ rs → φ r) ∧ PsOk (rs.map S) xs H
  | [], [], _ => ⟨[], rfl, fun _ h => absurd h List.not_mem_nil, True.intro⟩
  | _ :: l, x :: xs, ⟨⟨r, f, h1⟩, h2⟩ => by
    obtain ⟨rs, e, k, h⟩ := psOk_ex (l := l) h2
    refine ⟨r :: rs, congrArg Nat.succ e, fun s hs => ?_, h1, h⟩
    rcases List.mem_cons.mp hs with q | q
    · rw [q]; exact f
    · exact k s q
theorem psOk_tup_upd {α : Type} {S : α → List V} {p : Addr} {ys : List V} {o : HO} (hp : H p = some (.lst ys)) : ∀ {rs : List α} {xs : List V}, PsOk (rs.map fun r => TupN R (S r)) xs H → PsOk (rs.map fun r => TupN R (S r)) xs (upd H p o)
  | [], [], _ => True.intro
  | r :: rs, x :: xs, ⟨⟨q, e, h, hd⟩, h2⟩ => ⟨⟨q, e, by
      have : q ≠ p := fun z => by rw [z, hp] at h; cases h
      rw [upd_ne this]
      exact h, hd⟩, psOk_tup_upd hp h2⟩
theorem gl_map {β : Type} (d : β) (S : β → VP) : ∀ rs : List β, gl rs.length (fun _ => true) (fun i => S (rs.getD i d)) = rs.map S := fun rs => by
  unfold gl
  rw [filter_yes]
  apply List.ext_getElem?
  intro i
  rw [List.getElem?_map, List.getElem?_map]
  by_cases hi : i < rs.length
  · rw [List.getElem?_range hi, List.getElem?_eq_getElem hi]
    show some (S (rs.getD i d)) = some (S rs[i])
    rw [List.getD_eq_getElem?_getD, List.getElem?_eq_getElem hi]
    rfl
  · rw [List.getElem?_eq_none (by rw [List.length_range]; omega), List.getElem?_eq_none (by omega)]
    rfl
/-- an item of a list of one's own -/
theorem ev_item {k : Nat} {p : Addr} {x : V} {i : Nat} (hv : σ[k]? = some (some (.ref p))) (hp : H p = some (.lst xs)) (hd : p ∉ R.D ∧ p ∉ R.h) (hx : xs[i]? = some x) (hi : EvP R tb σ H (Is (.int (i : Int)))) (s : Stb R P) (h : P x H) : EvP R (tOp (rIxL K) (tVar k) tb) σ H P :=
  ev_imp (ev_ixL (ev_L (ev_varLN hv hp hd)) hi (atI_nat hx)) fun u H' g e => by
    cases e
    exact s x H H' g h
theorem ev_varP {k : Nat} {x : V} (hv : σ[k]? = some (some x)) (s : Stb R P) (h : P x H) : EvP R (tVar k) σ H P := ev_var hv fun H' g => s x H H' g h
theorem tupN_add {p : Addr} {vs : List V} {u : V} (h : TupN (R.add p) vs u H) : TupN R vs u H := let ⟨q, e, hq, hd⟩ := h; ⟨q, e, hq, hd.1, fun z => hd.2 (List.mem_cons_of_mem _ z)⟩
theorem tupN_into {p : Addr} {vs : List V} {u : V} (hn : H p = none) (h : TupN R vs u H) : TupN (R.add p) vs u H := let ⟨q, e, hq, hd⟩ := h; ⟨q, e, hq, hd.1, fun z => by
  rcases List.mem_cons.mp z with z | z
  · rw [z, hn] at hq; cases hq
  · exact hd.2 z⟩
end
end Fk

/-! Forkpolls: exceptions of the text's own classes as values. -/
namespace FkE
open PySem
section
variable {M : Model} {prog : Program} {w : World} {A : Around} {E : Value → Shared → Prop} {R : Result → Shared → Prop} {h : Heap} {g : Array GenState} {d : Drawn} {t : Nat} {os : OsState}
variable {nm q : Str} {C N : Addr} {bs bm bmB : List Value} {hdct : Bool} {sn : List Str} {sub : List Value} {ab : Bool} {col : Option Bool} {dd : Option Addr} {k0 k1 k2 k3 k5 : Option Value} {B newId initId : String}
theorem look_new (F : ExcBaseFacts B newId initId bmB) (hT : bm.contains (.type B) = true) {us : List Value} {kws : List (Str × Value)} {Q : Unit → Shared → Prop} (hk : kws = [] ∨ ∃ k v, kws = [(k, v)])
    (c : h.get? C = some (excClassObj nm q C N bs bm hdct sn sub ab col dd k0 k1 k2 k3 k5 newId)) (q : Q () ⟨h, g, d, t, os⟩) : wpAny M A (checkBuiltinCall newId ⟨.ref C :: us, kws⟩) Q E ⟨h, g, d, t, os⟩ := by
  have hB : (Value.ref C :: bm).contains (.type B) = true := by rw [List.contains_cons, hT, Bool.or_true]
  have s := F.noStar
  rcases hk with rfl | ⟨k, v, rfl⟩
  · simp only [checkBuiltinCall, F.newKind, F.newSplit, F.newRow]
    repeat (first | refine wpAny_loadPart_at c ?_ | (refine wpAny_isSubtype_exc c ?_; rw [hB]) | refine wpAny_staticBase_exc c ?_ | refine wpAny_madeBy_exc c ?_ | simp only [bne_self_eq_false, Bool.false_eq_true, if_false] | wp_step)
    exact q
  · simp only [checkBuiltinCall, F.newKind, F.newSplit, F.newRow]
    repeat (first | refine wpAny_loadPart_at c ?_ | (refine wpAny_isSubtype_exc c ?_; rw [hB]) | refine wpAny_staticBase_exc c ?_ | refine wpAny_madeBy_exc c ?_ | simp only [bne_self_eq_false, Bool.false_eq_true, if_false] | wp_step)
    exact q
theorem made_new (F : ExcBaseFacts B newId initId bmB) (hT : bm.contains (.type B) = true) (hA : bm.contains (.type "AttributeError") = false) (hN : bm.contains (.type "NameError") = false) {us : List Value} {kws : List (Str × Value)}
    (c : h.get? C = some (excClassObj nm q C N bs bm hdct sn sub ab col dd k0 k1 k2 k3 k5 newId)) (hl : us.length ≤ sizeLine)
    (r : R (.ok (.ret (.ref (h.objs.size + 1)))) ⟨(h.push { cls := .type "tuple", data := .seq us.toArray }).push { cls := .ref C, data := .fields #[.ref h.objs.size, .none, .none, .none, .bool false, .none] }, g, d, t, os⟩) :
    codeAny (model prog w) A (.builtin newId ⟨.ref C :: us, kws⟩) R ⟨h, g, d, t, os⟩ := by
  have en := F.ends
  have cB : (Value.ref C :: bm).contains (.type B) = true := by rw [List.contains_cons, hT, Bool.or_true]
  have cA : (Value.ref C :: bm).contains (.type "AttributeError") = false := by rw [List.contains_cons, hA] <;> rfl
  have cN : (Value.ref C :: bm).contains (.type "NameError") = false := by rw [List.contains_cons, hN] <;> rfl
  refine codeAny_builtinAt F.entry ?_
  unfold Builtin.«BaseException.__new__»
  refine wpAt_bind ?_
  show wpAt _ _ _ (stack >>= _) _ _ _
  refine wpAt_bind (wpAt_stack fun p below => wpAt_of_wpAny ?_)
  wp_walk
  refine wpAt_of_wpAny ?_
  rw [F.owner]
  repeat (first | with_reducible refine wpAny_madeHere_exc F.canon c ?_ | with_reducible refine wpAny_loadPart_at c ?_ | (with_reducible refine wpAny_isSubtype_exc c ?_; first | rw [cB] | rw [cA] | rw [cN]) | wp_step)
  show R _ _
  rw [Heap.size_push]
  exact r
abbrev exN (C t : Addr) : Obj := { cls := .ref C, data := .fields #[.ref t, .none, .none, .none, .bool false, .none] }
theorem made_init (F : ExcBaseFacts B newId initId bmB) (hT : bm.contains (.type B) = true) (hA : bm.contains (.type "AttributeError") = false) (hN : bm.contains (.type "NameError") = false) {us : List Value} {kws : List (Str × Value)} {fI : Addr} {Q : PySem.Fin → Shared → Prop} (hk : kws = [] ∨ ∃ k v, kws = [(k, v)])
    (c : h.get? C = some (excClassObj nm q C N bs bm hdct sn sub ab col dd k0 k1 k2 k3 k5 newId)) (i : W.Looks (model prog w) h (typeLookup (.ref C) "__init__") (some (.ref fI))) (b : ∀ x, W.Looks (model prog w) h (bindSpecial (.ref fI) x) (.ref fI, [x])) (hl : us.length ≤ sizeLine)
    (r : codeAny (model prog w) A (.call (.ref fI) ⟨.ref (h.objs.size + 1) :: us, kws⟩) (fun r s' => match r with | .ok (.ret v) => v = .none ∧ Q (.done (.ret (.ref (h.objs.size + 1)))) s' | .ok _ => False | .error e => E e s') ⟨(h.push (W.kdv_tup us)).push (exN C h.objs.size), g, d, t, os⟩) :
    wpAny (model prog w) A (Builtin.«type.__call__» ⟨.ref C :: us, kws⟩) Q E ⟨h, g, d, t, os⟩ := by
  repeat (first | with_reducible refine wpAny_loadPart_at c ?_ | with_reducible refine wpAny_madeBy_exc c ?_ | wp_step)
  refine codeAny_call_builtin_code (Code.quiet_builtin _ F.quiet) (look_new F hT hk c ?_)
  refine made_new F hT hA hN c hl ?_
  show wpAny _ _ _ _ _ _
  have kp : ∀ b o, h.get? b = some o → ((h.push (W.kdv_tup us)).push (exN C h.objs.size)).get? b = some o := fun b o e => Heap.get?_push_of_some _ (Heap.get?_push_of_some _ e)
  have c1 := kp _ _ c
  have own : ((h.push (W.kdv_tup us)).push (exN C h.objs.size)).get? (h.objs.size + 1) = some (exN C h.objs.size) := by heap_get
  have cC : (Value.ref C :: bm).contains (.ref C) = true := by simp
  have i1 := i.keeps kp
  have b1 := (b (.ref (h.objs.size + 1))).keeps kp
  unfold isInstance
  repeat (first | with_reducible refine wpAny_loadPart_at own ?_ | (with_reducible refine wpAny_isSubtype_exc c1 ?_; rw [cC]) | wp_step)
  show wpAny _ _ (typeLookup (.ref C) _) _ _ _
  refine i1.at (wpAny_holding (wpAny_bind (b1.at (wpAny_bind (wpAny_call (codeAny_mono r fun r s' z => ?_))))))
  rcases r with e | (v | _ | _ | _) <;> first | exact z | exact z.elim | skip
  obtain ⟨rfl, z⟩ := z
  first
    | exact wpAny_pure (wpAny_pure z)
    | (wp_walk; exact z)
theorem made_call (F : ExcBaseFacts B newId initId bmB) (hT : bm.contains (.type B) = true) (hA : bm.contains (.type "AttributeError") = false) (hN : bm.contains (.type "NameError") = false) {us : List Value} {kws : List (Str × Value)} {fI : Addr} (hk : kws = [] ∨ ∃ k v, kws = [(k, v)])
    (c : h.get? C = some (excClassObj nm q C N bs bm hdct sn sub ab col dd k0 k1 k2 k3 k5 newId)) (i : W.Looks (model prog w) h (typeLookup (.ref C) "__init__") (some (.ref fI))) (b : ∀ x, W.Looks (model prog w) h (bindSpecial (.ref fI) x) (.ref fI, [x])) (hl : us.length ≤ sizeLine)
    (r : codeAny (model prog w) (A.under (.builtin "type.__call__" ⟨.ref C :: us, kws⟩)) (.call (.ref fI) ⟨.ref (h.objs.size + 1) :: us, kws⟩) (W.InitBack (h.objs.size + 1) R) ⟨(h.push (W.kdv_tup us)).push (exN C h.objs.size), g, d, t, os⟩) :
    codeAny (model prog w) A (.call (.ref C) ⟨us, kws⟩) R ⟨h, g, d, t, os⟩ := by
  have f1 := tc_lookup
  have f2 := tc_bind (.ref C)
  have ty : (⟨h, g, d, t, os⟩ : Shared).TypeIs (.ref C) "type" := ⟨_, c, rfl⟩
  refine codeAny_of_tree ?_
  show wpAny _ _ (callAny (.ref C) _) _ _ _
  repeat (any_goals (first | assumption | with_reducible refine wpAny_loadPart_at c ?_ | wp_step))
  refine ⟨rfl, codeAny_call_builtin_at (Code.quiet_builtin _ (by decide +kernel)) entry_typeCall (wpAny_check_type_call_sub c (made_init F hT hA hN hk c i b hl ?_))⟩
  refine codeAny_mono r fun r s' z => ?_
  rcases r with e | (v | _ | _ | _) <;> exact z
end
end FkE

/-! Forkpolls: exceptions as values, the rules. -/
namespace FkE
open PySem PySem.W PySem.Calls PyProof.Rows PySem.HandSPX Builtin Builtin.ObjectAttr
section
variable {prog : Program} {w : World} {A : Around} {R : Result → Shared → Prop} {hp : Heap} {g : Array GenState} {d : Drawn} {t : Nat} {os : OsState}
/-- the first field of an exception, whatever its bases -/
theorem first_field {K : W.Frag} {z : Str} {tk : Tok} {v : Value} {x C : Addr} {fv : Array Value} {cd : ClassData} (X : K.In hp) (hx : hp.get? x = some { cls := .ref C, data := .fields fv }) (hcd : W.clsIn K C = some cd)
    (pass : refuseLoop (.ref x) "__setattr__" cd.mro = pure ()) (ne : cd.mro.isEmpty = false) (ob : cd.mro.contains (.type "object") = true) (hh : cd.hasDict = true) (ha : W.findIn K (.ref C) z = some none)
    (r : ∀ h' tk' dx, (∀ b o, b ≠ x → hp.get? b = some o → h'.get? b = some o) → hp.objs.size ≤ dx → dx ≠ x → h'.get? x = some { cls := .ref C, dict := some dx, data := .fields fv } → h'.Ns1 dx (fun y => if y = z then some v else none) → R (.ok (.ret .none)) ⟨h', g, d, tk', os⟩) :
    codeAny (model prog w) A (.call (.builtin "object.__setattr__") ⟨[.ref x, .str z tk, v], []⟩) R ⟨hp, g, d, t, os⟩ := by
  have I : W.InstAt hp x { cls := .ref C, data := .fields fv } C none := ⟨hx, rfl, rfl, trivial⟩
  have S := F.store_object
  have xs : x ≠ hp.objs.size := Nat.ne_of_lt (Heap.lt_size hx)
  have sb : W.Looks (model prog w) hp (isInstance (.ref x) (.type "object")) true := I.type.andThen (W.looks_mroIn X (by unfold W.mroIn; rw [hcd, Option.bind_some, if_neg (by rw [ne]; decide), ob]))
  refine codeAny_call_builtin S.slot.plain S.entry (@W.check_slot (model prog w) _ _ ⟨hp, g, d, t, os⟩ "object.__setattr__" "object" "__setattr__" (.ref x) [.str z tk, v] [] _ S.kind S.split sb (S.args (.ref x) (.str z tk) v) ?_)
  have l1 : W.Looks (model prog w) hp (mroOf (.ref C)) cd.mro := (W.looks_clsIn X hcd).andThen .now
  have l2 : W.Looks (model prog w) hp (storeTaker? none) none := .now
  have l3 : W.Looks (model prog w) hp (classData C) cd := W.looks_clsIn X hcd
  rw [W.osa_eq, refuse_eq]
  refine wpAny_bind (wpAny_bind (I.type.at (wpAny_bind (l1.at ?_))))
  rw [pass]
  refine wpAny_pure (wpAny_bind (I.type.at (wpAny_bind ((W.looks_findIn X ha).at (wpAny_bind (l2.at ?_))))))
  show wpAny _ _ (storeInOwnDict (.ref x) (.ref C) (.str z tk) z v false) _ _ _
  obtain ⟨n1, n2, n3, n4, n5, n6, n7, n8, n9, n10, n11⟩ := cd
  dsimp only at hh
  subst hh
  unfold storeInOwnDict ownDictForStores
  repeat (first | with_reducible refine store_in_new ?_ ?_ | with_reducible refine wpAny_loadPart_at hx ?_ | with_reducible refine l3.at ?_ | wp_step)
  · exact ⟨_, #[], _, (Heap.get?_update_ne _ _ _ _ xs.symm).trans (Heap.get?_push_at rfl rfl), rfl, fun e he => absurd he (by simp), fun _ => rfl⟩
  · intro h' tk' n s
    have x1 : (hp.push { cls := .type "dict", data := .dict #[] }).get? x = some { cls := .ref C, data := .fields fv } := Heap.get?_push_of_some _ hx
    exact r h' tk' hp.objs.size (fun b o hb ho => (s.2 b (Nat.ne_of_lt (Heap.lt_size ho))).trans ((Heap.get?_update_ne _ _ _ _ hb).trans (Heap.get?_push_of_some _ ho))) (Nat.le_refl _) xs.symm ((s.2 x xs).trans (Heap.get?_update_self _ x1 rfl)) n
end
end FkE
namespace Fk
open PySem PySem.Spec PyProof.Rows L2
/-- an own exception class, over any built-in one -/
structure XcC (K : PySem.W.Frag) (C : Addr) : Prop where
  cls : ∃ nm q N bs bm sn sub ab col dd k0 k1 k2 k3 k5 B newId initId bmB, K.lookup C = some (excClassObj nm q C N bs bm true sn sub ab col dd k0 k1 k2 k3 k5 newId) ∧ ExcBaseFacts B newId initId bmB ∧ bm.contains (.type B) = true ∧ bm.contains (.type "AttributeError") = false ∧ bm.contains (.type "NameError") = false ∧
    (∀ x, refuseLoop x "__setattr__" (.ref C :: bm) = pure ()) ∧ bm.contains (.type "object") = true
  sa : PySem.W.findIn K (.ref C) "__setattr__" = some (some (.builtin "object.__setattr__"))
  kC : PySem.W.keepIn K (.ref C) = true
  ec : ExcC K C
section
variable {X : Cx} {pins : List (Addr × Obj)} {σ : L2.St} {H : Hp} {s : Shared} {a C dx : Addr} {f x : Str} {y : V} {u : Value} {fs : List (Str × V)} {e o : Expr} {es : List Expr} {kws : List Keyword} {ta te to : TE} {ts tk : TA} {p p' pos : Pos} {CX : CXT} {k : Nat} {fI : Addr} {fd : FuncData} {ps : List Str} {sp : Sp}
/-- C(..) as a value, C's own __init__ keeping sp -/
def tMkX (C : Addr) (sp : Sp) (ts : TA) : TE := fun σ H Q => ts σ H fun vs H1 => vs.length ≤ 1000 ∧ ∀ a, H1 a = none → sp (.ref a :: vs) (upd H1 a (exo a C none)) (fun v H2 => v = .non ∧ Q (.ref a) H2) (fun _ _ _ => False)
theorem run_mkX {us : List Value} {ws : List Value} {vs : List V} {ks : List Str} {Q : VK} (T : XcC X.K C) (iC : PySem.W.findIn X.K (.ref C) "__init__" = some (some (.ref fI))) (tI : PySem.W.typeIn X.K (.ref fI) = some (.type "function")) (F : FnOk X.prog X.w X.K X.mg X.base CX k fI fd ps sp) (hr : Room (k + 1) X.A) (hx : Passes CX X (fun _ _ _ => False))
    (hk : ks.zip ws = [] ∨ ∃ k v, ks.zip ws = [(k, v)]) (hb : ∀ (s : Shared) (z : Value), X.K.In s.heap → BindsTo s fd ⟨z :: us, ks.zip ws⟩ (ps.zip (z :: (us ++ ws)))) (I : Inv X pins σ H s) (r : Vals vs (us ++ ws)) (hl : vs.length ≤ 1000)
    (h : ∀ a, H a = none → sp (.ref a :: vs) (upd H a (exo a C none)) (fun v H2 => v = .non ∧ Q (.ref a) H2) (fun _ _ _ => False)) :
    wpAny (model X.prog X.w) X.A (call (.ref C) us (ks.zip ws)) (EP X pins σ Q) X.xe s := by
  obtain ⟨nm, q, N, bs, bm, sn, sub, ab, col, dd, k0, k1, k2, k3, k5, B, n1, n2, bmB, hC, G, c1, c2, c3, c4, c5⟩ := T.cls
  obtain ⟨hp, g, dr, tk, os⟩ := s
  have sz : hp.objs.size ≤ hp.objs.size + 1 := Nat.le_succ _
  have hn : H (hp.objs.size + 1) = none := I.hok.fresh sz
  have kk : ∀ b o, hp.get? b = some o → ((hp.push (PySem.W.kdv_tup us)).push (FkE.exN C hp.objs.size)).get? b = some o := fun b o e => Heap.get?_push_of_some _ (Heap.get?_push_of_some _ e)
  have own : ((hp.push (PySem.W.kdv_tup us)).push (FkE.exN C hp.objs.size)).get? (hp.objs.size + 1) = some (FkE.exN C hp.objs.size) := by heap_get
  have I2 : Inv X pins σ (upd H (hp.objs.size + 1) (exo (hp.objs.size + 1) C none)) ⟨(hp.push (PySem.W.kdv_tup us)).push (FkE.exN C hp.objs.size), g, dr, tk, os⟩ :=
    I.laid (t' := tk) (a := hp.objs.size + 1) (o := exo (hp.objs.size + 1) C none) (h' := (hp.push (PySem.W.kdv_tup us)).push (FkE.exN C hp.objs.size)) kk sz (exo_ok own)
  have r2 : Vals (V.ref (hp.objs.size + 1) :: vs) (Value.ref (hp.objs.size + 1) :: (us ++ ws)) := .cons rfl r
  have lu : us.length ≤ sizeLine := by
    have := Paired.length r
    rw [List.length_append] at this
    rw [sizeLine_eq]
    omega
  refine wpAny_call (FkE.made_call G c1 c2 c3 hk (I.kIn _ _ hC) (PySem.W.looks_findIn I.kIn iC) (fun z => PySem.W.bind_fn I.kIn z tI) lu
    (codeAny_mono (F.run _ X.stack _ _ ⟨Value.ref (hp.objs.size + 1) :: us, ks.zip ws⟩ (Value.ref (hp.objs.size + 1) :: (us ++ ws)) _ _ (fun _ _ _ => False) (hr.make C us (ks.zip ws)) (I2.env0.make C us (ks.zip ws)) (hb _ _ I2.kIn) r2 (h _ hn)) fun r s' z => ?_))
  cases r with
  | error er => exact hx pins σ _ _ er s' I2 z
  | ok fl =>
    cases fl with
    | ret u =>
      obtain ⟨v, H2, os2, bare2, un2, hok2, rv, ev, q2⟩ := z
      subst ev
      exact ⟨rv, .ref (hp.objs.size + 1), H2, I2.call' (ch := []) os2 un2 hok2 bare2 (fun b z => absurd z (by simp)), rfl, q2⟩
    | next => exact False.elim z
    | brk => exact False.elim z
    | cont => exact False.elim z
end
end Fk

/-! Forkpolls: exceptions as values, readings. -/
namespace Fk
open PySem PySem.Spec PyProof.Rows L2
section
variable {X : Cx} {pins : List (Addr × Obj)} {σ : L2.St} {H : Hp} {s : Shared} {a C dx : Addr} {f x : Str} {y : V} {u : Value} {fs : List (Str × V)} {e o : Expr} {es : List Expr} {kws : List Keyword} {ta te to : TE} {ts tk : TA} {p p' pos : Pos} {CX : CXT} {k : Nat} {fI : Addr} {fd : FuncData} {ps : List Str} {sp : Sp}
theorem pe_mkX (T : XcC X.K C) (iC : PySem.W.findIn X.K (.ref C) "__init__" = some (some (.ref fI))) (tI : PySem.W.typeIn X.K (.ref fI) = some (.type "function")) (F : FnOk X.prog X.w X.K X.mg X.base CX k fI fd ps sp) (hr : Room (k + 1) X.A) (hx : Passes CX X (fun _ _ _ => False))
    (hb : Binds X.K fd ps []) (hm : X.mg x = some (.ref C)) (ha : PA X (e :: es) ts) (hg : Gl X x := by rfl) (hdb : (x == ("__debug__" : Str)) = false := by decide) (he : starEach (e :: es) X.env = (false, eval e X.env) :: starEach es X.env := by rfl) (hpl : (backTo pos (starEach es X.env)).any (·.1) = false := by rfl) :
    PE X (.Call (.Name x p) (e :: es) [] pos) (tMkX C sp ts) := by
  refine ⟨fun pins s σ H Q I h => ?_⟩
  refine wpAny_Call_Name_kw (ld_glob I hg hm ?_ hdb)
  refine PySem.W.callWith_K (h₀ := X.base) I.ok.mod.kin T.kC (thn (ha.run pos pins s σ H _ I h) fun us s1 ⟨vs, H1, I1, r1, hz, q1⟩ => ⟨I1.kIn, ?_⟩) he hpl
  have hlen : ∀ a, H1 a = none → vs.length + 1 = ps.length := fun a ha => F.len _ _ _ _ (q1 a ha)
  exact run_mkX (ks := []) (ws := []) T iC tI F hr hx (.inl rfl) (fun s z kin => by
    have l : (z :: us ++ []).length = ps.length := by
      rw [List.append_nil, List.length_cons, ← Paired.length r1]
      exact hlen _ (I1.hok.fresh (Nat.le_refl _))
    have := hb s (z :: us) kin l
    rw [List.append_nil] at this
    rw [List.append_nil]
    exact this) I1 (by rw [List.append_nil]; exact r1) hz q1
theorem pe_mkXk {k1 : Str} (T : XcC X.K C) (iC : PySem.W.findIn X.K (.ref C) "__init__" = some (some (.ref fI))) (tI : PySem.W.typeIn X.K (.ref fI) = some (.type "function")) (F : FnOk X.prog X.w X.K X.mg X.base CX k fI fd ps sp) (hr : Room (k + 1) X.A) (hx : Passes CX X (fun _ _ _ => False))
    (hb : ∀ (s : Shared) (z v : Value), X.K.In s.heap → BindsTo s fd ⟨[z], [(k1, v)]⟩ (ps.zip [z, v])) (hm : X.mg x = some (.ref C)) (hkw : PK X kws tk) (hp2 : ps.length = 2) (hg : Gl X x := by rfl) (hdb : (x == ("__debug__" : Str)) = false := by decide)
    (hall : (backToKw pos (keywordEach kws X.env)).all (·.1.isSome) = true := by rfl) (hks : (backToKw pos (keywordEach kws X.env)).filterMap (·.1) = [k1] := by rfl) (hpl : ((backTo pos (starEach [] X.env)).any (·.1) || (backToKw pos (keywordEach kws X.env)).any (·.1.isNone)) = false := by rfl) :
    PE X (.Call (.Name x p) [] kws pos) (tMkX C sp tk) := by
  refine ⟨fun pins s σ H Q I h => ?_⟩
  refine wpAny_Call_Name_kw (ld_glob I hg hm ?_ hdb)
  refine PySem.W.callWith_KW0 (h₀ := X.base) I.ok.mod.kin T.kC hall ?_ hpl
  refine thn (hkw.run pos pins s σ H _ I h) fun ws s2 ⟨zs, H2, I2, rz, l1, q2⟩ => ⟨I2.kIn, ?_⟩
  rw [hks]
  have l : zs.length = 1 := by
    have := F.len _ _ _ _ (q2 _ (I2.hok.fresh (Nat.le_refl _)))
    rw [hp2] at this
    simpa using this
  have lw : ws.length = 1 := by rw [← Paired.length rz]; exact l
  match ws, lw with
  | [v], _ => exact run_mkX (us := []) (ws := [v]) (ks := [k1]) T iC tI F hr hx (.inr ⟨k1, v, rfl⟩) (fun s z kin => hb s z v kin) I2 rz l1 q2
/-- self.f = e, the first field -/
def tStX (K : PySem.W.Frag) (f : Str) (to te : TE) : TS := fun D σ H => te σ H fun y H1 => to σ H1 fun x H2 => ∃ a C : Addr, x = .ref a ∧ XcC K C ∧ PySem.W.findIn K (.ref C) f = some none ∧ H2 a = some (exo a C none) ∧ ∀ dx, H2 dx = none → dx ≠ a → D.nx σ (upd (upd H2 dx (exd dx [(f, y)])) a (exo a C (some dx)))
theorem stX_ok {A : Around} {E : Value → Shared → Prop} {Q : Unit → Shared → Prop} (T : XcC X.K C) (I : Inv X pins σ H s) (e : H a = some (exo a C none)) (hno : PySem.W.findIn X.K (.ref C) f = some none) (ry : RelV y u)
    (h : ∀ dx s', H dx = none → dx ≠ a → Inv X pins σ (upd (upd H dx (exd dx [(f, y)])) a (exo a C (some dx))) s' → Q () s') : wpAny (model X.prog X.w) A (setAttr (.ref a) f u) Q E s := by
  obtain ⟨nm, q, N, bs, bm, sn, sub, ab, col, dd, k0, k1, k2, k3, k5, B, n1, n2, bmB, hC, G, c1, c2, c3, c4, c5⟩ := T.cls
  have cl : PySem.W.clsIn X.K C = some { name := nm, bases := bs, mro := .ref C :: bm, ns := N, qualname := q, hasDict := true, slotNames := sn, subclasses := sub, abstract := ab, collection := col, hasDel := false } := by unfold PySem.W.clsIn; rw [hC] <;> rfl
  obtain ⟨t1, ho⟩ := exo_at I.hok e
  obtain ⟨hp, g, d, t, os⟩ := s
  refine PySem.W.set_plain I.kIn (ox := { cls := .ref C, dict := none, data := .fields #[.ref t1, .none, .none, .none, .bool false, .none] }) (od := none) ⟨ho, rfl, rfl, trivial⟩ T.sa ?_
  refine FkE.first_field I.kIn ho cl (c4 _) rfl (by rw [List.contains_cons, c5, Bool.or_true]) rfl hno (fun h' tk' dx k dn dne hx hn => ?_)
  have nd0 : H dx = none := I.hok.fresh dn
  have nd : ∀ {b : Addr} {o : Obj}, hp.get? b = some o → b ≠ dx := fun {b o} q => Nat.ne_of_lt (Nat.lt_of_lt_of_le (Heap.lt_size q) dn)
  have na : ∀ {b : Addr}, H b = none → b ≠ a := fun {b} n z => by
    rw [z, e] at n
    cases n
  have U : Un X.fs [] H (upd (upd H dx (exd dx [(f, y)])) a (exo a C (some dx))) hp h' := {
    keep := fun b o q n _ _ => k b o (na n) q
    slot := fun b o q n _ _ => ⟨o.slots, k b o (na n) q⟩
    free := fun b o q n _ => by rw [upd_ne (na n), upd_ne (nd q), n]
    there := fun b o q _ => by
      by_cases hb : b = a
      · rw [hb]
        exact ⟨_, hx⟩
      · exact ⟨o, k b o hb q⟩
    tups := fun b xs q => by rw [upd_ne (at_ne e q exo_tup), upd_ne (ne_of_none q nd0), q]
    frzs := fun b o v q => by rw [upd_ne (at_ne e q exo_frz), upd_ne (ne_of_none q nd0), q]
    tbls := fun b ps q => ⟨#[], by rw [upd_ne (at_ne e q exo_tbl), upd_ne (ne_of_none q nd0), q] <;> simp⟩ }
  refine h dx _ nd0 dne (I.un (t' := tk') U fun b o q => ?_)
  by_cases hb : b = a
  · subst hb
    rw [upd_same] at q
    cases q
    exact exo_ok hx
  · rw [upd_ne hb] at q
    by_cases hd : b = dx
    · subst hd
      rw [upd_same] at q
      cases q
      exact exd_ok hn (relO_put (fs := []) ry fun g => True.intro)
    · rw [upd_ne hd] at q
      refine (I.hok b o q).stay (fun c v hc z => k c v ?_ z) (fun c hc => by rw [upd_ne (at_ne e hc exo_own), upd_ne (ne_of_none hc nd0), hc]) (fun c xs hc => by rw [upd_ne (at_ne e hc exo_tup), upd_ne (ne_of_none hc nd0), hc])
      rcases hc with hc | hc
      · rw [hc]
        exact hb
      · exact at_ne e hc exo_own
theorem ps_stX (ho : PE X o to) (he : PE X e te) (hs : swapsWith e (some (.Attribute o f p')) pos.line X.env = pure false := by rfl) : PS X (.Assign [.Attribute o f p'] e pos) (tStX X.K f to te) := by
  refine ⟨fun pins s σ H D I h => ?_⟩
  refine plainObj_wpAny_Assign_Attribute (thn (he.run pins s σ H _ I h) fun v s1 ⟨y, H1, I1, r1, q1⟩ => thn (ho.run pins s1 σ H1 _ I1 q1) fun u s2 ⟨x, H2, I2, r2, a, C, ex, T, hno, ea, q⟩ => ?_) hs
  subst ex
  obtain rfl : u = Value.ref a := r2
  exact stX_ok T I2 ea hno r1 fun dx s' n ne J => ⟨σ, _, J, q dx n ne⟩
/-- e.f, e an exception with this field -/
def tFlX (K : PySem.W.Frag) (f : Str) (te : TE) : TE := fun σ H Q => te σ H fun x H1 => ∃ (a C dx : Addr) (fs : List (Str × V)) (v : V), x = .ref a ∧ XcC K C ∧ PySem.W.findIn K (.ref C) f = some none ∧ H1 a = some (exo a C (some dx)) ∧ H1 dx = some (exd dx fs) ∧ fs.lookup f = some v ∧ Q v H1
theorem pe_flX (he : PE X e te) (hb : attributeBase e f X.env (eval e X.env) = eval e X.env := by rfl) : PE X (.Attribute e f pos) (tFlX X.K f te) := by
  refine ⟨fun pins s σ H Q I h => ?_⟩
  refine attr_of hb (thn (he.run pins s σ H _ I h) fun u s1 ⟨x, H1, I1, rx, a, C, dx, fs, v, ex, T, hno, ea, ed, l, q⟩ => ?_)
  subst ex
  obtain rfl : u = Value.ref a := rx
  obtain ⟨t1, ho⟩ := exo_at I1.hok ea
  obtain ⟨mA, hns, rel⟩ := exd_at I1.hok ed
  have hw := within_of rel
  obtain ⟨od, hod, hl⟩ := lookIn_ns (by
    obtain ⟨o, es, ep, h1, h2⟩ := hns
    exact ⟨o, es, ep, h1, h2.1, h2.2⟩)
  obtain ⟨u, hu, ru⟩ := RelO.some_of (v := v) (o := mA f) (by rw [← l]; exact rel f)
  have J : PySem.W.InstAt s1.heap a { cls := .ref C, dict := some dx, data := .fields #[.ref t1, .none, .none, .none, .bool false, .none] } C (some od) := ⟨ho, rfl, rfl, hod⟩
  exact HandSPX.exc_get I1.kIn J T.ec.hg T.ec.hk T.ec.hs (PySem.W.findObj_own T.ec.hd hno rfl (by rw [hl, hu])) (handed_of ru) ⟨v, H1, I1.tok _, ru, q⟩
end
end Fk

/-! Forkpolls: exceptions as values: made without arguments, asked for their class. -/
namespace Fk
open PySem PySem.Spec PyProof.Rows L2
section
variable {X : Cx} {C : Addr} {x : Str} {p pos : Pos}
/-- C(), C without an own __init__ -/
def tMkE (C : Addr) : TE := fun σ H Q => ∀ a, H a = none → Q (.ref a) (upd H a (ExO (.ref C) a))
theorem pe_mkE {bmB : List Value} {B newId initId : String} (F : ExcBaseFacts B newId initId bmB) (q : PySem.W.excIn X.K C bmB newId = true) (gC : X.mg x = some (.ref C)) (kC : PySem.W.keepIn X.K (.ref C) = true) (hg : Gl X x := by rfl) (hdb : (x == ("__debug__" : Str)) = false := by decide) :
    PE X (.Call (.Name x p) [] [] pos) (tMkE C) := by
  refine ⟨fun pins s σ H Q I h => ?_⟩
  refine wpAny_Call_Name_kw (ld_glob I hg gC ?_ hdb)
  refine PySem.W.callWith_K0 I.kIn kC ?_
  show wpAny _ _ (call (.ref C) []) _ _ _
  obtain ⟨bm, N, nm, qn, bs, hdct, sn, sub, ab, col, dd, k0, k1, k2, k3, k5, mN, hC, hN, hni, T⟩ := exc_obj I.kIn q
  refine wpAny_call_exc_subT F T hC hN hni (fun h' a hm => ?_) (Nat.zero_le _)
  have hn : H a = none := I.hok.gone hm.new
  obtain ⟨t, ht, _, _⟩ := hm.there
  exact ⟨.ref a, upd H a (ExO (.ref C) a), I.laidN hm.keeps hm.new hn (exO_ok ht ⟨rfl, rfl⟩ rfl rfl rfl (show 4 < 6 by decide)), rfl, h a hn⟩
/-- an exception of the class at C stands at a -/
def XAt (H : Hp) (a C : Addr) : Prop := (∃ dx fs, H a = some (exo a C (some dx)) ∧ H dx = some (exd dx fs)) ∨ H a = some (ExO (.ref C) a)
def rIsX (K : PySem.W.Frag) : List V → Hp → VK → Prop := fun xs H Q => ∃ (a C : Addr) (c : V) (cv : Value) (b : Bool), xs = [.ref a, c] ∧ XAt H a C ∧ ExcC K C ∧ ClsV c cv ∧ PySem.W.kitOne K (.ref C) cv = some b ∧ Q (.bl b) H
theorem call_isX : CallR X (.builtin "isinstance") (rIsX X.K) := by
  intro pins s σ H xs us Q I r h
  obtain ⟨a, C, c, cv, b, rfl, hx, T, hc, e, q⟩ := h
  obtain ⟨u1, u2, rfl, r1, r2⟩ := vals2 r
  cases r1
  have ec := hc.eq r2
  subst ec
  have cl : (PySem.W.clsIn X.K C).isSome = true := by
    obtain ⟨cd, h, _⟩ := PySem.W.any_some T.hd
    rw [h]
    rfl
  have fin : ∀ {o : Obj} {od : Option Obj}, PySem.W.InstAt s.heap a o C od → wpAny (model X.prog X.w) X.A (call (.builtin "isinstance") [.ref a, u2]) (EP X pins σ Q) X.xe s := fun {o od} J =>
    PySem.W.kia_one (PySem.W.kitx_exc cl T.hg T.hk T.hs T.ha T.hn T.ht T.hm) I.kIn J e (fun z => nomatch z) fun tk => ⟨.bl b, H, I.kept (t' := tk) fun _ _ z => z, rfl, q⟩
  rcases hx with ⟨dx, fs, h1, h2⟩ | h1
  · obtain ⟨t1, ho⟩ := exo_at I.hok h1
    obtain ⟨mA, hns, rel⟩ := exd_at I.hok h2
    obtain ⟨oD, _, _, hoD, _, _⟩ := hns.count (within_of rel)
    exact fin (o := { cls := .ref C, dict := some dx, data := .fields #[.ref t1, .none, .none, .none, .bool false, .none] }) (od := some oD) ⟨ho, rfl, rfl, hoD⟩
  · obtain ⟨⟨oe, vs, ho, hz, hd, _⟩, _⟩ := I.hok a _ h1
    obtain ⟨oc, od, oda, osl⟩ := oe
    obtain ⟨z1, z2⟩ := hz
    dsimp only at z1 z2 hd
    subst z1 z2 hd
    exact fin (od := none) ⟨ho, rfl, rfl, trivial⟩
end
end Fk

/-! Forkpolls: the facts of own exception classes. -/
namespace Fk
open PySem PySem.Spec PyProof.Rows L2
def ieTail : List Value := [.type "IndexError", .type "LookupError", .type "Exception", .type "BaseException", .type "object"]
def keTail : List Value := [.type "KeyError", .type "LookupError", .type "Exception", .type "BaseException", .type "object"]
def xpassVE (bm : List Value) : Bool := PySem.HandSPX.refsVE bm
def xpassIE (bm : List Value) : Bool := bm == ieTail
def xpassKE (bm : List Value) : Bool := bm == keTail
theorem ie_pass (x : Value) : refuseLoop x "__setattr__" ieTail = pure () := by kernel_rfl
theorem ke_pass (x : Value) : refuseLoop x "__setattr__" keTail = pure () := by kernel_rfl
section
variable {K : PySem.W.Frag} {nm q : Str} {C N : Addr} {bs bm : List Value} {sn : List Str} {sub : List Value} {ab : Bool} {col : Option Bool} {dd : Option Addr} {k0 k1 k2 k3 k5 : Option Value}
theorem xcVE (l : K.lookup C = some (excClassObj nm q C N bs bm true sn sub ab col dd k0 k1 k2 k3 k5 "ValueError.__new__")) (p : xpassVE bm = true) (sa : PySem.W.findIn K (.ref C) "__setattr__" = some (some (.builtin "object.__setattr__"))) (kC : PySem.W.keepIn K (.ref C) = true) (ec : ExcC K C) : XcC K C :=
  ⟨⟨nm, q, N, bs, bm, sn, sub, ab, col, dd, k0, k1, k2, k3, k5, _, _, _, _, l, PySem.F.excBase_ValueError, (PySem.HandSPX.refsVE_contains _ bm p).trans (by decide +kernel), (PySem.HandSPX.refsVE_contains _ bm p).trans (by decide +kernel), (PySem.HandSPX.refsVE_contains _ bm p).trans (by decide +kernel),
    fun x => PySem.HandSPX.refsVE_pass x (.ref C :: bm) p, (PySem.HandSPX.refsVE_contains _ bm p).trans (by decide +kernel)⟩, sa, kC, ec⟩
theorem xcIE (l : K.lookup C = some (excClassObj nm q C N bs bm true sn sub ab col dd k0 k1 k2 k3 k5 "IndexError.__new__")) (p : xpassIE bm = true) (sa : PySem.W.findIn K (.ref C) "__setattr__" = some (some (.builtin "object.__setattr__"))) (kC : PySem.W.keepIn K (.ref C) = true) (ec : ExcC K C) : XcC K C := by
  have e : bm = ieTail := beq_iff_eq.mp p
  subst e
  exact ⟨⟨nm, q, N, bs, ieTail, sn, sub, ab, col, dd, k0, k1, k2, k3, k5, _, _, _, _, l, PySem.F.excBase_IndexError, by decide +kernel, by decide +kernel, by decide +kernel, fun x => by rw [refuseLoop_ref]; exact ie_pass x, by decide +kernel⟩, sa, kC, ec⟩
theorem xcKE (l : K.lookup C = some (excClassObj nm q C N bs bm true sn sub ab col dd k0 k1 k2 k3 k5 "LookupError.__new__")) (p : xpassKE bm = true) (sa : PySem.W.findIn K (.ref C) "__setattr__" = some (some (.builtin "object.__setattr__"))) (kC : PySem.W.keepIn K (.ref C) = true) (ec : ExcC K C) : XcC K C := by
  have e : bm = keTail := beq_iff_eq.mp p
  subst e
  exact ⟨⟨nm, q, N, bs, keTail, sn, sub, ab, col, dd, k0, k1, k2, k3, k5, _, _, _, _, l, PySem.F.excBase_LookupError, by decide +kernel, by decide +kernel, by decide +kernel, fun x => by rw [refuseLoop_ref]; exact ke_pass x, by decide +kernel⟩, sa, kC, ec⟩
end
/-- a class of the text that isinstance is asked about -/
structure KitC (K : PySem.W.Frag) (C : Addr) : Prop where
  ic : PySem.W.isClsIn K C = true
  ty : PySem.W.typeIn K (.ref C) = some (.type "type")
  me : PySem.W.subIn K (.ref C) (.ref C) = some true
theorem KitC.kit {K : PySem.W.Frag} {C : Addr} {t : Value} {b : Bool} (c : KitC K C) (h : PySem.W.subIn K t (.ref C) = some b) : PySem.W.kitOne K t (.ref C) = some b := by
  unfold PySem.W.kitOne
  by_cases e : (t == Value.ref C) = true
  · rw [if_pos e]
    have e' : t = .ref C := beq_iff_eq.mp e
    subst e'
    rw [c.me] at h
    exact h
  · rw [if_neg e]
    have z : ((PySem.W.clsIn K C).isSome && PySem.W.typeIn K (.ref C) == some (.type "type")) = true := by
      have z1 : (PySem.W.clsIn K C).isSome = true := c.ic
      rw [z1, c.ty]
      rfl
    show (if ((PySem.W.clsIn K C).isSome && PySem.W.typeIn K (.ref C) == some (.type "type")) = true then PySem.W.subIn K t (.ref C) else none) = some b
    rw [if_pos z]
    exact h
end Fk

/-! Forkpolls: exceptions as values, evaluated. -/
namespace Fk
open PySem PySem.Spec PyProof.Rows L2
def spXi (K : PySem.W.Frag) (f : Str) : Sp := fun vs H Q _ => ∃ (a C : Addr) (v : V), vs = [.ref a, v] ∧ XcC K C ∧ PySem.W.findIn K (.ref C) f = some none ∧ H a = some (exo a C none) ∧ ∀ dx, H dx = none → dx ≠ a → Q .non (upd (upd H dx (exd dx [(f, v)])) a (exo a C (some dx)))
/-- an __init__ that keeps its one argument -/
def InitX (P : Program) (w : World) (K : PySem.W.Frag) (mg : Str → Option Value) (base : Heap) (f : Addr) (z : Str) : Prop :=
  ∃ fd, FnOk P w K mg base CX0 1 f fd ["self", z] (spXi K z) ∧ Binds K fd ["self", z] [] ∧ ∀ (s : Shared) (a v : Value), K.In s.heap → BindsTo s fd ⟨[a], [(z, v)]⟩ ((["self", z] : List Str).zip [a, v])
section
variable {X : Cx} {C fI : Addr} {x z : Str} {e : Expr} {es : List Expr} {kws : List Keyword} {ts : TA} {p pos : Pos} {k : Nat}
theorem pe_mkXI (T : XcC X.K C) (iC : PySem.W.findIn X.K (.ref C) "__init__" = some (some (.ref fI))) (tI : PySem.W.typeIn X.K (.ref fI) = some (.type "function")) (c : InitX X.prog X.w X.K X.mg X.base fI z) (hr : Room 2 X.A) (hm : X.mg x = some (.ref C)) (ha : PA X (e :: es) ts)
    (hg : Gl X x := by rfl) (hdb : (x == ("__debug__" : Str)) = false := by decide) (he : starEach (e :: es) X.env = (false, eval e X.env) :: starEach es X.env := by rfl) (hpl : (backTo pos (starEach es X.env)).any (·.1) = false := by rfl) : PE X (.Call (.Name x p) (e :: es) [] pos) (tMkX C (spXi X.K z) ts) := by
  obtain ⟨fd, F, b, _⟩ := c
  exact pe_mkX T iC tI F hr pass0 b hm ha hg hdb he hpl
theorem pe_mkXkI (T : XcC X.K C) (iC : PySem.W.findIn X.K (.ref C) "__init__" = some (some (.ref fI))) (tI : PySem.W.typeIn X.K (.ref fI) = some (.type "function")) (c : InitX X.prog X.w X.K X.mg X.base fI z) (hr : Room 2 X.A) (hm : X.mg x = some (.ref C)) (hkw : PK X kws ts)
    (hg : Gl X x := by rfl) (hdb : (x == ("__debug__" : Str)) = false := by decide) (hall : (backToKw pos (keywordEach kws X.env)).all (·.1.isSome) = true := by rfl) (hks : (backToKw pos (keywordEach kws X.env)).filterMap (·.1) = [z] := by rfl)
    (hpl : ((backTo pos (starEach [] X.env)).any (·.1) || (backToKw pos (keywordEach kws X.env)).any (·.1.isNone)) = false := by rfl) : PE X (.Call (.Name x p) [] kws pos) (tMkX C (spXi X.K z) ts) := by
  obtain ⟨fd, F, _, b⟩ := c
  exact pe_mkXk T iC tI F hr pass0 b hm hkw rfl hg hdb hall hks hpl
end
/-- a new exception that keeps v under z -/
def XN (R : Res) (C : Addr) (z : Str) (v : V) : VP := fun u H => ∃ a dx, u = .ref a ∧ H a = some (exo a C (some dx)) ∧ H dx = some (exd dx [(z, v)]) ∧ (a ∉ R.D ∧ a ∉ R.h) ∧ (dx ∉ R.D ∧ dx ∉ R.h)
section
variable {K : PySem.W.Frag} {R : Res} {σ : L2.St} {H Hc H0 H1 H' : Hp} {ta tb te tl : TE} {ts : TA} {C a : Addr} {z : Str} {v u : V} {Ps Qs : List VP} {P : VP}
theorem stb_xn : Stb R (XN R C z v) := fun _ _ _ g ⟨a, dx, e, h1, h2, d1, d2⟩ => ⟨a, dx, e, g.2 a _ h1 d1.1 d1.2, g.2 dx _ h2 d2.1 d2.2, d1, d2⟩
theorem ev_mkX (T : XcC K C) (hn : PySem.W.findIn K (.ref C) z = some none) (h : EvA R ts σ H [Is v]) : EvP R (tMkX C (spXi K z) ts) σ H (XN R C z v) := fun H1 g1 Q q =>
  h H1 g1 _ fun vs H2 g2 ps => by
    cases psOk1 ps
    refine ⟨(show 1 ≤ 1000 by decide), fun a ha => ⟨a, C, v, rfl, T, hn, upd_same, fun dx hdx ne => ⟨rfl, ?_⟩⟩⟩
    rw [upd_ne ne] at hdx
    refine q _ _ (g2.trans (Gv.same g2.1.1 fun y o e => ?_)) ⟨a, dx, rfl, upd_same, by rw [upd_ne ne, upd_same], off g2.1.1 ha, off g2.1.1 hdx⟩
    rw [upd_ne (ne_of_none e ha), upd_ne (ne_of_none e hdx), upd_ne (ne_of_none e ha)]
    exact e
theorem stb_lsOk (s : ∀ P, P ∈ Ps → Stb R P) : Stb R (LsOk R Ps) := fun _ _ _ g ⟨p, xs, e, h, hd, ps⟩ => ⟨p, xs, e, g.2 p _ h hd.1 hd.2, hd, psOk_stb s g ps⟩
theorem ev_lstE (s : ∀ P, P ∈ Ps → Stb R P) (h : EvA R ts σ H Ps) (hl : Ps.length ≤ 1000) : EvP R (tLst ts) σ H (LsOk R Ps) := fun H1 g Q q =>
  h H1 g _ fun vs H2 g2 ps => ⟨by rw [psOk_len ps]; exact small hl, fun p hp => q _ _ (g2.trans (Gv.new g2.1.1 hp)) ⟨p, vs, rfl, upd_same, off g2.1.1 hp, psOk_stb s (Gv.new g2.1.1 hp).1 ps⟩⟩
theorem psOk_app : ∀ {Ps Qs : List VP} {xs ys : List V}, PsOk Ps xs H → PsOk Qs ys H → PsOk (Ps ++ Qs) (xs ++ ys) H
  | [], _, [], _, _, h => h
  | _ :: _, _, _ :: _, _, ⟨h1, h2⟩, h => ⟨h1, psOk_app h2 h⟩
theorem ev_catE2 (sP : ∀ P, P ∈ Ps → Stb R P) (sQ : ∀ P, P ∈ Qs → Stb R P) (ha : EvP R ta σ H (LsOk R Ps)) (hb : EvP R tb σ H (LsOk R Qs)) (hl : Ps.length + Qs.length ≤ 1000) : EvP R (tOp rCat ta tb) σ H (LsOk R (Ps ++ Qs)) :=
  ev_op (stb_lsOk sP) ha hb fun x y H1 g ⟨p, xs, e1, h1, _, ps⟩ ⟨p2, ys, e2, h2, _, qs⟩ Q q => ⟨p, p2, xs, ys, e1, e2, h1, h2, by rw [psOk_len ps, psOk_len qs]; exact small hl, fun l hl' =>
    q _ _ (Gv.new g.1 hl') ⟨l, xs ++ ys, rfl, upd_same, off g.1 hl', psOk_app (psOk_stb sP (Gv.new g.1 hl').1 ps) (psOk_stb sQ (Gv.new g.1 hl').1 qs)⟩⟩
theorem XAt.same (h : XAt H a C) (e : Same H H') : XAt H' a C := by
  rcases h with ⟨dx, fs, h1, h2⟩ | h
  · exact .inl ⟨dx, fs, e _ _ h1, e _ _ h2⟩
  · exact .inr (e _ _ h)
theorem ev_isX {c : V} {cv : Value} {b : Bool} (h : EvP R ta σ H (Is (.ref a))) (hb : EvP R tb σ H (Is c)) (k : ClsV c cv) (hx : Al R (fun H' => XAt H' a C) H) (T : ExcC K C) (e : PySem.W.kitOne K (.ref C) cv = some b) : EvP R (tCB (rIsX K) (tCons ta (tCons tb tNil))) σ H (Is (.bl b)) :=
  ev_cb (ea_is h (ea_is hb ea_nil)) fun vs H1 g ps Q q => by
    cases psOk2 ps
    exact ⟨a, C, c, cv, b, rfl, hx H1 g, T, k, e, q _ H1 g.at rfl⟩
theorem ev_flX {dx : Addr} {fs : List (Str × V)} (h : EvP R te σ H (Is (.ref a))) (T : XcC K C) (hn : PySem.W.findIn K (.ref C) z = some none) (h1 : Al R (fun H' => H' a = some (exo a C (some dx)) ∧ H' dx = some (exd dx fs)) H) (l : fs.lookup z = some v) : EvP R (tFlX K z te) σ H (Is v) := fun H1 g Q q =>
  h H1 g _ fun u H2 g2 e => ⟨a, C, dx, fs, v, e, T, hn, (h1 H2 (g.trans g2)).1, (h1 H2 (g.trans g2)).2, l, q v H2 g2 rfl⟩
theorem ev_sum {ns : List Int} (h : EvP R ta σ H (LstN R (ns.map V.int))) : EvP R (tCB (rSum K) (tCons ta tNil)) σ H (Is (.int ns.sum)) := fun H1 g Q q =>
  h H1 g _ fun u H2 g2 ⟨p, e, hp, _⟩ => ⟨p, ns, by rw [e], .inl (.inl hp), q _ H2 g2 rfl⟩
/-- a for over a list of which something is known -/
theorem s_forL {tu : TS} {D : Ends} {g : TG} {P : List V → VP} (h : EvP R tl σ H (fun u H => ∃ p xs, u = .ref p ∧ P xs u H ∧ H p = some (.lst xs) ∧ (p ∉ R.D ∧ p ∉ R.h))) (gc : Gr R H Hc)
    (k : ∀ p xs H1, Gr R H H1 → Gv R Hc H1 → P xs (.ref p) H1 → ∃ Pv : Nat → L2.St → Hp → Prop, Pv 0 σ H1 ∧ (∀ i σ' H', i ≤ xs.length → Pv i σ' H' → Gr R H1 H') ∧
      (∀ i x σ' H', i < xs.length → Pv i σ' H' → xs[i]? = some x → g x σ' H' fun σ2 H3 => tu { D with nx := Pv (i + 1), ct := Pv (i + 1), bk := D.nx } σ2 H3) ∧ ∀ σ' H', Pv xs.length σ' H' → D.nx σ' H') :
    tFor (iList K tl) g tu D σ Hc := h Hc gc _ fun u H1 a1 ⟨p, xs, e, hP, hp, hd⟩ => by
  subst e
  refine ⟨p, rfl, ⟨xs, .inl (.inl hp)⟩, ?_⟩
  obtain ⟨Pv, h0, h1, h2, h3⟩ := k p xs H1 (gc.trans a1) a1 hP
  refine for_it walk_list Pv h0 (fun i σ' H' hi pv => .inl (.inl ((h1 i σ' H' hi pv).2 p _ hp hd.1 hd.2))) (fun i x σ' H' H'' hi pv y => ?_) h3
  obtain ⟨y1, y2⟩ := y
  subst y1
  exact h2 i x σ' _ hi pv y2
end
end Fk

/-! Forkpolls: data that is shown; lists of bools. -/
namespace Fk
open PySem PySem.Spec PyProof.Rows L2
section
variable {K : PySem.W.Frag} {R : Res} {σ : L2.St} {H Hc : Hp} {t : TT} {D : Ends} {tu : TS}
theorem s_ifK {b : Bool} (J : Hp → Prop) (k : ∀ H5, J H5 → D.nx σ H5) (h : EvT R t σ H b) (g : Gr R H Hc) (h1 : b = true → ∀ H1, Gr R H H1 → Gv R Hc H1 → (∀ H5, J H5 → D.nx σ H5) → tu D σ H1) (h2 : b = false → ∀ H1, Gr R H H1 → Gv R Hc H1 → J H1) : tIfS t tu tNext D σ Hc :=
  s_if1 h g (fun hb H1 a b => h1 hb H1 a b k) fun hb H1 a b => k H1 (h2 hb H1 a b)
end
def dBools (bs : List Bool) : PyData := .list (bs.map PyData.bool)
theorem dpAll_bools {K : PySem.W.Frag} {H : Hp} : ∀ bs : List Bool, DpAll K H (bs.map V.bl) (bs.map PyData.bool)
  | [] => .nil
  | b :: bs => .cons (.bl b) (dpAll_bools bs)
theorem ev_boolsD {K : PySem.W.Frag} {R : Res} {σ : L2.St} {H : Hp} {te : TE} {bs : List Bool} (h : EvP R te σ H (LstN R (bs.map V.bl))) : EvP R te σ H (Rp K R (dBools bs)) := ev_imp h fun u H' g ⟨p, e, hp, hd⟩ => e ▸ fun H2 g2 => .lst (.inl (.inl (g2.2 p _ hp hd.1 hd.2))) (dpAll_bools bs)
/-- it can be shown -/
structure OkD (d : PyData) : Prop where
  s : d.showable = true
  n : d.hasDict = false
  l : d.shown.length ≤ sizeLine
  p : d.depth ≤ 50
theorem okD_of {d : PyData} (l : PyData.layable0 d = true) (i : PyData.intsShort 13 d = true) (s : d.showable = true) (n : d.hasDict = false) (h : d.depth ≤ 50) : OkD d := ⟨s, n, PyData.shown_fits_of_layable0 (B := 13) (by decide) (by decide) l i, h⟩
theorem ev_reprD {K : PySem.W.Frag} {R : Res} {σ : L2.St} {H : Hp} {te : TE} {d : PyData} (ok : OkD d) (h : EvP R te σ H (Rp K R d)) : EvP R (tCB (rReprD K) (tCons te tNil)) σ H (Is (.str d.shown)) := ev_cb (ea_cons stb_rp h ea_nil) fun vs H1 g ps Q q => by
  match vs, ps with
  | [u], ⟨hu, _⟩ => exact ⟨u, d, rfl, hu.now g.1, ok.s, ok.n, ok.p, ok.l, q _ H1 g.at rfl⟩
theorem log_lt {i : Int} (h : i.natAbs < 2 ^ 30) : i.natAbs.log2 < 30 := by
  by_cases z : i.natAbs = 0
  · rw [z]; decide
  · exact (Nat.log2_lt z).mpr h
theorem int_ok {i : Int} (h : i.natAbs < 2 ^ 30) : (PyData.int i).showable = true ∧ PyData.weight (.int i) ≤ 31 ∧ (PyData.shown (.int i)).length ≤ 13 := by
  have l := log_lt h
  refine ⟨decide_eq_true (by omega), ?_, PyData.shown_int_le (by omega)⟩
  show (if i == 0 then 0 else i.natAbs.log2 + 1) ≤ 31
  split <;> omega
theorem lay_of {d : PyData} (c : d.canLay0 = true) (h : d.depth ≤ 64) (w : d.weight ≤ 2 ^ 20) : PyData.layable0 d = true := by
  show (d.canLay0 && decide (d.depth ≤ 64) && decide (d.weight ≤ 2 ^ 20)) = true
  rw [c, decide_eq_true h, decide_eq_true w]
  rfl
theorem okD_int {i : Int} (h : i.natAbs < 2 ^ 30) : OkD (.int i) := by
  obtain ⟨a, b, c⟩ := int_ok h
  exact okD_of (lay_of rfl (Nat.zero_le 64) (by omega)) (decide_eq_true c) a rfl (Nat.zero_le 50)
theorem okD_tup {i : Int} (h : i.natAbs < 2 ^ 30) : OkD (.tuple [.int i, .none]) := by
  obtain ⟨a, b, c⟩ := int_ok h
  refine okD_of (lay_of rfl (show 1 ≤ 64 by decide) ?_) ?_ ?_ rfl (show 1 ≤ 50 by decide)
  · show PyData.weight (.int i) + 1 + (0 + 1 + 0) ≤ 2 ^ 20
    omega
  · show (decide ((PyData.shown (.int i)).length ≤ 13) && (true && true)) = true
    rw [decide_eq_true c]
    rfl
  · show (PyData.showable (.int i) && (true && true)) = true
    rw [a]
    rfl
theorem okD_lst {i : Int} (h : i.natAbs < 2 ^ 30) : OkD (.list [.int i, .list [.int 1], .int 7]) := by
  obtain ⟨a, b, c⟩ := int_ok h
  have w1 := (int_ok (i := 1) (by decide)).2.1
  have w7 := (int_ok (i := 7) (by decide)).2.1
  refine okD_of (lay_of rfl (show 2 ≤ 64 by decide) ?_) ?_ ?_ rfl (show 2 ≤ 50 by decide)
  · show PyData.weight (.int i) + 1 + ((PyData.weight (.int 1) + 1 + 0) + 1 + (PyData.weight (.int 7) + 1 + 0)) ≤ 2 ^ 20
    omega
  · show (decide ((PyData.shown (.int i)).length ≤ 13) && ((decide ((PyData.shown (.int 1)).length ≤ 13) && true) && (decide ((PyData.shown (.int 7)).length ≤ 13) && true))) = true
    rw [decide_eq_true c, decide_eq_true (int_ok (i := 1) (by decide)).2.2, decide_eq_true (int_ok (i := 7) (by decide)).2.2]
    rfl
  · show (PyData.showable (.int i) && ((PyData.showable (.int 1) && true) && (PyData.showable (.int 7) && true))) = true
    rw [a]
    decide
theorem okD_7 : OkD (.list [.int 7]) := ⟨by decide, rfl, by decide +kernel, by decide⟩
theorem okD_non : OkD .none := ⟨rfl, rfl, by decide +kernel, by decide⟩
theorem okD_true : OkD (.bool true) := ⟨rfl, rfl, by decide +kernel, by decide⟩
theorem okD_empty : OkD (.str "") := ⟨rfl, rfl, by decide +kernel, by decide⟩
theorem okD_mark : OkD (.str "mark") := ⟨rfl, rfl, by decide +kernel, by decide⟩
end Fk

namespace Fk
open PySem PySem.Spec PyProof.Rows L2
def topS (i : Nat) : Stmt := PySem.Challenge.pw_forkpolls_k01_errors_and_what_they_keep.main.body.getD i (.Pass ⟨0, 0, 0, 0⟩)
abbrev s_InvalidRow_init : Stmt := (inClass (topS 2) 0)
theorem sc_InvalidRow_init : FnScope ["self", "word"] ["self", "word"] (defScope s_InvalidRow_init) := ⟨rfl, rfl, rfl, by decide +kernel, rfl, by decide +kernel, by decide +kernel⟩
abbrev s_InvalidBook_init : Stmt := (inClass (topS 3) 0)
theorem sc_InvalidBook_init : FnScope ["self", "word"] ["self", "word"] (defScope s_InvalidBook_init) := ⟨rfl, rfl, rfl, by decide +kernel, rfl, by decide +kernel, by decide +kernel⟩
abbrev s_InvalidText_init : Stmt := (inClass (topS 4) 0)
theorem sc_InvalidText_init : FnScope ["self", "at"] ["self", "at"] (defScope s_InvalidText_init) := ⟨rfl, rfl, rfl, by decide +kernel, rfl, by decide +kernel, by decide +kernel⟩
abbrev s_InvalidEvent_init : Stmt := (inClass (topS 5) 0)
theorem sc_InvalidEvent_init : FnScope ["self", "at"] ["self", "at"] (defScope s_InvalidEvent_init) := ⟨rfl, rfl, rfl, by decide +kernel, rfl, by decide +kernel, by decide +kernel⟩
abbrev s_Refused_init : Stmt := (inClass (topS 8) 0)
theorem sc_Refused_init : FnScope ["self", "at"] ["self", "at"] (defScope s_Refused_init) := ⟨rfl, rfl, rfl, by decide +kernel, rfl, by decide +kernel, by decide +kernel⟩
abbrev s_NoRow_init : Stmt := (inClass (topS 9) 0)
theorem sc_NoRow_init : FnScope ["self", "at"] ["self", "at"] (defScope s_NoRow_init) := ⟨rfl, rfl, rfl, by decide +kernel, rfl, by decide +kernel, by decide +kernel⟩
abbrev s_NoMark_init : Stmt := (inClass (topS 10) 0)
theorem sc_NoMark_init : FnScope ["self", "name"] ["self", "name"] (defScope s_NoMark_init) := ⟨rfl, rfl, rfl, by decide +kernel, rfl, by decide +kernel, by decide +kernel⟩
abbrev s_law_things : Stmt := (topS 12)
theorem sc_law_things : FnScope ["_law_script", "_law_total", "_law_cell"] ["_law_script"] (defScope s_law_things) := ⟨rfl, rfl, rfl, by decide +kernel, rfl, by decide +kernel, by decide +kernel⟩
abbrev s_law_placed : Stmt := (topS 13)
theorem sc_law_placed : FnScope ["_law_zthing", "_law_found"] ["_law_zthing"] (defScope s_law_placed) := ⟨rfl, rfl, rfl, by decide +kernel, rfl, by decide +kernel, by decide +kernel⟩
abbrev s_law_named : Stmt := (topS 14)
theorem sc_law_named : FnScope ["_law_zthing", "_law_found"] ["_law_zthing"] (defScope s_law_named) := ⟨rfl, rfl, rfl, by decide +kernel, rfl, by decide +kernel, by decide +kernel⟩
abbrev s_law_kept : Stmt := (topS 15)
theorem sc_law_kept : FnScope ["_law_zerror", "_law_zspot"] ["_law_zerror", "_law_zspot"] (defScope s_law_kept) := ⟨rfl, rfl, rfl, by decide +kernel, rfl, by decide +kernel, by decide +kernel⟩
abbrev s_law_sorts : Stmt := (topS 16)
theorem sc_law_sorts : FnScope ["_law_zerror", "_law_found"] ["_law_zerror"] (defScope s_law_sorts) := ⟨rfl, rfl, rfl, by decide +kernel, rfl, by decide +kernel, by decide +kernel⟩
abbrev s_law_is_right : Stmt := (topS 17)
theorem sc_law_is_right : FnScope ["_law_zerror", "_law_zspot", "_law_is_base", "_law_zone"] ["_law_zerror", "_law_zspot"] (defScope s_law_is_right) := ⟨rfl, rfl, rfl, by decide +kernel, rfl, by decide +kernel, by decide +kernel⟩
abbrev s_law : Stmt := (topS 18)
theorem sc_law : FnScope ["_law_script", "_law_zthing", "_law_zgiven", "_law_zmade", "_law_zother", "_law_zspot", "_law_zerror"] ["_law_script"] (defScope s_law) := ⟨rfl, rfl, rfl, by decide +kernel, rfl, by decide +kernel, by decide +kernel⟩
structure Ads where
  PollError : Addr
  InvalidRow : Addr
  InvalidBook : Addr
  InvalidText : Addr
  InvalidEvent : Addr
  Refused : Addr
  NoRow : Addr
  NoMark : Addr
  InvalidFault : Addr
  InvalidCommand : Addr
  f_InvalidRow_init : Addr
  f_InvalidBook_init : Addr
  f_InvalidText_init : Addr
  f_InvalidEvent_init : Addr
  f_Refused_init : Addr
  f_NoRow_init : Addr
  f_NoMark_init : Addr
  f_law_things : Addr
  f_law_placed : Addr
  f_law_named : Addr
  f_law_kept : Addr
  f_law_sorts : Addr
  f_law_is_right : Addr
  f_law : Addr
structure Tx (A : Ads) (K : PySem.W.Frag) (mg : Str → Option Value) : Prop where
  z_isinstance : mg "isinstance" = none
  z_int : mg "int" = none
  z_abs : mg "abs" = none
  z_list : mg "list" = none
  z_range : mg "range" = none
  z_repr : mg "repr" = none
  z_sum : mg "sum" = none
  z_ValueError : mg "ValueError" = none
  z_IndexError : mg "IndexError" = none
  z_KeyError : mg "KeyError" = none
  g_PollError : mg "PollError" = some (.ref A.PollError)
  g_InvalidRow : mg "InvalidRow" = some (.ref A.InvalidRow)
  g_InvalidBook : mg "InvalidBook" = some (.ref A.InvalidBook)
  g_InvalidText : mg "InvalidText" = some (.ref A.InvalidText)
  g_InvalidEvent : mg "InvalidEvent" = some (.ref A.InvalidEvent)
  g_Refused : mg "Refused" = some (.ref A.Refused)
  g_NoRow : mg "NoRow" = some (.ref A.NoRow)
  g_NoMark : mg "NoMark" = some (.ref A.NoMark)
  g_InvalidFault : mg "InvalidFault" = some (.ref A.InvalidFault)
  g_InvalidCommand : mg "InvalidCommand" = some (.ref A.InvalidCommand)
  m_InvalidRow_init : PySem.W.findIn K (.ref A.InvalidRow) "__init__" = some (some (.ref A.f_InvalidRow_init))
  i_f_InvalidRow_init : PySem.W.isFn K (.ref A.f_InvalidRow_init) = true
  d_InvalidRow_init : ∃ fd, Fun K "__init__" "InvalidRow.__init__" s_InvalidRow_init A.f_InvalidRow_init fd
  m_InvalidBook_init : PySem.W.findIn K (.ref A.InvalidBook) "__init__" = some (some (.ref A.f_InvalidBook_init))
  i_f_InvalidBook_init : PySem.W.isFn K (.ref A.f_InvalidBook_init) = true
  d_InvalidBook_init : ∃ fd, Fun K "__init__" "InvalidBook.__init__" s_InvalidBook_init A.f_InvalidBook_init fd
  m_InvalidText_init : PySem.W.findIn K (.ref A.InvalidText) "__init__" = some (some (.ref A.f_InvalidText_init))
  i_f_InvalidText_init : PySem.W.isFn K (.ref A.f_InvalidText_init) = true
  d_InvalidText_init : ∃ fd, Fun K "__init__" "InvalidText.__init__" s_InvalidText_init A.f_InvalidText_init fd
  m_InvalidEvent_init : PySem.W.findIn K (.ref A.InvalidEvent) "__init__" = some (some (.ref A.f_InvalidEvent_init))
  i_f_InvalidEvent_init : PySem.W.isFn K (.ref A.f_InvalidEvent_init) = true
  d_InvalidEvent_init : ∃ fd, Fun K "__init__" "InvalidEvent.__init__" s_InvalidEvent_init A.f_InvalidEvent_init fd
  m_Refused_init : PySem.W.findIn K (.ref A.Refused) "__init__" = some (some (.ref A.f_Refused_init))
  i_f_Refused_init : PySem.W.isFn K (.ref A.f_Refused_init) = true
  d_Refused_init : ∃ fd, Fun K "__init__" "Refused.__init__" s_Refused_init A.f_Refused_init fd
  m_NoRow_init : PySem.W.findIn K (.ref A.NoRow) "__init__" = some (some (.ref A.f_NoRow_init))
  i_f_NoRow_init : PySem.W.isFn K (.ref A.f_NoRow_init) = true
  d_NoRow_init : ∃ fd, Fun K "__init__" "NoRow.__init__" s_NoRow_init A.f_NoRow_init fd
  m_NoMark_init : PySem.W.findIn K (.ref A.NoMark) "__init__" = some (some (.ref A.f_NoMark_init))
  i_f_NoMark_init : PySem.W.isFn K (.ref A.f_NoMark_init) = true
  d_NoMark_init : ∃ fd, Fun K "__init__" "NoMark.__init__" s_NoMark_init A.f_NoMark_init fd
  ft_f_InvalidRow_init : PySem.W.typeIn K (.ref A.f_InvalidRow_init) = some (.type "function")
  ft_f_InvalidBook_init : PySem.W.typeIn K (.ref A.f_InvalidBook_init) = some (.type "function")
  ft_f_InvalidText_init : PySem.W.typeIn K (.ref A.f_InvalidText_init) = some (.type "function")
  ft_f_InvalidEvent_init : PySem.W.typeIn K (.ref A.f_InvalidEvent_init) = some (.type "function")
  ft_f_Refused_init : PySem.W.typeIn K (.ref A.f_Refused_init) = some (.type "function")
  ft_f_NoRow_init : PySem.W.typeIn K (.ref A.f_NoRow_init) = some (.type "function")
  ft_f_NoMark_init : PySem.W.typeIn K (.ref A.f_NoMark_init) = some (.type "function")
  ogt : PySem.W.specialIn K (.builtin "object.__class__") "__get__" = some (some (.builtin "getset_descriptor.__get__"))
  otk : PySem.W.takesIn K (.builtin "object.__class__") = some true
  x_InvalidRow : XcC K A.InvalidRow
  x_InvalidBook : XcC K A.InvalidBook
  x_InvalidText : XcC K A.InvalidText
  x_InvalidEvent : XcC K A.InvalidEvent
  x_Refused : XcC K A.Refused
  x_NoRow : XcC K A.NoRow
  x_NoMark : XcC K A.NoMark
  y_InvalidFault : ExcC K A.InvalidFault ∧ PySem.W.excIn K A.InvalidFault [.type "ValueError", .type "Exception", .type "BaseException", .type "object"] "ValueError.__new__" = true ∧ PySem.W.keepIn K (.ref A.InvalidFault) = true
  y_InvalidCommand : ExcC K A.InvalidCommand ∧ PySem.W.excIn K A.InvalidCommand [.type "ValueError", .type "Exception", .type "BaseException", .type "object"] "ValueError.__new__" = true ∧ PySem.W.keepIn K (.ref A.InvalidCommand) = true
  k_PollError : KitC K A.PollError
  k_InvalidRow : KitC K A.InvalidRow
  k_InvalidBook : KitC K A.InvalidBook
  k_InvalidText : KitC K A.InvalidText
  k_InvalidEvent : KitC K A.InvalidEvent
  k_Refused : KitC K A.Refused
  k_NoRow : KitC K A.NoRow
  k_NoMark : KitC K A.NoMark
  k_InvalidFault : KitC K A.InvalidFault
  k_InvalidCommand : KitC K A.InvalidCommand
  na_InvalidRow_word : NoAttr K A.InvalidRow "word"
  na_InvalidBook_word : NoAttr K A.InvalidBook "word"
  na_InvalidText_at : NoAttr K A.InvalidText "at"
  na_InvalidEvent_at : NoAttr K A.InvalidEvent "at"
  na_Refused_at : NoAttr K A.Refused "at"
  na_NoRow_at : NoAttr K A.NoRow "at"
  na_NoMark_name : NoAttr K A.NoMark "name"
  s00 : PySem.W.subIn K (.ref A.InvalidRow) (.ref A.InvalidRow) = some true
  s01 : PySem.W.subIn K (.ref A.InvalidRow) (.ref A.InvalidBook) = some false
  s02 : PySem.W.subIn K (.ref A.InvalidRow) (.ref A.InvalidText) = some false
  s03 : PySem.W.subIn K (.ref A.InvalidRow) (.ref A.InvalidEvent) = some false
  s04 : PySem.W.subIn K (.ref A.InvalidRow) (.ref A.Refused) = some false
  s05 : PySem.W.subIn K (.ref A.InvalidRow) (.ref A.NoRow) = some false
  s06 : PySem.W.subIn K (.ref A.InvalidRow) (.ref A.NoMark) = some false
  s07 : PySem.W.subIn K (.ref A.InvalidRow) (.ref A.InvalidFault) = some false
  s08 : PySem.W.subIn K (.ref A.InvalidRow) (.ref A.InvalidCommand) = some false
  sp0 : PySem.W.subIn K (.ref A.InvalidRow) (.ref A.PollError) = some true
  sv0 : PySem.W.subIn K (.ref A.InvalidRow) (.type "ValueError") = some true
  si0 : PySem.W.subIn K (.ref A.InvalidRow) (.type "IndexError") = some false
  sk0 : PySem.W.subIn K (.ref A.InvalidRow) (.type "KeyError") = some false
  s10 : PySem.W.subIn K (.ref A.InvalidBook) (.ref A.InvalidRow) = some false
  s11 : PySem.W.subIn K (.ref A.InvalidBook) (.ref A.InvalidBook) = some true
  s12 : PySem.W.subIn K (.ref A.InvalidBook) (.ref A.InvalidText) = some false
  s13 : PySem.W.subIn K (.ref A.InvalidBook) (.ref A.InvalidEvent) = some false
  s14 : PySem.W.subIn K (.ref A.InvalidBook) (.ref A.Refused) = some false
  s15 : PySem.W.subIn K (.ref A.InvalidBook) (.ref A.NoRow) = some false
  s16 : PySem.W.subIn K (.ref A.InvalidBook) (.ref A.NoMark) = some false
  s17 : PySem.W.subIn K (.ref A.InvalidBook) (.ref A.InvalidFault) = some false
  s18 : PySem.W.subIn K (.ref A.InvalidBook) (.ref A.InvalidCommand) = some false
  sp1 : PySem.W.subIn K (.ref A.InvalidBook) (.ref A.PollError) = some true
  sv1 : PySem.W.subIn K (.ref A.InvalidBook) (.type "ValueError") = some true
  si1 : PySem.W.subIn K (.ref A.InvalidBook) (.type "IndexError") = some false
  sk1 : PySem.W.subIn K (.ref A.InvalidBook) (.type "KeyError") = some false
  s20 : PySem.W.subIn K (.ref A.InvalidText) (.ref A.InvalidRow) = some false
  s21 : PySem.W.subIn K (.ref A.InvalidText) (.ref A.InvalidBook) = some false
  s22 : PySem.W.subIn K (.ref A.InvalidText) (.ref A.InvalidText) = some true
  s23 : PySem.W.subIn K (.ref A.InvalidText) (.ref A.InvalidEvent) = some false
  s24 : PySem.W.subIn K (.ref A.InvalidText) (.ref A.Refused) = some false
  s25 : PySem.W.subIn K (.ref A.InvalidText) (.ref A.NoRow) = some false
  s26 : PySem.W.subIn K (.ref A.InvalidText) (.ref A.NoMark) = some false
  s27 : PySem.W.subIn K (.ref A.InvalidText) (.ref A.InvalidFault) = some false
  s28 : PySem.W.subIn K (.ref A.InvalidText) (.ref A.InvalidCommand) = some false
  sp2 : PySem.W.subIn K (.ref A.InvalidText) (.ref A.PollError) = some true
  sv2 : PySem.W.subIn K (.ref A.InvalidText) (.type "ValueError") = some true
  si2 : PySem.W.subIn K (.ref A.InvalidText) (.type "IndexError") = some false
  sk2 : PySem.W.subIn K (.ref A.InvalidText) (.type "KeyError") = some false
  s30 : PySem.W.subIn K (.ref A.InvalidEvent) (.ref A.InvalidRow) = some false
  s31 : PySem.W.subIn K (.ref A.InvalidEvent) (.ref A.InvalidBook) = some false
  s32 : PySem.W.subIn K (.ref A.InvalidEvent) (.ref A.InvalidText) = some false
  s33 : PySem.W.subIn K (.ref A.InvalidEvent) (.ref A.InvalidEvent) = some true
  s34 : PySem.W.subIn K (.ref A.InvalidEvent) (.ref A.Refused) = some false
  s35 : PySem.W.subIn K (.ref A.InvalidEvent) (.ref A.NoRow) = some false
  s36 : PySem.W.subIn K (.ref A.InvalidEvent) (.ref A.NoMark) = some false
  s37 : PySem.W.subIn K (.ref A.InvalidEvent) (.ref A.InvalidFault) = some false
  s38 : PySem.W.subIn K (.ref A.InvalidEvent) (.ref A.InvalidCommand) = some false
  sp3 : PySem.W.subIn K (.ref A.InvalidEvent) (.ref A.PollError) = some true
  sv3 : PySem.W.subIn K (.ref A.InvalidEvent) (.type "ValueError") = some true
  si3 : PySem.W.subIn K (.ref A.InvalidEvent) (.type "IndexError") = some false
  sk3 : PySem.W.subIn K (.ref A.InvalidEvent) (.type "KeyError") = some false
  s40 : PySem.W.subIn K (.ref A.Refused) (.ref A.InvalidRow) = some false
  s41 : PySem.W.subIn K (.ref A.Refused) (.ref A.InvalidBook) = some false
  s42 : PySem.W.subIn K (.ref A.Refused) (.ref A.InvalidText) = some false
  s43 : PySem.W.subIn K (.ref A.Refused) (.ref A.InvalidEvent) = some false
  s44 : PySem.W.subIn K (.ref A.Refused) (.ref A.Refused) = some true
  s45 : PySem.W.subIn K (.ref A.Refused) (.ref A.NoRow) = some false
  s46 : PySem.W.subIn K (.ref A.Refused) (.ref A.NoMark) = some false
  s47 : PySem.W.subIn K (.ref A.Refused) (.ref A.InvalidFault) = some false
  s48 : PySem.W.subIn K (.ref A.Refused) (.ref A.InvalidCommand) = some false
  sp4 : PySem.W.subIn K (.ref A.Refused) (.ref A.PollError) = some true
  sv4 : PySem.W.subIn K (.ref A.Refused) (.type "ValueError") = some true
  si4 : PySem.W.subIn K (.ref A.Refused) (.type "IndexError") = some false
  sk4 : PySem.W.subIn K (.ref A.Refused) (.type "KeyError") = some false
  s50 : PySem.W.subIn K (.ref A.NoRow) (.ref A.InvalidRow) = some false
  s51 : PySem.W.subIn K (.ref A.NoRow) (.ref A.InvalidBook) = some false
  s52 : PySem.W.subIn K (.ref A.NoRow) (.ref A.InvalidText) = some false
  s53 : PySem.W.subIn K (.ref A.NoRow) (.ref A.InvalidEvent) = some false
  s54 : PySem.W.subIn K (.ref A.NoRow) (.ref A.Refused) = some false
  s55 : PySem.W.subIn K (.ref A.NoRow) (.ref A.NoRow) = some true
  s56 : PySem.W.subIn K (.ref A.NoRow) (.ref A.NoMark) = some false
  s57 : PySem.W.subIn K (.ref A.NoRow) (.ref A.InvalidFault) = some false
  s58 : PySem.W.subIn K (.ref A.NoRow) (.ref A.InvalidCommand) = some false
  sp5 : PySem.W.subIn K (.ref A.NoRow) (.ref A.PollError) = some false
  sv5 : PySem.W.subIn K (.ref A.NoRow) (.type "ValueError") = some false
  si5 : PySem.W.subIn K (.ref A.NoRow) (.type "IndexError") = some true
  sk5 : PySem.W.subIn K (.ref A.NoRow) (.type "KeyError") = some false
  s60 : PySem.W.subIn K (.ref A.NoMark) (.ref A.InvalidRow) = some false
  s61 : PySem.W.subIn K (.ref A.NoMark) (.ref A.InvalidBook) = some false
  s62 : PySem.W.subIn K (.ref A.NoMark) (.ref A.InvalidText) = some false
  s63 : PySem.W.subIn K (.ref A.NoMark) (.ref A.InvalidEvent) = some false
  s64 : PySem.W.subIn K (.ref A.NoMark) (.ref A.Refused) = some false
  s65 : PySem.W.subIn K (.ref A.NoMark) (.ref A.NoRow) = some false
  s66 : PySem.W.subIn K (.ref A.NoMark) (.ref A.NoMark) = some true
  s67 : PySem.W.subIn K (.ref A.NoMark) (.ref A.InvalidFault) = some false
  s68 : PySem.W.subIn K (.ref A.NoMark) (.ref A.InvalidCommand) = some false
  sp6 : PySem.W.subIn K (.ref A.NoMark) (.ref A.PollError) = some false
  sv6 : PySem.W.subIn K (.ref A.NoMark) (.type "ValueError") = some false
  si6 : PySem.W.subIn K (.ref A.NoMark) (.type "IndexError") = some false
  sk6 : PySem.W.subIn K (.ref A.NoMark) (.type "KeyError") = some true
  s70 : PySem.W.subIn K (.ref A.InvalidFault) (.ref A.InvalidRow) = some false
  s71 : PySem.W.subIn K (.ref A.InvalidFault) (.ref A.InvalidBook) = some false
  s72 : PySem.W.subIn K (.ref A.InvalidFault) (.ref A.InvalidText) = some false
  s73 : PySem.W.subIn K (.ref A.InvalidFault) (.ref A.InvalidEvent) = some false
  s74 : PySem.W.subIn K (.ref A.InvalidFault) (.ref A.Refused) = some false
  s75 : PySem.W.subIn K (.ref A.InvalidFault) (.ref A.NoRow) = some false
  s76 : PySem.W.subIn K (.ref A.InvalidFault) (.ref A.NoMark) = some false
  s77 : PySem.W.subIn K (.ref A.InvalidFault) (.ref A.InvalidFault) = some true
  s78 : PySem.W.subIn K (.ref A.InvalidFault) (.ref A.InvalidCommand) = some false
  sp7 : PySem.W.subIn K (.ref A.InvalidFault) (.ref A.PollError) = some true
  sv7 : PySem.W.subIn K (.ref A.InvalidFault) (.type "ValueError") = some true
  si7 : PySem.W.subIn K (.ref A.InvalidFault) (.type "IndexError") = some false
  sk7 : PySem.W.subIn K (.ref A.InvalidFault) (.type "KeyError") = some false
  s80 : PySem.W.subIn K (.ref A.InvalidCommand) (.ref A.InvalidRow) = some false
  s81 : PySem.W.subIn K (.ref A.InvalidCommand) (.ref A.InvalidBook) = some false
  s82 : PySem.W.subIn K (.ref A.InvalidCommand) (.ref A.InvalidText) = some false
  s83 : PySem.W.subIn K (.ref A.InvalidCommand) (.ref A.InvalidEvent) = some false
  s84 : PySem.W.subIn K (.ref A.InvalidCommand) (.ref A.Refused) = some false
  s85 : PySem.W.subIn K (.ref A.InvalidCommand) (.ref A.NoRow) = some false
  s86 : PySem.W.subIn K (.ref A.InvalidCommand) (.ref A.NoMark) = some false
  s87 : PySem.W.subIn K (.ref A.InvalidCommand) (.ref A.InvalidFault) = some false
  s88 : PySem.W.subIn K (.ref A.InvalidCommand) (.ref A.InvalidCommand) = some true
  sp8 : PySem.W.subIn K (.ref A.InvalidCommand) (.ref A.PollError) = some true
  sv8 : PySem.W.subIn K (.ref A.InvalidCommand) (.type "ValueError") = some true
  si8 : PySem.W.subIn K (.ref A.InvalidCommand) (.type "IndexError") = some false
  sk8 : PySem.W.subIn K (.ref A.InvalidCommand) (.type "KeyError") = some false
  d_law_things : mg "_law_things" = some (.ref A.f_law_things) ∧ ∃ fd, Fun K "_law_things" "_law_things" s_law_things A.f_law_things fd
  d_law_placed : mg "_law_placed" = some (.ref A.f_law_placed) ∧ ∃ fd, Fun K "_law_placed" "_law_placed" s_law_placed A.f_law_placed fd
  d_law_named : mg "_law_named" = some (.ref A.f_law_named) ∧ ∃ fd, Fun K "_law_named" "_law_named" s_law_named A.f_law_named fd
  d_law_kept : mg "_law_kept" = some (.ref A.f_law_kept) ∧ ∃ fd, Fun K "_law_kept" "_law_kept" s_law_kept A.f_law_kept fd
  d_law_sorts : mg "_law_sorts" = some (.ref A.f_law_sorts) ∧ ∃ fd, Fun K "_law_sorts" "_law_sorts" s_law_sorts A.f_law_sorts fd
  d_law_is_right : mg "_law_is_right" = some (.ref A.f_law_is_right) ∧ ∃ fd, Fun K "_law_is_right" "_law_is_right" s_law_is_right A.f_law_is_right fd
  d_law : mg "law" = some (.ref A.f_law) ∧ ∃ fd, Fun K "law" "law" s_law A.f_law fd

section
variable {P : Program} {w : World} {A : Ads} {K : PySem.W.Frag} {mg : Str → Option Value} {base : Heap}
/-! ### what the errors' __init__ do -/
theorem ok_InvalidRow {f : Addr} {fd : FuncData} (F : Fun K "__init__" "InvalidRow.__init__" s_InvalidRow_init f fd) : FnOk P w K mg base CX0 1 f fd ["self", "word"] (spXi K "word") := by
  refine F.ok sc_InvalidRow_init (fun vs H Q E h => ?_) (fun cdv A2 outer s H vs Q E hr h => ?_)
  · obtain ⟨a, C, v, rfl, _⟩ := h; rfl
  · obtain ⟨a, C, v, rfl, hc, hn, ha, q⟩ := h
    exact ⟨_, (pss_one (ps_stX (pv 0) (pv 1))), v, rfl, .ref a, rfl, a, C, rfl, hc, hn, ha, q⟩
theorem ok_InvalidBook {f : Addr} {fd : FuncData} (F : Fun K "__init__" "InvalidBook.__init__" s_InvalidBook_init f fd) : FnOk P w K mg base CX0 1 f fd ["self", "word"] (spXi K "word") := by
  refine F.ok sc_InvalidBook_init (fun vs H Q E h => ?_) (fun cdv A2 outer s H vs Q E hr h => ?_)
  · obtain ⟨a, C, v, rfl, _⟩ := h; rfl
  · obtain ⟨a, C, v, rfl, hc, hn, ha, q⟩ := h
    exact ⟨_, (pss_one (ps_stX (pv 0) (pv 1))), v, rfl, .ref a, rfl, a, C, rfl, hc, hn, ha, q⟩
theorem ok_InvalidText {f : Addr} {fd : FuncData} (F : Fun K "__init__" "InvalidText.__init__" s_InvalidText_init f fd) : FnOk P w K mg base CX0 1 f fd ["self", "at"] (spXi K "at") := by
  refine F.ok sc_InvalidText_init (fun vs H Q E h => ?_) (fun cdv A2 outer s H vs Q E hr h => ?_)
  · obtain ⟨a, C, v, rfl, _⟩ := h; rfl
  · obtain ⟨a, C, v, rfl, hc, hn, ha, q⟩ := h
    exact ⟨_, (pss_one (ps_stX (pv 0) (pv 1))), v, rfl, .ref a, rfl, a, C, rfl, hc, hn, ha, q⟩
theorem ok_InvalidEvent {f : Addr} {fd : FuncData} (F : Fun K "__init__" "InvalidEvent.__init__" s_InvalidEvent_init f fd) : FnOk P w K mg base CX0 1 f fd ["self", "at"] (spXi K "at") := by
  refine F.ok sc_InvalidEvent_init (fun vs H Q E h => ?_) (fun cdv A2 outer s H vs Q E hr h => ?_)
  · obtain ⟨a, C, v, rfl, _⟩ := h; rfl
  · obtain ⟨a, C, v, rfl, hc, hn, ha, q⟩ := h
    exact ⟨_, (pss_one (ps_stX (pv 0) (pv 1))), v, rfl, .ref a, rfl, a, C, rfl, hc, hn, ha, q⟩
theorem ok_Refused {f : Addr} {fd : FuncData} (F : Fun K "__init__" "Refused.__init__" s_Refused_init f fd) : FnOk P w K mg base CX0 1 f fd ["self", "at"] (spXi K "at") := by
  refine F.ok sc_Refused_init (fun vs H Q E h => ?_) (fun cdv A2 outer s H vs Q E hr h => ?_)
  · obtain ⟨a, C, v, rfl, _⟩ := h; rfl
  · obtain ⟨a, C, v, rfl, hc, hn, ha, q⟩ := h
    exact ⟨_, (pss_one (ps_stX (pv 0) (pv 1))), v, rfl, .ref a, rfl, a, C, rfl, hc, hn, ha, q⟩
theorem ok_NoRow {f : Addr} {fd : FuncData} (F : Fun K "__init__" "NoRow.__init__" s_NoRow_init f fd) : FnOk P w K mg base CX0 1 f fd ["self", "at"] (spXi K "at") := by
  refine F.ok sc_NoRow_init (fun vs H Q E h => ?_) (fun cdv A2 outer s H vs Q E hr h => ?_)
  · obtain ⟨a, C, v, rfl, _⟩ := h; rfl
  · obtain ⟨a, C, v, rfl, hc, hn, ha, q⟩ := h
    exact ⟨_, (pss_one (ps_stX (pv 0) (pv 1))), v, rfl, .ref a, rfl, a, C, rfl, hc, hn, ha, q⟩
theorem ok_NoMark {f : Addr} {fd : FuncData} (F : Fun K "__init__" "NoMark.__init__" s_NoMark_init f fd) : FnOk P w K mg base CX0 1 f fd ["self", "name"] (spXi K "name") := by
  refine F.ok sc_NoMark_init (fun vs H Q E h => ?_) (fun cdv A2 outer s H vs Q E hr h => ?_)
  · obtain ⟨a, C, v, rfl, _⟩ := h; rfl
  · obtain ⟨a, C, v, rfl, hc, hn, ha, q⟩ := h
    exact ⟨_, (pss_one (ps_stX (pv 0) (pv 1))), v, rfl, .ref a, rfl, a, C, rfl, hc, hn, ha, q⟩
end
def clsA (A : Ads) : Nat → Addr
  | 0 => A.InvalidRow
  | 1 => A.InvalidBook
  | 2 => A.InvalidText
  | 3 => A.InvalidEvent
  | 4 => A.Refused
  | 5 => A.NoRow
  | 6 => A.NoMark
  | 7 => A.InvalidFault
  | _ => A.InvalidCommand
def fldN : Nat → Str
  | 0 => "word"
  | 1 => "word"
  | 6 => "name"
  | _ => "at"
structure XI (P : Program) (w : World) (K : PySem.W.Frag) (mg : Str → Option Value) (base : Heap) (A : Ads) : Prop where
  i_InvalidRow : InitX P w K mg base A.f_InvalidRow_init "word"
  i_InvalidBook : InitX P w K mg base A.f_InvalidBook_init "word"
  i_InvalidText : InitX P w K mg base A.f_InvalidText_init "at"
  i_InvalidEvent : InitX P w K mg base A.f_InvalidEvent_init "at"
  i_Refused : InitX P w K mg base A.f_Refused_init "at"
  i_NoRow : InitX P w K mg base A.f_NoRow_init "at"
  i_NoMark : InitX P w K mg base A.f_NoMark_init "name"
section
variable {P : Program} {w : World} {A : Ads} {K : PySem.W.Frag} {mg : Str → Option Value} {base : Heap}
theorem x_of (T : Tx A K mg) {i : Nat} (h : i < 7) : XcC K (clsA A i) ∧ PySem.W.findIn K (.ref (clsA A i)) (fldN i) = some none := by
  match i, h with
  | 0, _ => exact ⟨T.x_InvalidRow, T.na_InvalidRow_word⟩
  | 1, _ => exact ⟨T.x_InvalidBook, T.na_InvalidBook_word⟩
  | 2, _ => exact ⟨T.x_InvalidText, T.na_InvalidText_at⟩
  | 3, _ => exact ⟨T.x_InvalidEvent, T.na_InvalidEvent_at⟩
  | 4, _ => exact ⟨T.x_Refused, T.na_Refused_at⟩
  | 5, _ => exact ⟨T.x_NoRow, T.na_NoRow_at⟩
  | 6, _ => exact ⟨T.x_NoMark, T.na_NoMark_name⟩
theorem ec_of (T : Tx A K mg) {i : Nat} (h : i < 9) : ExcC K (clsA A i) := by
  match i, h with
  | 0, _ => exact T.x_InvalidRow.ec
  | 1, _ => exact T.x_InvalidBook.ec
  | 2, _ => exact T.x_InvalidText.ec
  | 3, _ => exact T.x_InvalidEvent.ec
  | 4, _ => exact T.x_Refused.ec
  | 5, _ => exact T.x_NoRow.ec
  | 6, _ => exact T.x_NoMark.ec
  | 7, _ => exact T.y_InvalidFault.1
  | 8, _ => exact T.y_InvalidCommand.1
theorem kc_of (T : Tx A K mg) {i : Nat} (h : i < 9) : KitC K (clsA A i) := by
  match i, h with
  | 0, _ => exact T.k_InvalidRow
  | 1, _ => exact T.k_InvalidBook
  | 2, _ => exact T.k_InvalidText
  | 3, _ => exact T.k_InvalidEvent
  | 4, _ => exact T.k_Refused
  | 5, _ => exact T.k_NoRow
  | 6, _ => exact T.k_NoMark
  | 7, _ => exact T.k_InvalidFault
  | 8, _ => exact T.k_InvalidCommand
theorem sub_of (T : Tx A K mg) {i j : Nat} (hi : i < 9) (hj : j < 9) : PySem.W.subIn K (.ref (clsA A i)) (.ref (clsA A j)) = some (decide (i = j)) := by
  match i, hi, j, hj with
  | 0, _, 0, _ => exact T.s00
  | 0, _, 1, _ => exact T.s01
  | 0, _, 2, _ => exact T.s02
  | 0, _, 3, _ => exact T.s03
  | 0, _, 4, _ => exact T.s04
  | 0, _, 5, _ => exact T.s05
  | 0, _, 6, _ => exact T.s06
  | 0, _, 7, _ => exact T.s07
  | 0, _, 8, _ => exact T.s08
  | 1, _, 0, _ => exact T.s10
  | 1, _, 1, _ => exact T.s11
  | 1, _, 2, _ => exact T.s12
  | 1, _, 3, _ => exact T.s13
  | 1, _, 4, _ => exact T.s14
  | 1, _, 5, _ => exact T.s15
  | 1, _, 6, _ => exact T.s16
  | 1, _, 7, _ => exact T.s17
  | 1, _, 8, _ => exact T.s18
  | 2, _, 0, _ => exact T.s20
  | 2, _, 1, _ => exact T.s21
  | 2, _, 2, _ => exact T.s22
  | 2, _, 3, _ => exact T.s23
  | 2, _, 4, _ => exact T.s24
  | 2, _, 5, _ => exact T.s25
  | 2, _, 6, _ => exact T.s26
  | 2, _, 7, _ => exact T.s27
  | 2, _, 8, _ => exact T.s28
  | 3, _, 0, _ => exact T.s30
  | 3, _, 1, _ => exact T.s31
  | 3, _, 2, _ => exact T.s32
  | 3, _, 3, _ => exact T.s33
  | 3, _, 4, _ => exact T.s34
  | 3, _, 5, _ => exact T.s35
  | 3, _, 6, _ => exact T.s36
  | 3, _, 7, _ => exact T.s37
  | 3, _, 8, _ => exact T.s38
  | 4, _, 0, _ => exact T.s40
  | 4, _, 1, _ => exact T.s41
  | 4, _, 2, _ => exact T.s42
  | 4, _, 3, _ => exact T.s43
  | 4, _, 4, _ => exact T.s44
  | 4, _, 5, _ => exact T.s45
  | 4, _, 6, _ => exact T.s46
  | 4, _, 7, _ => exact T.s47
  | 4, _, 8, _ => exact T.s48
  | 5, _, 0, _ => exact T.s50
  | 5, _, 1, _ => exact T.s51
  | 5, _, 2, _ => exact T.s52
  | 5, _, 3, _ => exact T.s53
  | 5, _, 4, _ => exact T.s54
  | 5, _, 5, _ => exact T.s55
  | 5, _, 6, _ => exact T.s56
  | 5, _, 7, _ => exact T.s57
  | 5, _, 8, _ => exact T.s58
  | 6, _, 0, _ => exact T.s60
  | 6, _, 1, _ => exact T.s61
  | 6, _, 2, _ => exact T.s62
  | 6, _, 3, _ => exact T.s63
  | 6, _, 4, _ => exact T.s64
  | 6, _, 5, _ => exact T.s65
  | 6, _, 6, _ => exact T.s66
  | 6, _, 7, _ => exact T.s67
  | 6, _, 8, _ => exact T.s68
  | 7, _, 0, _ => exact T.s70
  | 7, _, 1, _ => exact T.s71
  | 7, _, 2, _ => exact T.s72
  | 7, _, 3, _ => exact T.s73
  | 7, _, 4, _ => exact T.s74
  | 7, _, 5, _ => exact T.s75
  | 7, _, 6, _ => exact T.s76
  | 7, _, 7, _ => exact T.s77
  | 7, _, 8, _ => exact T.s78
  | 8, _, 0, _ => exact T.s80
  | 8, _, 1, _ => exact T.s81
  | 8, _, 2, _ => exact T.s82
  | 8, _, 3, _ => exact T.s83
  | 8, _, 4, _ => exact T.s84
  | 8, _, 5, _ => exact T.s85
  | 8, _, 6, _ => exact T.s86
  | 8, _, 7, _ => exact T.s87
  | 8, _, 8, _ => exact T.s88
def isBase (i : Nat) : Bool := !(i == 5) && !(i == 6)
theorem sub_p (T : Tx A K mg) {i : Nat} (hi : i < 9) : PySem.W.subIn K (.ref (clsA A i)) (.ref A.PollError) = some (isBase i) := by
  match i, hi with
  | 0, _ => exact T.sp0
  | 1, _ => exact T.sp1
  | 2, _ => exact T.sp2
  | 3, _ => exact T.sp3
  | 4, _ => exact T.sp4
  | 5, _ => exact T.sp5
  | 6, _ => exact T.sp6
  | 7, _ => exact T.sp7
  | 8, _ => exact T.sp8
theorem sub_v (T : Tx A K mg) {i : Nat} (hi : i < 9) : PySem.W.subIn K (.ref (clsA A i)) (.type "ValueError") = some (isBase i) := by
  match i, hi with
  | 0, _ => exact T.sv0
  | 1, _ => exact T.sv1
  | 2, _ => exact T.sv2
  | 3, _ => exact T.sv3
  | 4, _ => exact T.sv4
  | 5, _ => exact T.sv5
  | 6, _ => exact T.sv6
  | 7, _ => exact T.sv7
  | 8, _ => exact T.sv8
theorem sub_i (T : Tx A K mg) {i : Nat} (hi : i < 9) : PySem.W.subIn K (.ref (clsA A i)) (.type "IndexError") = some ((i == 5)) := by
  match i, hi with
  | 0, _ => exact T.si0
  | 1, _ => exact T.si1
  | 2, _ => exact T.si2
  | 3, _ => exact T.si3
  | 4, _ => exact T.si4
  | 5, _ => exact T.si5
  | 6, _ => exact T.si6
  | 7, _ => exact T.si7
  | 8, _ => exact T.si8
theorem sub_k (T : Tx A K mg) {i : Nat} (hi : i < 9) : PySem.W.subIn K (.ref (clsA A i)) (.type "KeyError") = some ((i == 6)) := by
  match i, hi with
  | 0, _ => exact T.sk0
  | 1, _ => exact T.sk1
  | 2, _ => exact T.sk2
  | 3, _ => exact T.sk3
  | 4, _ => exact T.sk4
  | 5, _ => exact T.sk5
  | 6, _ => exact T.sk6
  | 7, _ => exact T.sk7
  | 8, _ => exact T.sk8
/-- the seven, each keeping v -/
def made7 (A : Ads) (v : V) : List VP := (List.range 7).map fun i => XN Free (clsA A i) (fldN i) v
theorem stb_made {R : Res} {v : V} : ∀ P, P ∈ (List.range 7).map (fun i => XN R (clsA A i) (fldN i) v) → Stb R P := fun P h => by
  obtain ⟨i, _, rfl⟩ := List.mem_map.mp h
  exact stb_xn
def spMade (A : Ads) : Sp := fun vs H Q _ => ∃ v, vs = [v] ∧ ∀ p es H', Same H H' → H' p = some (.lst es) → PsOk (made7 A v) es H' → Q (.ref p) H'

theorem ok_placed (T : Tx A K mg) (c : XI P w K mg base A) {f : Addr} {fd : FuncData} (F : Fun K "_law_placed" "_law_placed" s_law_placed f fd) : FnOk P w K mg base CX0 3 f fd ["_law_zthing"] (spMade A) := by
  refine F.ok sc_law_placed (fun vs H Q E h => ?_) (fun cdv A2 outer s H vs Q E hr h => ?_)
  · obtain ⟨v, rfl, _⟩ := h; rfl
  · obtain ⟨v, rfl, q⟩ := h
    refine ⟨_, (pss_cons (ps_set (i := 1) sc_law_placed.nd rfl (by first | exact .inl rfl | exact .inr rfl) (pe_lst (pa_cons (pe_mkXI T.x_InvalidRow T.m_InvalidRow_init T.ft_f_InvalidRow_init c.i_InvalidRow (hr.mono (by decide)) T.g_InvalidRow (pa_cons (pv 0) pa_nil)) (pa_cons (pe_mkXI T.x_InvalidBook T.m_InvalidBook_init T.ft_f_InvalidBook_init c.i_InvalidBook (hr.mono (by decide)) T.g_InvalidBook (pa_cons (pv 0) pa_nil)) (pa_cons (pe_mkXI T.x_InvalidText T.m_InvalidText_init T.ft_f_InvalidText_init c.i_InvalidText (hr.mono (by decide)) T.g_InvalidText (pa_cons (pv 0) pa_nil)) (pa_cons (pe_mkXI T.x_InvalidEvent T.m_InvalidEvent_init T.ft_f_InvalidEvent_init c.i_InvalidEvent (hr.mono (by decide)) T.g_InvalidEvent (pa_cons (pv 0) pa_nil)) pa_nil))))))
      (pss_one (ps_ret (pe_op op_cat (pv 1) (pe_lst (pa_cons (pe_mkXI T.x_Refused T.m_Refused_init T.ft_f_Refused_init c.i_Refused (hr.mono (by decide)) T.g_Refused (pa_cons (pv 0) pa_nil)) (pa_cons (pe_mkXI T.x_NoRow T.m_NoRow_init T.ft_f_NoRow_init c.i_NoRow (hr.mono (by decide)) T.g_NoRow (pa_cons (pv 0) pa_nil)) (pa_cons (pe_mkXI T.x_NoMark T.m_NoMark_init T.ft_f_NoMark_init c.i_NoMark (hr.mono (by decide)) T.g_NoMark (pa_cons (pv 0) pa_nil)) pa_nil)))))))), ?_⟩
    have mk : ∀ {i : Nat} {σ : L2.St} {H' : Hp} (hi : i < 7), σ[0]? = some (some v) → EvP Free (tMkX (clsA A i) (spXi K (fldN i)) (tCons (tVar 0) tNil)) σ H' (XN Free (clsA A i) (fldN i) v) := fun {i σ H'} hi hv => ev_mkX (x_of T hi).1 (x_of T hi).2 (ea_is (ev_is hv) ea_nil)
    refine s_set (R := Free) (H := H) (P := LsOk Free ((List.range 4).map fun i => XN Free (clsA A i) (fldN i) v)) ?_ (Gr.refl free_j) fun u H1 g1 gv1 hu => ?_
    · exact ev_lstE (fun P hP => by obtain ⟨i, _, rfl⟩ := List.mem_map.mp hP; exact stb_xn) (ea_cons stb_xn (mk (i := 0) (by decide) rfl) (ea_cons stb_xn (mk (i := 1) (by decide) rfl) (ea_cons stb_xn (mk (i := 2) (by decide) rfl) (ea_cons stb_xn (mk (i := 3) (by decide) rfl) ea_nil)))) (by show 4 ≤ 1000; decide)
    dsimp only
    obtain ⟨p, es, rfl, hp, hd, ps⟩ := hu
    refine s_ret (R := Free) (H := H1) (P := LsOk Free (((List.range 4).map fun i => XN Free (clsA A i) (fldN i) v) ++ [XN Free (clsA A 4) (fldN 4) v, XN Free (clsA A 5) (fldN 5) v, XN Free (clsA A 6) (fldN 6) v])) ?_ (Gr.refl free_j) fun u H2 g2 _ hu => ?_
    · have s4 : ∀ P, P ∈ ((List.range 4).map fun i => XN Free (clsA A i) (fldN i) v) → Stb Free P := fun P hP => by obtain ⟨i, _, rfl⟩ := List.mem_map.mp hP; exact stb_xn
      have s3 : ∀ P, P ∈ [XN Free (clsA A 4) (fldN 4) v, XN Free (clsA A 5) (fldN 5) v, XN Free (clsA A 6) (fldN 6) v] → Stb Free P := fun P hP => by
        simp only [List.mem_cons, List.not_mem_nil, or_false] at hP
        rcases hP with rfl | rfl | rfl <;> exact stb_xn
      refine ev_catE2 s4 s3 (ev_var (v := .ref p) rfl fun H' g => stb_lsOk s4 _ _ _ g ⟨p, es, rfl, hp, hd, ps⟩) (ev_lstE s3 (ea_cons stb_xn (mk (i := 4) (by decide) rfl) (ea_cons stb_xn (mk (i := 5) (by decide) rfl) (ea_cons stb_xn (mk (i := 6) (by decide) rfl) ea_nil))) (by show 3 ≤ 1000; decide)) (by show 7 ≤ 1000; decide)
    · obtain ⟨p2, es2, rfl, hp2, _, ps2⟩ := hu
      exact q p2 es2 H2 (g1.tr g2).free hp2 ps2

theorem ok_named (T : Tx A K mg) (c : XI P w K mg base A) {f : Addr} {fd : FuncData} (F : Fun K "_law_named" "_law_named" s_law_named f fd) : FnOk P w K mg base CX0 3 f fd ["_law_zthing"] (spMade A) := by
  refine F.ok sc_law_named (fun vs H Q E h => ?_) (fun cdv A2 outer s H vs Q E hr h => ?_)
  · obtain ⟨v, rfl, _⟩ := h; rfl
  · obtain ⟨v, rfl, q⟩ := h
    refine ⟨_, (pss_cons (ps_set (i := 1) sc_law_named.nd rfl (by first | exact .inl rfl | exact .inr rfl) (pe_lst (pa_cons (pe_mkXkI T.x_InvalidRow T.m_InvalidRow_init T.ft_f_InvalidRow_init c.i_InvalidRow (hr.mono (by decide)) T.g_InvalidRow (pk_cons (pv 0) pk_nil)) (pa_cons (pe_mkXkI T.x_InvalidBook T.m_InvalidBook_init T.ft_f_InvalidBook_init c.i_InvalidBook (hr.mono (by decide)) T.g_InvalidBook (pk_cons (pv 0) pk_nil)) (pa_cons (pe_mkXkI T.x_InvalidText T.m_InvalidText_init T.ft_f_InvalidText_init c.i_InvalidText (hr.mono (by decide)) T.g_InvalidText (pk_cons (pv 0) pk_nil)) (pa_cons (pe_mkXkI T.x_InvalidEvent T.m_InvalidEvent_init T.ft_f_InvalidEvent_init c.i_InvalidEvent (hr.mono (by decide)) T.g_InvalidEvent (pk_cons (pv 0) pk_nil)) pa_nil))))))
      (pss_one (ps_ret (pe_op op_cat (pv 1) (pe_lst (pa_cons (pe_mkXkI T.x_Refused T.m_Refused_init T.ft_f_Refused_init c.i_Refused (hr.mono (by decide)) T.g_Refused (pk_cons (pv 0) pk_nil)) (pa_cons (pe_mkXkI T.x_NoRow T.m_NoRow_init T.ft_f_NoRow_init c.i_NoRow (hr.mono (by decide)) T.g_NoRow (pk_cons (pv 0) pk_nil)) (pa_cons (pe_mkXkI T.x_NoMark T.m_NoMark_init T.ft_f_NoMark_init c.i_NoMark (hr.mono (by decide)) T.g_NoMark (pk_cons (pv 0) pk_nil)) pa_nil)))))))), ?_⟩
    have mk : ∀ {i : Nat} {σ : L2.St} {H' : Hp} (hi : i < 7), σ[0]? = some (some v) → EvP Free (tMkX (clsA A i) (spXi K (fldN i)) (tCons (tVar 0) tNil)) σ H' (XN Free (clsA A i) (fldN i) v) := fun {i σ H'} hi hv => ev_mkX (x_of T hi).1 (x_of T hi).2 (ea_is (ev_is hv) ea_nil)
    refine s_set (R := Free) (H := H) (P := LsOk Free ((List.range 4).map fun i => XN Free (clsA A i) (fldN i) v)) ?_ (Gr.refl free_j) fun u H1 g1 gv1 hu => ?_
    · exact ev_lstE (fun P hP => by obtain ⟨i, _, rfl⟩ := List.mem_map.mp hP; exact stb_xn) (ea_cons stb_xn (mk (i := 0) (by decide) rfl) (ea_cons stb_xn (mk (i := 1) (by decide) rfl) (ea_cons stb_xn (mk (i := 2) (by decide) rfl) (ea_cons stb_xn (mk (i := 3) (by decide) rfl) ea_nil)))) (by show 4 ≤ 1000; decide)
    dsimp only
    obtain ⟨p, es, rfl, hp, hd, ps⟩ := hu
    refine s_ret (R := Free) (H := H1) (P := LsOk Free (((List.range 4).map fun i => XN Free (clsA A i) (fldN i) v) ++ [XN Free (clsA A 4) (fldN 4) v, XN Free (clsA A 5) (fldN 5) v, XN Free (clsA A 6) (fldN 6) v])) ?_ (Gr.refl free_j) fun u H2 g2 _ hu => ?_
    · have s4 : ∀ P, P ∈ ((List.range 4).map fun i => XN Free (clsA A i) (fldN i) v) → Stb Free P := fun P hP => by obtain ⟨i, _, rfl⟩ := List.mem_map.mp hP; exact stb_xn
      have s3 : ∀ P, P ∈ [XN Free (clsA A 4) (fldN 4) v, XN Free (clsA A 5) (fldN 5) v, XN Free (clsA A 6) (fldN 6) v] → Stb Free P := fun P hP => by
        simp only [List.mem_cons, List.not_mem_nil, or_false] at hP
        rcases hP with rfl | rfl | rfl <;> exact stb_xn
      refine ev_catE2 s4 s3 (ev_var (v := .ref p) rfl fun H' g => stb_lsOk s4 _ _ _ g ⟨p, es, rfl, hp, hd, ps⟩) (ev_lstE s3 (ea_cons stb_xn (mk (i := 4) (by decide) rfl) (ea_cons stb_xn (mk (i := 5) (by decide) rfl) (ea_cons stb_xn (mk (i := 6) (by decide) rfl) ea_nil))) (by show 3 ≤ 1000; decide)) (by show 7 ≤ 1000; decide)
    · obtain ⟨p2, es2, rfl, hp2, _, ps2⟩ := hu
      exact q p2 es2 H2 (g1.tr g2).free hp2 ps2

theorem ev_made7 {R : Res} {σ : L2.St} {H : Hp} {ta : TE} {v : V} {E : XK} (h : EvP Free ta σ H (Is v)) : EvP Free (tCall (spMade A) [] E (tCons ta tNil)) σ H (LsOk Free (made7 A v)) := ev_call (ea_is h ea_nil) fun vs H1 g ps Q q => by
  cases psOk1 ps
  exact ⟨v, rfl, fun p es H' e hp h => q _ H' (Gv.same g.1 e) ⟨p, es, rfl, hp, ⟨List.not_mem_nil, List.not_mem_nil⟩, h⟩⟩
def spKept (A : Ads) : Sp := fun vs H Q _ => ∃ (e dx : Addr) (i : Nat) (v : V), vs = [.ref e, .int (i : Int)] ∧ i < 7 ∧ H e = some (exo e (clsA A i) (some dx)) ∧ H dx = some (exd dx [(fldN i, v)]) ∧ ∀ H', Same H H' → Q v H'
theorem ok_kept (T : Tx A K mg) {f : Addr} {fd : FuncData} (F : Fun K "_law_kept" "_law_kept" s_law_kept f fd) : FnOk P w K mg base CX0 1 f fd ["_law_zerror", "_law_zspot"] (spKept A) := by
  refine F.ok sc_law_kept (fun vs H Q E h => ?_) (fun cdv A2 outer s H vs Q E hr h => ?_)
  · obtain ⟨e, dx, i, v, rfl, _⟩ := h; rfl
  · obtain ⟨e, dx, i, v, rfl, hi, he, hd, q⟩ := h
    refine ⟨_, (pss_cons (ps_if (pt_cmpR op_lt (pv 1) pe_int (nomark _)) (pss_one (ps_ret (pe_flX (pv 0)))) pss_nil)
      (pss_one (ps_ret (pe_ifExp (pt_cmpR op_eq (pv 1) pe_int (nomark _)) (pe_flX (pv 0)) (pe_flX (pv 0)))))), ?_⟩
    have fl : ∀ {H'} (z : Str), fldN i = z → Gr Free H H' → EvP Free (tFlX K z (tVar 0)) [some (.ref e), some (.int (i : Int))] H' (Is v) := fun {H'} z hz g => by
      subst hz
      exact ev_flX (ev_is rfl) (x_of T hi).1 (x_of T hi).2 (al_free fun H2 s => ⟨s _ _ (g.free _ _ he), s _ _ (g.free _ _ hd)⟩) (by simp [List.lookup])
    refine s_if1 (R := Free) (H := H) (b := decide ((i : Int) < 2)) (et_test (ev_I0 (g := fun i j => .bl (decide (i < j))) (ev_is rfl) ev_c)) (Gr.refl free_j) (fun hb H1 g1 _ => ?_) (fun hb H1 g1 _ => ?_)
    · have h2 : i < 2 := by have := of_decide_eq_true hb; omega
      refine s_ret (R := Free) (H := H) (fl "word" (by match i, h2 with | 0, _ => rfl | 1, _ => rfl) (Gr.refl free_j)) g1 fun u H2 g2 _ e => e ▸ q H2 g2.free
    dsimp only
    have h2 : 2 ≤ i := by have := of_decide_eq_false hb; omega
    refine s_ret (R := Free) (H := H) (P := Is v) (ev_if (b := decide (V.int (i : Int) = V.int 6)) (et_test (ev_eq rfl (ev_is rfl) ev_c)) (fun h6 => fl "name" ?_ (Gr.refl free_j)) (fun h6 => fl "at" ?_ (Gr.refl free_j))) g1 fun u H2 g2 _ e => e ▸ q H2 g2.free
    · have := V.int.inj (of_decide_eq_true h6)
      have : i = 6 := by omega
      subst this
      rfl
    · have h : i ≠ 6 := fun z => by subst z; exact absurd h6 (by decide)
      match i, hi, h2, h with
      | 2, _, _, _ => exact rfl
      | 3, _, _, _ => exact rfl
      | 4, _, _, _ => exact rfl
      | 5, _, _, _ => exact rfl
      | n + 6, hi, _, h => exact absurd (show n + 6 = 6 by omega) h
def sorts (i : Nat) : List Bool := (List.range 9).map fun k => decide (i = k)
def spSorts (A : Ads) : Sp := fun vs H Q _ => ∃ (e : Addr) (i : Nat), vs = [.ref e] ∧ i < 9 ∧ XAt H e (clsA A i) ∧ ∀ p H', Same H H' → H' p = some (.lst ((sorts i).map V.bl)) → Q (.ref p) H'
theorem ok_sorts (T : Tx A K mg) {f : Addr} {fd : FuncData} (F : Fun K "_law_sorts" "_law_sorts" s_law_sorts f fd) : FnOk P w K mg base CX0 1 f fd ["_law_zerror"] (spSorts A) := by
  refine F.ok sc_law_sorts (fun vs H Q E h => ?_) (fun cdv A2 outer s H vs Q E hr h => ?_)
  · obtain ⟨e, i, rfl, _⟩ := h; rfl
  · obtain ⟨e, i, rfl, hi, he, q⟩ := h
    refine ⟨_, (pss_cons (ps_set (i := 1) sc_law_sorts.nd rfl (by first | exact .inl rfl | exact .inr rfl) (pe_lst (pa_cons (pe_callB call_isX (by rfl) T.z_isinstance (by decide +kernel) (pa_cons (pv 0) (pa_cons (pe_glob (v := .ref A.InvalidRow) rfl T.g_InvalidRow rfl) pa_nil))) (pa_cons (pe_callB call_isX (by rfl) T.z_isinstance (by decide +kernel) (pa_cons (pv 0) (pa_cons (pe_glob (v := .ref A.InvalidBook) rfl T.g_InvalidBook rfl) pa_nil))) (pa_cons (pe_callB call_isX (by rfl) T.z_isinstance (by decide +kernel) (pa_cons (pv 0) (pa_cons (pe_glob (v := .ref A.InvalidText) rfl T.g_InvalidText rfl) pa_nil))) pa_nil)))))
      (pss_cons (ps_set (i := 1) sc_law_sorts.nd rfl (by first | exact .inl rfl | exact .inr rfl) (pe_op op_cat (pv 1) (pe_lst (pa_cons (pe_callB call_isX (by rfl) T.z_isinstance (by decide +kernel) (pa_cons (pv 0) (pa_cons (pe_glob (v := .ref A.InvalidEvent) rfl T.g_InvalidEvent rfl) pa_nil))) (pa_cons (pe_callB call_isX (by rfl) T.z_isinstance (by decide +kernel) (pa_cons (pv 0) (pa_cons (pe_glob (v := .ref A.Refused) rfl T.g_Refused rfl) pa_nil))) (pa_cons (pe_callB call_isX (by rfl) T.z_isinstance (by decide +kernel) (pa_cons (pv 0) (pa_cons (pe_glob (v := .ref A.NoRow) rfl T.g_NoRow rfl) pa_nil))) pa_nil))))))
      (pss_cons (ps_set (i := 1) sc_law_sorts.nd rfl (by first | exact .inl rfl | exact .inr rfl) (pe_op op_cat (pv 1) (pe_lst (pa_cons (pe_callB call_isX (by rfl) T.z_isinstance (by decide +kernel) (pa_cons (pv 0) (pa_cons (pe_glob (v := .ref A.NoMark) rfl T.g_NoMark rfl) pa_nil))) (pa_cons (pe_callB call_isX (by rfl) T.z_isinstance (by decide +kernel) (pa_cons (pv 0) (pa_cons (pe_glob (v := .ref A.InvalidFault) rfl T.g_InvalidFault rfl) pa_nil))) pa_nil)))))
      (pss_one (ps_ret (pe_op op_cat (pv 1) (pe_lst (pa_cons (pe_callB call_isX (by rfl) T.z_isinstance (by decide +kernel) (pa_cons (pv 0) (pa_cons (pe_glob (v := .ref A.InvalidCommand) rfl T.g_InvalidCommand rfl) pa_nil))) pa_nil)))))))), ?_⟩
    have is : ∀ {y : Option V} {H'} (j : Nat), j < 9 → Gr Free H H' → EvP Free (tCB (rIsX K) (tCons (tVar 0) (tCons (tC (.ref (clsA A j))) tNil))) [some (.ref e), y] H' (Is (.bl (decide (i = j)))) := fun {y H'} j hj g => ev_isX (ev_is rfl) ev_c (.own _) (al_free fun H2 s => (he.same g.free).same s) (ec_of T hi) ((kc_of T hj).kit (sub_of T hi hj))
    refine s_set (R := Free) (H := H) (P := LstN Free [V.bl (decide (i = 0)), V.bl (decide (i = 1)), V.bl (decide (i = 2))]) (ev_lstN (ea_is (is 0 (by decide) (Gr.refl free_j)) (ea_is (is 1 (by decide) (Gr.refl free_j)) (ea_is (is 2 (by decide) (Gr.refl free_j)) ea_nil))) (by show 3 ≤ 1000; decide)) (Gr.refl free_j) fun u H1 g1 gv1 ⟨p1, e1, hp1, hd1⟩ => ?_
    subst e1
    dsimp only
    refine s_set (R := Free) (H := H1) (σ := [some (.ref e), some (.ref p1)]) (P := LstN Free ([V.bl (decide (i = 0)), V.bl (decide (i = 1)), V.bl (decide (i = 2))] ++ [V.bl (decide (i = 3)), V.bl (decide (i = 4)), V.bl (decide (i = 5))])) (ev_cat (ev_varLN (R := Free) rfl hp1 hd1) (ev_lstN (ea_is (is 3 (by decide) g1) (ea_is (is 4 (by decide) g1) (ea_is (is 5 (by decide) g1) ea_nil))) (by show 3 ≤ 1000; decide)) (by show 6 ≤ 1000; decide)) (Gr.refl free_j) fun u H2 g2 gv2 ⟨p2, e2, hp2, hd2⟩ => ?_
    subst e2
    dsimp only
    have g12 := g1.tr g2
    refine s_set (R := Free) (H := H2) (σ := [some (.ref e), some (.ref p2)]) (P := LstN Free (([V.bl (decide (i = 0)), V.bl (decide (i = 1)), V.bl (decide (i = 2))] ++ [V.bl (decide (i = 3)), V.bl (decide (i = 4)), V.bl (decide (i = 5))]) ++ [V.bl (decide (i = 6)), V.bl (decide (i = 7))])) (ev_cat (ev_varLN (R := Free) rfl hp2 hd2) (ev_lstN (ea_is (is 6 (by decide) g12) (ea_is (is 7 (by decide) g12) ea_nil)) (by show 2 ≤ 1000; decide)) (by show 8 ≤ 1000; decide)) (Gr.refl free_j) fun u H3 g3 gv3 ⟨p3, e3, hp3, hd3⟩ => ?_
    subst e3
    dsimp only
    have g13 := g12.tr g3
    refine s_ret (R := Free) (H := H3) (σ := [some (.ref e), some (.ref p3)]) (P := LstN Free ((([V.bl (decide (i = 0)), V.bl (decide (i = 1)), V.bl (decide (i = 2))] ++ [V.bl (decide (i = 3)), V.bl (decide (i = 4)), V.bl (decide (i = 5))]) ++ [V.bl (decide (i = 6)), V.bl (decide (i = 7))]) ++ [V.bl (decide (i = 8))])) (ev_cat (ev_varLN (R := Free) rfl hp3 hd3) (ev_lstN (ea_is (is 8 (by decide) g13) ea_nil) (by show 1 ≤ 1000; decide)) (by show 9 ≤ 1000; decide)) (Gr.refl free_j) fun u H4 g4 gv4 ⟨p4, e4, hp4, hd4⟩ => ?_
    subst e4
    exact q p4 H4 (g13.tr g4).free hp4
end

section
variable {P : Program} {w : World} {A : Ads} {K : PySem.W.Frag} {mg : Str → Option Value} {base : Heap}
theorem stb_xat {R : Res} : True := trivial
def nofree {p : Addr} : p ∉ Free.D ∧ p ∉ Free.h := ⟨List.not_mem_nil, List.not_mem_nil⟩
theorem sorts_shaped {i : Nat} (h : i < 9) : SeqAt.shaped (dBools (sorts i)) = true ∧ PyData.eqv (dBools (sorts i)) (dBools (sorts i)) = true := by
  match i, h with
  | 0, _ => exact ⟨by decide +kernel, by decide +kernel⟩
  | 1, _ => exact ⟨by decide +kernel, by decide +kernel⟩
  | 2, _ => exact ⟨by decide +kernel, by decide +kernel⟩
  | 3, _ => exact ⟨by decide +kernel, by decide +kernel⟩
  | 4, _ => exact ⟨by decide +kernel, by decide +kernel⟩
  | 5, _ => exact ⟨by decide +kernel, by decide +kernel⟩
  | 6, _ => exact ⟨by decide +kernel, by decide +kernel⟩
  | 7, _ => exact ⟨by decide +kernel, by decide +kernel⟩
  | 8, _ => exact ⟨by decide +kernel, by decide +kernel⟩
theorem base_in (i : Nat) : (if true then !inV (.int (i : Int)) [V.int 5, .int 6] else inV (.int (i : Int)) [V.int 5, .int 6]) = isBase i := by
  match i with
  | 0 => decide +kernel
  | 1 => decide +kernel
  | 2 => decide +kernel
  | 3 => decide +kernel
  | 4 => decide +kernel
  | 5 => decide +kernel
  | 6 => decide +kernel
  | n + 7 =>
    have h5 : eqV (.int 5) (.int ((n + 7 : Nat) : Int)) = false := by
      show decide (5 = ((n + 7 : Nat) : Int)) = false
      exact decide_eq_false (by omega)
    have h6 : eqV (.int 6) (.int ((n + 7 : Nat) : Int)) = false := by
      show decide (6 = ((n + 7 : Nat) : Int)) = false
      exact decide_eq_false (by omega)
    show (!(eqV (.int 5) (.int ((n + 7 : Nat) : Int)) || (eqV (.int 6) (.int ((n + 7 : Nat) : Int)) || false))) = isBase (n + 7)
    rw [h5, h6]
    simp [isBase]
theorem eq_nat (i k : Nat) : decide (V.int (i : Int) = V.int (k : Int)) = decide (i = k) := by
  by_cases h : i = k
  · subst h; simp
  · rw [decide_eq_false h, decide_eq_false (fun e => h (by have := V.int.inj e; omega))]
def spRight (A : Ads) : Sp := fun vs H Q _ => ∃ (e : Addr) (i : Nat), vs = [.ref e, .int (i : Int)] ∧ i < 9 ∧ XAt H e (clsA A i) ∧ ∀ H', Same H H' → Q (.bl true) H'
theorem ok_right (T : Tx A K mg) (c_law_sorts : CalX P w K mg base CX0 1 "_law_sorts" (spSorts A)) {f : Addr} {fd : FuncData} (F : Fun K "_law_is_right" "_law_is_right" s_law_is_right f fd) : FnOk P w K mg base CX0 2 f fd ["_law_zerror", "_law_zspot"] (spRight A) := by
  refine F.ok sc_law_is_right (fun vs H Q E h => ?_) (fun cdv A2 outer s H vs Q E hr h => ?_)
  · obtain ⟨e, i, rfl, _⟩ := h; rfl
  · obtain ⟨e, i, rfl, hi, he, q⟩ := h
    refine ⟨_, (pss_cons (ps_if (pt_cmpR (op_neD hr.units) (pe_cal c_law_sorts hr (by decide) pass0 (pa_cons (pv 0) pa_nil)) (pe_lc (own := [("_law_zone", 3)]) (g := gName 3) rfl sc_law_is_right.nd (pi_range1 (by rfl) T.z_range (pa_cons pe_int pa_nil)) (blkOk_by (own := [("_law_zone", 3)]) (N := ["_law_zerror", "_law_zspot", "_law_is_base", "_law_zone"]) (sc := defScope s_law_is_right) (by decide +kernel)) (fun _ _ _ _ _ => pg_name (i := 3) sc_law_is_right.nd rfl (Or.inl rfl)) (fun _ _ _ _ _ => pts_nil) (fun _ _ _ _ _ => (pe_cmpR op_eq (pv 3) (pv 1) (nomark _)))) (nomark _)) (pss_one (ps_ret pe_bl)) pss_nil)
      (pss_cons (ps_set (i := 2) sc_law_is_right.nd rfl (by first | exact .inl rfl | exact .inr rfl) (pe_cmpR op_notIn_seq (pv 1) (pe_tup (pa_cons pe_int (pa_cons pe_int pa_nil))) (by rfl)))
      (pss_cons (ps_if (PW.pt (pw_or (pt_cmpR op_ne (pe_callB call_isX (by rfl) T.z_isinstance (by decide +kernel) (pa_cons (pv 0) (pa_cons (pe_glob (v := .ref A.PollError) rfl T.g_PollError rfl) pa_nil))) (pv 2) (nomark _)) (pw_or1 (pt_cmpR op_ne (pe_callB call_isX (by rfl) T.z_isinstance (by decide +kernel) (pa_cons (pv 0) (pa_cons (pe_bltn (v := .ty "ValueError") (by rfl) T.z_ValueError (by decide +kernel) rfl) pa_nil))) (pv 2) (nomark _))))) (pss_one (ps_ret pe_bl)) pss_nil)
      (pss_one (ps_ret (pe_and (pe_cmpR op_eq (pe_callB call_isX (by rfl) T.z_isinstance (by decide +kernel) (pa_cons (pv 0) (pa_cons (pe_bltn (v := .ty "IndexError") (by rfl) T.z_IndexError (by decide +kernel) rfl) pa_nil))) (pe_cmpR op_eq (pv 1) pe_int (nomark _)) (nomark _)) (pe_one (pe_cmpR op_eq (pe_callB call_isX (by rfl) T.z_isinstance (by decide +kernel) (pa_cons (pv 0) (pa_cons (pe_bltn (v := .ty "KeyError") (by rfl) T.z_KeyError (by decide +kernel) rfl) pa_nil))) (pe_cmpR op_eq (pv 1) pe_int (nomark _)) (nomark _))))))))), ?_⟩
    have is : ∀ {σ : L2.St} {H'} {c : V} {cv : Value} {b : Bool}, σ[0]? = some (some (.ref e)) → ClsV c cv → PySem.W.kitOne K (.ref (clsA A i)) cv = some b → Gr Free H H' → EvP Free (tCB (rIsX K) (tCons (tVar 0) (tCons (tC c) tNil))) σ H' (Is (.bl b)) := fun {σ H' c cv b} hv k kt g => ev_isX (ev_is hv) ev_c k (al_free fun H2 s => (he.same g.free).same s) (ec_of T hi) kt
    have srt : EvP Free (tCall (spSorts A) [] E0 (tCons (tVar 0) tNil)) [some (.ref e), some (.int (i : Int)), none, none] H (LstN Free ((sorts i).map V.bl)) := ev_call (ea_is (ev_is rfl) ea_nil) fun vs H1 g ps Q q => by
      cases psOk1 ps
      exact ⟨e, i, rfl, hi, he.same g.free, fun p H' s hp => q _ H' (Gv.same g.1 s) ⟨p, rfl, hp, nofree⟩⟩
    have cmp : EvP Free (tLc (iRng1 (tCons (tC (.int 9)) tNil)) (gName 3) tYes (tOp rEq (tVar 3) (tVar 1)) [3]) [some (.ref e), some (.int (i : Int)), none, none] H (LstN Free ((sorts i).map V.bl)) := by
      have ee : (sorts i).map V.bl = ((List.range 9).filter fun _ => true).map fun (k : Nat) => V.bl (decide (V.int (k : Int) = V.int (i : Int))) := by
        rw [filter_yes]
        show ((List.range 9).map fun k => decide (i = k)).map V.bl = _
        rw [List.map_map]
        refine List.map_congr_left fun k _ => ?_
        show V.bl (decide (i = k)) = V.bl _
        rw [eq_nat k i]
        congr 1
        exact decide_eq_decide.mpr eq_comm
      rw [ee]
      exact ev_lcV (R := Free) (n := 9) (Y := YFn fun i => .int (i : Int)) (Z := fun i x => x = .int (i : Int)) (fun k => V.bl (decide (V.int (k : Int) = V.int (i : Int)))) (fun _ => true) (ew_range (m := 9) (ea_is ev_c ea_nil) ⟨by decide, by decide⟩) (by decide) yFn_ok (fun x => rfl) (fun D hD k x hk z => ⟨et_yes, fun _ => by
        subst z
        exact ev_eq rfl (ev_is (i := 3) rfl) (ev_is (i := 1) rfl)⟩)
    refine s_if1 (R := Free) (H := H) (b := !PyData.eqv (dBools (sorts i)) (dBools (sorts i))) (et_test (ev_neD (sorts_shaped hi).1 (sorts_shaped hi).1 (ev_boolsD srt) (ev_boolsD cmp))) (Gr.refl free_j) (fun hb => ?_) (fun hb H1 g1 gv1 => ?_)
    · rw [(sorts_shaped hi).2] at hb
      exact Bool.noConfusion hb
    dsimp only
    refine s_set (R := Free) (H := H1) (P := Is (.bl (isBase i))) ?_ (Gr.refl free_j) fun u H2 g2 gv2 e2 => ?_
    · rw [← base_in i]
      exact ev_in (K := K) (neg := true) (x := .int (i : Int)) (xs := [V.int 5, .int 6]) rfl rfl (ev_is rfl) (ev_imp (ev_tupV (vs := [V.int 5, .int 6]) (ea_is ev_c (ea_is ev_c ea_nil)) (by show 2 ≤ 1000; decide)) fun u H' g ⟨p, e, hp, _⟩ => ⟨p, e, .inr (.inl (.inl hp))⟩)
    cases e2
    dsimp only
    have g12 := g1.tr g2
    refine s_if1 (R := Free) (H := H2) (b := false) (et_is (et_or (et_test (ev_ne rfl (is rfl (.own _) (T.k_PollError.kit (sub_p T hi)) g12) (ev_is rfl))) fun _ => et_test (ev_ne rfl (is rfl (.ty _) (kit_ownB (by decide +kernel) (sub_v T hi)) g12) (ev_is rfl))) (by simp)) (Gr.refl free_j) (fun hb => Bool.noConfusion hb) fun _ H3 g3 _ => ?_
    dsimp only
    have g13 := g12.tr g3
    refine s_ret (R := Free) (H := H3) (P := Is (.bl true)) (ev_val (ev_and (ev_eq rfl (is rfl (.ty _) (kit_ownB (by decide +kernel) (sub_i T hi)) g13) (ev_eq rfl (ev_is rfl) ev_c)) fun _ => ev_eq rfl (is rfl (.ty _) (kit_ownB (by decide +kernel) (sub_k T hi)) g13) (ev_eq rfl (ev_is rfl) ev_c)) ?_) (Gr.refl free_j) fun u H4 g4 _ e => e ▸ q H4 (g13.tr g4).free
    match i, hi with
    | 0, _ => rfl
    | 1, _ => rfl
    | 2, _ => rfl
    | 3, _ => rfl
    | 4, _ => rfl
    | 5, _ => rfl
    | 6, _ => rfl
    | 7, _ => rfl
    | 8, _ => rfl
/-! ### the things -/
def ps9 (t : Int) : List VP := [Is .non, Is (.bl true), Is (.int t), Is (.int (0 - t)), Is (.str ""), Is (.str "mark"), LsOk Free [Is (.int t), LstN Free [V.int 1]], TupN Free [V.int t, .non], LstN Free []]
theorem stb_ps9 {t : Int} : ∀ P, P ∈ ps9 t → Stb Free P := fun P h => by
  simp only [ps9, List.mem_cons, List.not_mem_nil, or_false] at h
  rcases h with rfl | rfl | rfl | rfl | rfl | rfl | rfl | rfl | rfl
  · exact stb_is
  · exact stb_is
  · exact stb_is
  · exact stb_is
  · exact stb_is
  · exact stb_is
  · exact stb_lsOk fun P hP => by
      simp only [List.mem_cons, List.not_mem_nil, or_false] at hP
      rcases hP with rfl | rfl
      · exact stb_is
      · exact stb_lstN
  · exact stb_tupN
  · exact stb_lstN
def spThings (K : PySem.W.Frag) : Sp := fun vs H Q _ => ∃ (l : Addr) (is : List Int), vs = [.ref l] ∧ SqL K H l (is.map V.int) ∧ ∀ t p xs H', t.natAbs < 2 ^ 30 → Same H H' → H' p = some (.lst xs) → PsOk (ps9 t) xs H' → Q (.ref p) H'
theorem sum_le : ∀ ns : List Int, (∀ n, n ∈ ns → 0 ≤ n ∧ n < 1000003) → 0 ≤ ns.sum ∧ ns.sum ≤ 1000003 * (ns.length : Int)
  | [], _ => ⟨by decide, by decide⟩
  | n :: ns, h => by
    obtain ⟨h1, h2⟩ := h n List.mem_cons_self
    obtain ⟨i1, i2⟩ := sum_le ns fun m hm => h m (List.mem_cons_of_mem _ hm)
    rw [List.sum_cons, List.length_cons]
    refine ⟨by omega, ?_⟩
    rw [Int.natCast_add, Int.mul_add]
    omega
theorem cutI (is : List Int) (lo hi : Option Int) : ∃ js : List Int, cutV (is.map V.int) lo hi = js.map V.int ∧ js.length ≤ HT.sIx is.length is.length hi := by
  refine ⟨(is.drop (HT.sIx is.length 0 lo)).take (HT.sIx is.length is.length hi - HT.sIx is.length 0 lo), ?_, ?_⟩
  · unfold cutV
    rw [List.length_map, List.map_take, List.map_drop]
  · rw [List.length_take]
    omega
def ab (i : Int) : Int := if i < 0 then -i else i
theorem ok_things (T : Tx A K mg) {f : Addr} {fd : FuncData} (F : Fun K "_law_things" "_law_things" s_law_things f fd) : FnOk P w K mg base CX0 1 f fd ["_law_script"] (spThings K) := by
  refine F.ok sc_law_things (fun vs H Q E h => ?_) (fun cdv A2 outer s H vs Q E hr h => ?_)
  · obtain ⟨l, is, rfl, _⟩ := h; rfl
  · obtain ⟨l, is, rfl, hl, q⟩ := h
    refine ⟨_, (pss_cons (ps_set (i := 1) sc_law_things.nd rfl (by first | exact .inl rfl | exact .inr rfl) (pe_callB (cr_sum rfl) (by rfl) T.z_sum (by decide +kernel) (pa_cons (pe_lc (own := [("_law_cell", 2)]) (g := gName 2) rfl sc_law_things.nd (pi_list (pe_slice sl_list (pv 0) po_none (po_some pe_int))) (blkOk_by (own := [("_law_cell", 2)]) (N := ["_law_script", "_law_total", "_law_cell"]) (sc := defScope s_law_things) (by decide +kernel)) (fun _ _ _ _ _ => pg_name (i := 2) sc_law_things.nd rfl (Or.inl rfl)) (fun _ _ _ _ _ => pts_nil) (fun _ _ _ _ _ => (pe_op op_mod (pe_callTy call_int1 (by rfl) T.z_int (by decide +kernel) (pa_cons (pe_callB call_abs (by rfl) T.z_abs (by decide +kernel) (pa_cons (pv 2) pa_nil)) pa_nil)) pe_int))) pa_nil)))
      (pss_one (ps_ret (pe_lst (pa_cons pe_non (pa_cons pe_bl (pa_cons (pv 1) (pa_cons (pe_op op_sub pe_int (pv 1)) (pa_cons pe_str (pa_cons pe_str (pa_cons (pe_lst (pa_cons (pv 1) (pa_cons (pe_lst (pa_cons pe_int pa_nil)) pa_nil))) (pa_cons (pe_tup (pa_cons (pv 1) (pa_cons pe_non pa_nil))) (pa_cons (pe_lst pa_nil) pa_nil))))))))))))), ?_⟩
    obtain ⟨js, hjs, hlen⟩ := cutI is none (some 40)
    have hlen2 : js.length ≤ 40 := by
      have e : HT.sIx is.length is.length (some 40) = min 40 is.length := HT.sIx_nat is.length is.length 40
      rw [e] at hlen
      omega
    have get : ∀ {x : V} {i : Nat}, (cutV (is.map V.int) none (some 40))[i]? = some x → x = .int (js.getD i 0) := fun {x i} e => by
      rw [hjs, List.getElem?_map] at e
      cases h2 : js[i]? with
      | none => rw [h2] at e; cases e
      | some z =>
        rw [h2] at e
        cases e
        rw [List.getD_eq_getElem?_getD, h2]
        rfl
    generalize hns : ((List.range js.length).filter fun _ => true).map (fun i => ab (js.getD i 0) % 1000003) = ns
    have nsb : ∀ n, n ∈ ns → 0 ≤ n ∧ n < 1000003 := fun n hn => by
      rw [← hns] at hn
      obtain ⟨i, _, rfl⟩ := List.mem_map.mp hn
      exact ⟨Int.emod_nonneg _ (by decide), Int.emod_lt_of_pos _ (by decide)⟩
    have nsl : ns.length ≤ 40 := by
      rw [← hns, List.length_map, filter_yes, List.length_range]
      exact hlen2
    obtain ⟨s0, s1⟩ := sum_le ns nsb
    refine s_set (R := Free) (H := H) (P := Is (.int ns.sum)) (ev_sum (ns := ns) ?_) (Gr.refl free_j) fun u H1 g1 gv1 e => ?_
    · rw [← hns, List.map_map]
      refine ev_lcV (R := Free) (Y := YAt (cutV (is.map V.int) none (some 40))) (n := js.length) (Z := fun i x => (cutV (is.map V.int) none (some 40))[i]? = some x) (fun i => .int (ab (js.getD i 0) % 1000003)) (fun _ => true) ?_ (by omega) yAt_ok (fun x => rfl) (fun D hD i x hi z => ⟨et_yes, fun _ => ?_⟩)
      · have hw := ew_list (K := K) (ev_L (ev_slL (K := K) (R := Free) (σ := L2.start ["_law_script", "_law_total", "_law_cell"] [.ref l]) (H := H) (lo := none) (hi := some 40) (ta := tVar 0) (to1 := tNoPart) (to2 := tPart (tC (.int 40))) (ev_var rfl fun H' g => ⟨l, rfl, fun H2 g2 => (SqL.ext hl (g.tr g2).free)⟩) eo_none (eo_some ev_c)))
        have e : (cutV (is.map V.int) none (some 40)).length = js.length := by rw [hjs, List.length_map]
        rw [e] at hw
        exact hw
      · have e := get z
        subst e
        exact ev_I (C := fun _ j => 0 < j) (g := fun i j => .int (i % j)) (i := ab (js.getD i 0)) (j := 1000003) (by decide) (ev_int1 (ev_abs (ev_is rfl))) ev_c
    cases e
    generalize hs : ns.sum = t at s0 s1
    dsimp only
    refine s_retL (R := Free) (H := H1) (Ps := ps9 t) ?_ (Gr.refl free_j) fun us H2 g2 ps => ?_
    · have tv : ∀ {H'}, EvP Free (tVar 1) [some (.ref l), some (.int t), none] H' (Is (.int t)) := fun {H'} => ev_is rfl
      refine ea_is ev_c (ea_is ev_c (ea_is tv (ea_is (ev_I0 (g := fun i j => .int (i - j)) ev_c tv) (ea_is ev_c (ea_is ev_c (ea_cons ?_ (ev_lstE ?_ (ea_is tv (ea_cons stb_lstN (ev_lstN (vs := [V.int 1]) (ea_is ev_c ea_nil) (by decide)) ea_nil)) (by show 2 ≤ 1000; decide)) (ea_cons stb_tupN (ev_tupN (ea_is tv (ea_is ev_c ea_nil)) (by show 2 ≤ 1000; decide)) (ea_cons stb_lstN (ev_lstN (vs := []) ea_nil (by decide)) ea_nil))))))))
      · exact stb_ps9 (t := t) _ (by simp [ps9])
      · intro P hP
        simp only [List.mem_cons, List.not_mem_nil, or_false] at hP
        rcases hP with rfl | rfl
        · exact stb_is
        · exact stb_lstN
    · refine ⟨by rw [psOk_len ps]; exact (show 9 ≤ 1000 by decide), fun p hp => q t p us _ (by omega) ((g1.tr g2).trans (Gv.new free_j hp)).free upd_same (psOk_stb stb_ps9 (Gv.new free_j hp).1 ps)⟩
end
section
variable {P : Program} {w : World} {A : Ads} {K : PySem.W.Frag} {mg : Str → Option Value} {base : Heap}
/-! ### the law -/
/-- a thing that is no list; a list -/
def Plain (K : PySem.W.Frag) (x : V) (H : Hp) : Prop := ∃ ty d, (∀ H', Same H H' → TyX K H' x ty) ∧ PySem.W.kitOne K ty (.type "list") = some false ∧ (∀ H', Same H H' → Dp K H' x d) ∧ OkD d
def Listed (t : Int) (x : V) (H : Hp) : Prop := ∃ q ys, x = .ref q ∧ H q = some (.lst ys) ∧ (ys = [] ∨ ∃ q4, ys = [.int t, .ref q4] ∧ H q4 = some (.lst [.int 1]))
theorem plain_flat {x : V} {H : Hp} (f : flatV x = true) (k : PySem.W.kitOne K (.type (tyN x)) (.type "list") = some false) (o : OkD (toD x)) : Plain K x H := ⟨_, toD x, fun _ _ => ty_flat f, k, fun _ _ => dp_toD f, o⟩
theorem things_of {t : Int} {xs : List V} {H : Hp} {i : Nat} {x : V} (ht : t.natAbs < 2 ^ 30) (ps : PsOk (ps9 t) xs H) (hx : xs[i]? = some x) : Plain K x H ∨ Listed t x H := by
  match xs, ps with
  | [x0, x1, x2, x3, x4, x5, x6, x7, x8], ⟨e0, e1, e2, e3, e4, e5, e6, e7, e8, _⟩ =>
    cases e0; cases e1; cases e2; cases e3; cases e4; cases e5
    match i, hx with
    | 0, hx => cases hx; exact .inl (plain_flat rfl (kit_ty (show kitB "NoneType" "list" = some false by decide +kernel)) okD_non)
    | 1, hx => cases hx; exact .inl (plain_flat rfl (kit_ty (show kitB "bool" "list" = some false by decide +kernel)) okD_true)
    | 2, hx => cases hx; exact .inl (plain_flat rfl (kit_ty (show kitB "int" "list" = some false by decide +kernel)) (okD_int ht))
    | 3, hx => cases hx; exact .inl (plain_flat rfl (kit_ty (show kitB "int" "list" = some false by decide +kernel)) (okD_int (by omega)))
    | 4, hx => cases hx; exact .inl (plain_flat rfl (kit_ty (show kitB "str" "list" = some false by decide +kernel)) okD_empty)
    | 5, hx => cases hx; exact .inl (plain_flat rfl (kit_ty (show kitB "str" "list" = some false by decide +kernel)) okD_mark)
    | 6, hx =>
      cases hx
      obtain ⟨p, ys, rfl, hp, _, qs⟩ := e6
      match ys, qs with
      | [y0, y1], ⟨f0, ⟨q4, f1, hq4, _⟩, _⟩ =>
        cases f0; cases f1
        exact .inr ⟨p, _, rfl, hp, .inr ⟨q4, rfl, hq4⟩⟩
    | 7, hx =>
      cases hx
      obtain ⟨p, rfl, hp, _⟩ := e7
      exact .inl ⟨.type "tuple", .tuple [.int t, .none], fun H' s => .base (.tup (s _ _ hp)), kit_ty (show kitB "tuple" "list" = some false by decide +kernel), fun H' s => .tup (.inl (.inl (s _ _ hp))) (.cons (.int t) (.cons .non .nil)), okD_tup ht⟩
    | 8, hx =>
      cases hx
      obtain ⟨p, rfl, hp, _⟩ := e8
      exact .inr ⟨p, [], rfl, hp, .inl rfl⟩
    | n + 9, hx => simp at hx
theorem made_get {v : V} {es : List V} {H : Hp} {i : Nat} (ps : PsOk (made7 A v) es H) (hi : i < 7) : ∃ e dx, es[i]? = some (.ref e) ∧ H e = some (exo e (clsA A i) (some dx)) ∧ H dx = some (exd dx [(fldN i, v)]) := by
  obtain ⟨x, hx, e, dx, rfl, h1, h2, _⟩ := psOk_get ps (show (made7 A v)[i]? = some (XN Free (clsA A i) (fldN i) v) by
    unfold made7
    rw [List.getElem?_map, List.getElem?_range hi]
    rfl)
  exact ⟨e, dx, hx, h1, h2⟩
/-- an object that is none of the exceptions' changes -/
theorem made_upd {v : V} {es ys : List V} {H : Hp} {g : Addr} {o : HO} (hg : H g = some (.lst ys)) (ps : PsOk (made7 A v) es H) : PsOk (made7 A v) es (upd H g o) := by
  have key : ∀ {Ps : List VP} {es : List V}, (∀ P, P ∈ Ps → ∃ C z, P = XN Free C z v) → PsOk Ps es H → PsOk Ps es (upd H g o) := by
    intro Ps
    induction Ps with
    | nil => intro es _ h; match es, h with | [], _ => exact True.intro
    | cons P Ps ih =>
      intro es hP h
      match es, h with
      | e :: es, ⟨h1, h2⟩ =>
        refine ⟨?_, ih (fun Q hQ => hP Q (List.mem_cons_of_mem _ hQ)) h2⟩
        obtain ⟨C, z, rfl⟩ := hP P List.mem_cons_self
        obtain ⟨a, dx, e, q1, q2, q3⟩ := h1
        have na : a ≠ g := fun z => by
          rw [z, hg] at q1
          cases q1
        have nd : dx ≠ g := fun z => by
          rw [z, hg] at q2
          cases q2
        exact ⟨a, dx, e, by rw [upd_ne na]; exact q1, by rw [upd_ne nd]; exact q2, q3⟩
  exact key (fun P hP => by
    obtain ⟨i, _, rfl⟩ := List.mem_map.mp hP
    exact ⟨_, _, rfl⟩) ps
theorem Plain.same {x : V} {H H' : Hp} (h : Plain K x H) (e : Same H H') : Plain K x H' := by
  obtain ⟨ty, d, h1, h2, h3, h4⟩ := h
  exact ⟨ty, d, fun H2 s => h1 H2 fun a o q => s a o (e a o q), h2, fun H2 s => h3 H2 fun a o q => s a o (e a o q), h4⟩
/-- a list laid anew from a thing -/
def Copied (t : Int) (H0 : Hp) (u : V) (H : Hp) : Prop := ∃ g ys, u = .ref g ∧ H g = some (.lst ys) ∧ H0 g = none ∧ (ys = [] ∨ ∃ q4, ys = [.int t, .ref q4] ∧ H q4 = some (.lst [.int 1]) ∧ q4 ≠ g)
theorem Copied.same {t : Int} {H0 H H' : Hp} {u : V} (h : Copied t H0 u H) (e : Same H H') : Copied t H0 u H' := by
  obtain ⟨g, ys, h1, h2, h3, h4⟩ := h
  refine ⟨g, ys, h1, e _ _ h2, h3, h4.imp id fun ⟨q4, a, b, c⟩ => ⟨q4, a, e _ _ b, c⟩⟩
theorem ev_copy {t : Int} {σ : L2.St} {H : Hp} {ta : TE} {x : V} (hx : Listed t x H) (h : EvP Free ta σ H (Is x)) : EvP Free (tCB (fun xs H Q => ∃ p ys, xs = [.ref p] ∧ (SqL K H p ys ∨ SqT K H p ys) ∧ ∀ l, H l = none → Q (.ref l) (upd H l (.lst ys))) (tCons ta tNil)) σ H (Copied t H) := fun H0 g0 Q q =>
  h H0 g0 _ fun u H1 g1 e => by
    cases e
    obtain ⟨p, ys, rfl, hp, hy⟩ := hx
    have s := (g0.trans g1).free
    refine ⟨p, ys, rfl, .inl (.inl (.inl (s _ _ hp))), fun l hl' => q _ _ (g1.trans (Gv.new g1.1.1 hl')) ⟨l, ys, rfl, upd_same, (g0.trans g1).back hl', hy.imp id fun ⟨q4, a, b⟩ => ⟨q4, a, ?_, ?_⟩⟩⟩
    · have b2 := s _ _ b
      rw [upd_ne (ne_of_none b2 hl')]
      exact b2
    · exact ne_of_none (s _ _ b) hl'
def XA (A : Ads) (i : Nat) : VP := fun u H => ∃ e, u = .ref e ∧ XAt H e (clsA A i)
theorem stb_xa {i : Nat} : Stb Free (XA A i) := fun _ _ _ g ⟨e, a, h⟩ => ⟨e, a, h.same g.free⟩
theorem ev_right {σ : L2.St} {H : Hp} {ta tb : TE} {i : Nat} {E : XK} (hi : i < 9) (h1 : EvP Free ta σ H (XA A i)) (h2 : EvP Free tb σ H (Is (.int (i : Int)))) : EvP Free (tCall (spRight A) [] E (tCons ta (tCons tb tNil))) σ H (Is (.bl true)) := ev_call (ea_cons stb_xa h1 (ea_is h2 ea_nil)) fun vs H1 g ps Q q => by
  match vs, ps with
  | [v1, v2], ⟨⟨e, a, hx⟩, b, _⟩ =>
    cases a; cases b
    exact ⟨e, i, rfl, hi, hx, fun H2 s => q _ H2 (Gv.same g.1 s) rfl⟩
theorem ev_mkE {σ : L2.St} {H : Hp} (i : Nat) : EvP Free (tMkE (clsA A i)) σ H (XA A i) := fun H1 g Q q a ha => q _ _ (Gv.new g.1 ha) ⟨a, rfl, .inr upd_same⟩
theorem ev_kept {σ : L2.St} {H : Hp} {ta tb : TE} {e dx : Addr} {i : Nat} {v : V} {E : XK} (hi : i < 7) (h1 : EvP Free ta σ H (Is (.ref e))) (h2 : EvP Free tb σ H (Is (.int (i : Int)))) (he : H e = some (exo e (clsA A i) (some dx))) (hd : H dx = some (exd dx [(fldN i, v)])) : EvP Free (tCall (spKept A) [] E (tCons ta (tCons tb tNil))) σ H (Is v) := ev_call (ea_is h1 (ea_is h2 ea_nil)) fun vs H1 g ps Q q => by
  cases psOk2 ps
  exact ⟨e, dx, i, v, rfl, hi, g.free _ _ he, g.free _ _ hd, fun H2 s => q _ H2 (Gv.same g.1 s) rfl⟩
def spLaw (K : PySem.W.Frag) : Sp := fun vs H Q _ => ∃ (l : Addr) (is : List Int), vs = [.ref l] ∧ SqL K H l (is.map V.int) ∧ ∀ H', Q (.bl true) H'
theorem ok_law (T : Tx A K mg) (c_law_things : CalX P w K mg base CX0 1 "_law_things" (spThings K)) (c_law_placed : CalX P w K mg base CX0 3 "_law_placed" (spMade A)) (c_law_named : CalX P w K mg base CX0 3 "_law_named" (spMade A)) (c_law_kept : CalX P w K mg base CX0 1 "_law_kept" (spKept A)) (c_law_is_right : CalX P w K mg base CX0 2 "_law_is_right" (spRight A))
    {f : Addr} {fd : FuncData} (F : Fun K "law" "law" s_law f fd) : FnG P w K mg base CX0 6 f fd ["_law_script"] (spLaw K) := by
  refine fun_okG F sc_law (fun vs H Q E h => ?_) (fun cdv A2 outer s H vs Q E hG hr h => ?_)
  · obtain ⟨l, is, rfl, _⟩ := h; rfl
  · obtain ⟨l, is, rfl, hl, q⟩ := h
    refine ⟨_, (pss_cons (ps_for PassesOwn.leaving rfl (pi_list (pe_cal c_law_things hr (by decide) pass0 (pa_cons (pv 0) pa_nil))) (pg_name (i := 1) sc_law.nd rfl (by first | exact .inl rfl | exact .inr rfl)) (pss_cons (ps_set (i := 2) sc_law.nd rfl (by first | exact .inl rfl | exact .inr rfl) (pe_ifExp (pt_val (pe_callB call_isi (by rfl) T.z_isinstance (by decide +kernel) (pa_cons (pv 1) (pa_cons (pe_bltn (v := .ty "list") (by rfl) T.z_list (by decide +kernel) rfl) pa_nil)))) (pe_callTy call_list_of (by rfl) T.z_list (by decide +kernel) (pa_cons (pv 1) pa_nil)) (pv 1)))
      (pss_cons (ps_par (i := 3) (j := 4) (by rfl) sc_law.nd rfl rfl (by decide) rfl rfl (pa_cons (pe_cal c_law_placed hr (by decide) pass0 (pa_cons (pv 2) pa_nil)) (pa_cons (pe_cal c_law_named hr (by decide) pass0 (pa_cons (pv 2) pa_nil)) pa_nil)) (by rfl))
      (pss_cons (ps_if (pt_val (pe_callB call_isi (by rfl) T.z_isinstance (by decide +kernel) (pa_cons (pv 2) (pa_cons (pe_bltn (v := .ty "list") (by rfl) T.z_list (by decide +kernel) rfl) pa_nil)))) (pss_one (ps_expr (pe_bm PySem.F.plainAttrs_list PySem.F.slot_list_append PySem.F.type_list_append mt_append (pv 2) (pa_cons pe_int pa_nil)))) pss_nil)
      (pss_one (ps_for PassesOwn.leaving rfl (pi_range1 (by rfl) T.z_range (pa_cons pe_int pa_nil)) (pg_name (i := 5) sc_law.nd rfl (by first | exact .inl rfl | exact .inr rfl)) (pss_one (ps_for PassesOwn.leaving rfl (pi_tup (pe_tup (pa_cons (pe_ix ix_list (pv 3) (pv 5) (fun _ _ => rfl)) (pa_cons (pe_ix ix_list (pv 4) (pv 5) (fun _ _ => rfl)) pa_nil)))) (pg_name (i := 6) sc_law.nd rfl (by first | exact .inl rfl | exact .inr rfl)) (pss_one (ps_if (PW.pt (pw_or (pt_cmpR op_ne (pe_callB (call_repr_data hG hr) (by rfl) T.z_repr (by decide +kernel) (pa_cons (pe_cal c_law_kept hr (by decide) pass0 (pa_cons (pv 6) (pa_cons (pv 5) pa_nil))) pa_nil)) (pe_callB (call_repr_data hG hr) (by rfl) T.z_repr (by decide +kernel) (pa_cons (pv 2) pa_nil)) (nomark _)) (pw_or1 (pt_not (pt_val (pe_cal c_law_is_right hr (by decide) pass0 (pa_cons (pv 6) (pa_cons (pv 5) pa_nil)))))))) (pss_one (ps_ret pe_bl)) pss_nil))))))))))
      (pss_one (ps_ret (pe_and (pe_cal c_law_is_right hr (by decide) pass0 (pa_cons (pe_mkE PySem.F.excBase_ValueError T.y_InvalidFault.2.1 T.g_InvalidFault T.y_InvalidFault.2.2) (pa_cons pe_int pa_nil))) (pe_one (pe_cal c_law_is_right hr (by decide) pass0 (pa_cons (pe_mkE PySem.F.excBase_ValueError T.y_InvalidCommand.2.1 T.g_InvalidCommand T.y_InvalidCommand.2.2) (pa_cons pe_int pa_nil)))))))), ?_⟩
    refine s_forL (R := Free) (H := H) (P := fun xs _ H' => ∃ t : Int, t.natAbs < 2 ^ 30 ∧ PsOk (ps9 t) xs H') ?_ (Gr.refl free_j) fun pl xs H1 g1 gv1 hP => ?_
    · exact ev_call (ea_is (ev_is rfl) ea_nil) fun vs H1 g ps Q q => by
        cases psOk1 ps
        exact ⟨l, is, rfl, SqL.ext hl g.free, fun t p xs H' ht s hp hx => q _ H' (Gv.same g.1 s) ⟨p, xs, rfl, ⟨t, ht, hx⟩, hp, nofree⟩⟩
    obtain ⟨t, ht, ps⟩ := hP
    refine ⟨fun _ σ' H' => Gr Free H1 H' ∧ ∃ y1 y2 y3 y4 y5 y6 : Option V, σ' = [some (.ref l), y1, y2, y3, y4, y5, y6], ⟨Gr.refl free_j, none, none, none, none, none, none, rfl⟩, fun _ _ _ _ h => h.1, ?_, ?_⟩
    · rintro i x σ' H2 hi ⟨g2, y1, y2, y3, y4, y5, y6, rfl⟩ hx
      show tSeq _ _ _ [some (.ref l), some x, y2, y3, y4, y5, y6] H2
      have th := things_of (K := K) ht (psOk_stb stb_ps9 g2 ps) hx
      have g12 : Gr Free H1 H2 := g2
      refine s_set (R := Free) (H := H2) (P := fun u H' => Plain K u H' ∨ Copied t H2 u H') ?_ (Gr.refl free_j) fun u H3 g3 gv3 hu => ?_
      · rcases th with hp | hl2
        · obtain ⟨ty, d, k1, k2, k3, k4⟩ := id hp
          exact ev_if (b := false) (et_B (ev_isi (ev_is rfl) ev_c (.ty _) (al_free k1) k2)) (fun h => Bool.noConfusion h) fun _ => ev_var rfl fun H' g => .inl (hp.same g.free)
        · refine ev_if (b := true) ?_ (fun _ => ev_imp (ev_copy hl2 (ev_is rfl)) fun u H' _ h => .inr h) fun h => Bool.noConfusion h
          obtain ⟨qa, ys, rfl, hqa, _⟩ := hl2
          exact et_B (ev_isi (ev_is rfl) ev_c (.ty _) (al_free fun H' s => .base (.lst (s _ _ hqa))) (kit_ty (show kitB "list" "list" = some true by decide +kernel)))
      dsimp only
      show tSeq _ _ _ [some (.ref l), some x, some u, y3, y4, y5, y6] H3
      have s7 : ∀ P, P ∈ made7 A u → Stb Free P := stb_made
      refine s_par (R := Free) (H := H3) (P1 := LsOk Free (made7 A u)) (P2 := LsOk Free (made7 A u)) (ea_cons (stb_lsOk s7) (ev_made7 (R := Free) (ev_is rfl)) (ea_cons (stb_lsOk s7) (ev_made7 (R := Free) (ev_is rfl)) ea_nil)) (Gr.refl free_j) fun w1 w2 H4 g4 gv4 h1 h2 => ?_
      obtain ⟨p1, es1, rfl, hp1, _, q1⟩ := h1
      obtain ⟨p2, es2, rfl, hp2, _, q2⟩ := h2
      dsimp only
      show tSeq _ _ _ [some (.ref l), some x, some u, some (.ref p1), some (.ref p2), y5, y6] H4
      have g14 : Gr Free H1 H4 := (g12.tr g3).tr g4
      obtain ⟨b, hb⟩ : ∃ b : Bool, (b = false ∧ Plain K u H4) ∨ (b = true ∧ Copied t H2 u H4) := by
        rcases hu with h | h
        · exact ⟨false, .inl ⟨rfl, h.same g4.free⟩⟩
        · exact ⟨true, .inr ⟨rfl, h.same g4.free⟩⟩
      refine s_ifK (R := Free) (H := H4) (b := b) (fun H5 => Gr Free H1 H5 ∧ ∃ d, OkD d ∧ (∀ H', Same H5 H' → Dp K H' u d) ∧ H5 p1 = some (.lst es1) ∧ PsOk (made7 A u) es1 H5 ∧ H5 p2 = some (.lst es2) ∧ PsOk (made7 A u) es2 H5) (fun H5 hJ => ?_) ?_ (Gr.refl free_j) (fun hbt H5 g5 _ k => ?_) (fun hbf H5 g5 _ => ?_)
      · obtain ⟨g15, d, ok, hdp, r1, t1, r2, t2⟩ := hJ
        dsimp only
        refine s_rng (R := Free) (H := H5) (m := 7) (ea_is ev_c ea_nil) ⟨by decide, by decide⟩ (Gr.refl free_j) (fun _ σ' H' => Gr Free H5 H' ∧ ∃ z5 z6 : Option V, σ' = [some (.ref l), some x, some u, some (.ref p1), some (.ref p2), z5, z6]) (fun H6 g6 _ => ⟨g6, y5, y6, rfl⟩) (fun j σ' H6 hj hP => ?_) (fun σ' H6 hP => ?_)
        · obtain ⟨g6, z5, z6, rfl⟩ := hP
          have hj7 : j < 7 := by omega
          obtain ⟨e1, d1, x1, a1, b1⟩ := made_get t1 hj7
          obtain ⟨e2, d2, x2, a2, b2⟩ := made_get t2 hj7
          have s56 := g6.free
          dsimp only
          refine s_for (R := Free) (H := H6) (σ := [some (.ref l), some x, some u, some (.ref p1), some (.ref p2), some (.int (j : Int)), z6]) (n := 2) (ew_tup (K := K) (ev_U (ev_tupN (R := Free) (vs := [V.ref e1, .ref e2]) (ea_is (ev_item (K := K) rfl (s56 _ _ r1) nofree x1 (ev_is rfl) stb_is rfl) (ea_is (ev_item (K := K) rfl (s56 _ _ r2) nofree x2 (ev_is rfl) stb_is rfl) ea_nil)) (by show 2 ≤ 1000; decide)))) (Gr.refl free_j) fun H7 g7 gv7 =>
            ⟨fun _ σ' H' => Gr Free H7 H' ∧ ∃ z6 : Option V, σ' = [some (.ref l), some x, some u, some (.ref p1), some (.ref p2), some (.int (j : Int)), z6], ⟨Gr.refl free_j, z6, rfl⟩, fun _ _ _ _ h => h.1, ?_, ?_⟩
          · rintro m ev σ' H8 H9 hm ⟨g8, z6, rfl⟩ ⟨rfl, hev⟩
            have s58 : Same H5 H9 := ((g6.tr g7).tr g8).free
            obtain ⟨e, dx, rfl, he, hdx⟩ : ∃ e dx, ev = .ref e ∧ H9 e = some (exo e (clsA A j) (some dx)) ∧ H9 dx = some (exd dx [(fldN j, u)]) := by
              match m, hm, hev with
              | 0, _, hev => cases hev; exact ⟨e1, d1, rfl, s58 _ _ a1, s58 _ _ b1⟩
              | 1, _, hev => cases hev; exact ⟨e2, d2, rfl, s58 _ _ a2, s58 _ _ b2⟩
            show tIfS _ _ _ _ [some (.ref l), some x, some u, some (.ref p1), some (.ref p2), some (.int (j : Int)), some (.ref e)] H9
            have rp : ∀ H', Same H9 H' → Rp K Free d u H' := fun H' s => rp_free (hdp H' fun a o q => s a o (s58 a o q))
            refine s_if1 (R := Free) (H := H9) (b := false) (et_is (et_or (et_test (ev_ne rfl (ev_reprD ok (ev_imp (ev_kept hj7 (ev_is rfl) (ev_is rfl) he hdx) fun v H' g e => e ▸ rp H' g.free)) (ev_reprD ok (ev_var rfl fun H' g => rp H' g.free)))) fun _ => et_not (et_B (ev_right (by omega) (ev_var rfl fun H' g => ⟨e, rfl, .inl ⟨dx, _, g.free _ _ he, g.free _ _ hdx⟩⟩) (ev_is rfl)))) (by simp)) (Gr.refl free_j) (fun hb => Bool.noConfusion hb) fun _ H10 g10 _ => ?_
            exact ⟨g8.tr g10, some (.ref e), rfl⟩
          · rintro σ' H8 ⟨g8, z6, rfl⟩
            exact ⟨(g6.tr g7).tr g8, _, _, rfl⟩
        · obtain ⟨g6, z5, z6, rfl⟩ := hP
          exact ⟨g15.tr g6, _, _, _, _, _, _, rfl⟩
      · rcases hb with ⟨rfl, ty, d, k1, k2, k3, k4⟩ | ⟨rfl, g, ys, rfl, hg, hn, hy⟩
        · exact et_B (ev_isi (ev_is rfl) ev_c (.ty _) (al_free k1) k2)
        · exact et_B (ev_isi (ev_is rfl) ev_c (.ty _) (al_free fun H' s => .base (.lst (s _ _ hg))) (kit_ty (show kitB "list" "list" = some true by decide +kernel)))
      · rcases hb with ⟨rfl, _⟩ | ⟨rfl, hc⟩
        · exact Bool.noConfusion hbt
        · obtain ⟨g, ys, rfl, hg, hn, hy⟩ := hc.same g5.free
          have ly : ys.length ≤ 2 := by
            rcases hy with rfl | ⟨q4, rfl, _⟩
            · exact Nat.zero_le _
            · exact Nat.le_refl 2
          have hp15 := g5.free _ _ hp1
          have hp25 := g5.free _ _ hp2
          have l1 : es1.length = 7 := psOk_len q1
          have l2 : es2.length = 7 := psOk_len q2
          have n1 : p1 ≠ g := fun z => by
            rw [z, hg] at hp15
            cases hp15
            omega
          have n2 : p2 ≠ g := fun z => by
            rw [z, hg] at hp25
            cases hp25
            omega
          have t1 := psOk_stb s7 g5 q1
          have t2 := psOk_stb s7 g5 q2
          refine ⟨.ref g, rfl, .inl ⟨rfl, _, .inl (.inl hg)⟩, g, ys, .int 7, rfl, rfl, hg, small1000 (by omega), k _ ⟨⟨True.intro, fun a o e _ _ => ?_⟩, ?_⟩⟩
          · have na : a ≠ g := fun z => by
              have hn1 : H1 g = none := g12.back hn
              rw [z, hn1] at e
              cases e
            rw [upd_ne na]
            exact (g14.tr g5).free _ _ e
          · have base : H5 p1 = some (.lst es1) ∧ H5 p2 = some (.lst es2) := ⟨hp15, hp25⟩
            have rest : (upd H5 g (.lst (ys ++ [V.int 7]))) p1 = some (.lst es1) ∧ PsOk (made7 A (.ref g)) es1 (upd H5 g (.lst (ys ++ [V.int 7]))) ∧ (upd H5 g (.lst (ys ++ [V.int 7]))) p2 = some (.lst es2) ∧ PsOk (made7 A (.ref g)) es2 (upd H5 g (.lst (ys ++ [V.int 7]))) :=
              ⟨by rw [upd_ne n1]; exact hp15, made_upd hg t1, by rw [upd_ne n2]; exact hp25, made_upd hg t2⟩
            rcases hy with rfl | ⟨q4, rfl, hq4, nq⟩
            · exact ⟨.list [.int 7], okD_7, fun H' s => .lst (.inl (.inl (s _ _ upd_same))) (.cons (.int 7) .nil), rest⟩
            · refine ⟨.list [.int t, .list [.int 1], .int 7], okD_lst ht, fun H' s => .lst (.inl (.inl (s _ _ upd_same))) (.cons (.int t) (.cons (.lst (.inl (.inl (s _ _ (by rw [upd_ne nq]; exact hq4)))) (.cons (.int 1) .nil)) (.cons (.int 7) .nil))), rest⟩
      · rcases hb with ⟨rfl, hp⟩ | ⟨rfl, _⟩
        · obtain ⟨ty, d, k1, k2, k3, k4⟩ := hp.same g5.free
          exact ⟨g14.tr g5, d, k4, k3, g5.free _ _ hp1, psOk_stb s7 g5 q1, g5.free _ _ hp2, psOk_stb s7 g5 q2⟩
        · exact Bool.noConfusion hbf
    · rintro σ' H2 ⟨g2, y1, y2, y3, y4, y5, y6, rfl⟩
      dsimp only
      refine s_ret (R := Free) (H := H2) (P := Is (.bl (true && true))) (ev_and (ev_right (i := 7) (by decide) (ev_mkE 7) ev_c) fun _ => ev_right (i := 8) (by decide) (ev_mkE 8) ev_c) (Gr.refl free_j) fun u H3 g3 _ e => ?_
      cases e
      exact q H3
end
section
variable {P : Program} {w : World} {A : Ads} {K : PySem.W.Frag} {mg : Str → Option Value} {base : Heap}
theorem binds_all {x qual : Str} {st : Stmt} {f : Addr} {fd : FuncData} {ps : List Str} (F : Fun K x qual st f fd)
    (b : ∀ (kV doc pm : Value) (an : Option Addr) (cdv ct : Value) (us : List Value), us.length = ps.length → bindArgs (PySem.W.fnOf x qual (defArgs st) (defBody st) (defScope st) .none kV doc pm an cdv ct) ⟨us, []⟩ = pure (ps.zip us)) (s : Shared) (us : List Value) (hl : us.length = ps.length) : BindsTo s fd ⟨us, []⟩ (ps.zip us) := by
  obtain ⟨_, _, kV, doc, pm, an, cdv, ct, _, rfl, _, _⟩ := F.ex
  intro M A E Q q
  rw [b kV doc pm an cdv ct us hl]
  exact wpAny_pure q
theorem binds_kw {x qual z : Str} {st : Stmt} {f : Addr} {fd : FuncData} (F : Fun K x qual st f fd) {g : Value → Value → List (Str × Value)}
    (b : ∀ (kV doc pm : Value) (an : Option Addr) (cdv ct a v : Value), bindArgs (PySem.W.fnOf x qual (defArgs st) (defBody st) (defScope st) .none kV doc pm an cdv ct) ⟨[a], [(z, v)]⟩ = pure (g a v)) (s : Shared) (a v : Value) : BindsTo s fd ⟨[a], [(z, v)]⟩ (g a v) := by
  obtain ⟨_, _, kV, doc, pm, an, cdv, ct, _, rfl, _, _⟩ := F.ex
  intro M A E Q q
  rw [b kV doc pm an cdv ct a v]
  exact wpAny_pure q
theorem whole (T : Tx A K mg) : ∃ fd : FuncData, (∀ (s : Shared) (u : Value), BindsTo s fd ⟨[u], []⟩ [("_law_script", u)]) ∧ ∀ base : Heap, FnG P w K mg base CX0 6 A.f_law fd ["_law_script"] (spLaw K) := by
  obtain ⟨_, fd, F⟩ := T.d_law
  refine ⟨fd, fun s u => binds_all (ps := ["_law_script"]) F (fun _ _ _ _ _ _ us h => by match us, h with | [u0], _ => rfl) s [u] rfl, fun base => ?_⟩
  · skip
    have i_InvalidRow : InitX P w K mg base A.f_InvalidRow_init "word" := by
      obtain ⟨fd, F⟩ := T.d_InvalidRow_init
      exact ⟨fd, ok_InvalidRow F, F.binds (fun _ _ _ _ _ _ us h => by match us, h with | [u0, u1], _ => rfl), fun s a v _ => binds_kw (z := "word") (g := fun a v => (["self", "word"] : List Str).zip [a, v]) F (fun _ _ _ _ _ _ _ _ => rfl) s a v⟩
    have i_InvalidBook : InitX P w K mg base A.f_InvalidBook_init "word" := by
      obtain ⟨fd, F⟩ := T.d_InvalidBook_init
      exact ⟨fd, ok_InvalidBook F, F.binds (fun _ _ _ _ _ _ us h => by match us, h with | [u0, u1], _ => rfl), fun s a v _ => binds_kw (z := "word") (g := fun a v => (["self", "word"] : List Str).zip [a, v]) F (fun _ _ _ _ _ _ _ _ => rfl) s a v⟩
    have i_InvalidText : InitX P w K mg base A.f_InvalidText_init "at" := by
      obtain ⟨fd, F⟩ := T.d_InvalidText_init
      exact ⟨fd, ok_InvalidText F, F.binds (fun _ _ _ _ _ _ us h => by match us, h with | [u0, u1], _ => rfl), fun s a v _ => binds_kw (z := "at") (g := fun a v => (["self", "at"] : List Str).zip [a, v]) F (fun _ _ _ _ _ _ _ _ => rfl) s a v⟩
    have i_InvalidEvent : InitX P w K mg base A.f_InvalidEvent_init "at" := by
      obtain ⟨fd, F⟩ := T.d_InvalidEvent_init
      exact ⟨fd, ok_InvalidEvent F, F.binds (fun _ _ _ _ _ _ us h => by match us, h with | [u0, u1], _ => rfl), fun s a v _ => binds_kw (z := "at") (g := fun a v => (["self", "at"] : List Str).zip [a, v]) F (fun _ _ _ _ _ _ _ _ => rfl) s a v⟩
    have i_Refused : InitX P w K mg base A.f_Refused_init "at" := by
      obtain ⟨fd, F⟩ := T.d_Refused_init
      exact ⟨fd, ok_Refused F, F.binds (fun _ _ _ _ _ _ us h => by match us, h with | [u0, u1], _ => rfl), fun s a v _ => binds_kw (z := "at") (g := fun a v => (["self", "at"] : List Str).zip [a, v]) F (fun _ _ _ _ _ _ _ _ => rfl) s a v⟩
    have i_NoRow : InitX P w K mg base A.f_NoRow_init "at" := by
      obtain ⟨fd, F⟩ := T.d_NoRow_init
      exact ⟨fd, ok_NoRow F, F.binds (fun _ _ _ _ _ _ us h => by match us, h with | [u0, u1], _ => rfl), fun s a v _ => binds_kw (z := "at") (g := fun a v => (["self", "at"] : List Str).zip [a, v]) F (fun _ _ _ _ _ _ _ _ => rfl) s a v⟩
    have i_NoMark : InitX P w K mg base A.f_NoMark_init "name" := by
      obtain ⟨fd, F⟩ := T.d_NoMark_init
      exact ⟨fd, ok_NoMark F, F.binds (fun _ _ _ _ _ _ us h => by match us, h with | [u0, u1], _ => rfl), fun s a v _ => binds_kw (z := "name") (g := fun a v => (["self", "name"] : List Str).zip [a, v]) F (fun _ _ _ _ _ _ _ _ => rfl) s a v⟩
    have c : XI P w K mg base A := ⟨i_InvalidRow, i_InvalidBook, i_InvalidText, i_InvalidEvent, i_Refused, i_NoRow, i_NoMark⟩
    have c_law_things : CalX P w K mg base CX0 1 "_law_things" (spThings K) := cal_of T.d_law_things (fun _ F => ok_things T F) (fun _ _ _ _ _ _ us h => by match us, h with | [u0], _ => rfl)
    have c_law_placed : CalX P w K mg base CX0 3 "_law_placed" (spMade A) := cal_of T.d_law_placed (fun _ F => ok_placed T c F) (fun _ _ _ _ _ _ us h => by match us, h with | [u0], _ => rfl)
    have c_law_named : CalX P w K mg base CX0 3 "_law_named" (spMade A) := cal_of T.d_law_named (fun _ F => ok_named T c F) (fun _ _ _ _ _ _ us h => by match us, h with | [u0], _ => rfl)
    have c_law_kept : CalX P w K mg base CX0 1 "_law_kept" (spKept A) := cal_of T.d_law_kept (fun _ F => ok_kept T F) (fun _ _ _ _ _ _ us h => by match us, h with | [u0, u1], _ => rfl)
    have c_law_sorts : CalX P w K mg base CX0 1 "_law_sorts" (spSorts A) := cal_of T.d_law_sorts (fun _ F => ok_sorts T F) (fun _ _ _ _ _ _ us h => by match us, h with | [u0], _ => rfl)
    have c_law_is_right : CalX P w K mg base CX0 2 "_law_is_right" (spRight A) := cal_of T.d_law_is_right (fun _ F => ok_right T c_law_sorts F) (fun _ _ _ _ _ _ us h => by match us, h with | [u0, u1], _ => rfl)
    exact ok_law T c_law_things c_law_placed c_law_named c_law_kept c_law_is_right F
end
theorem gather {K : PySem.W.Frag} {h : Heap} {mg : Str → Option Value} (X : K.In h) (G : h.Ns mainGlobals mg) {PollError InvalidRow InvalidBook InvalidText InvalidEvent Refused NoRow NoMark InvalidFault InvalidCommand f_InvalidRow_init f_InvalidBook_init f_InvalidText_init f_InvalidEvent_init f_Refused_init f_NoRow_init f_NoMark_init f_law_things f_law_placed f_law_named f_law_kept f_law_sorts f_law_is_right f_law : Addr}
    {oc1 kV1 dc1 pm1 cd1 ct1 : Value} {od1 an1 : Option Addr} {sl1 : Array (Option Value)}
    {oc2 kV2 dc2 pm2 cd2 ct2 : Value} {od2 an2 : Option Addr} {sl2 : Array (Option Value)}
    {oc3 kV3 dc3 pm3 cd3 ct3 : Value} {od3 an3 : Option Addr} {sl3 : Array (Option Value)}
    {oc4 kV4 dc4 pm4 cd4 ct4 : Value} {od4 an4 : Option Addr} {sl4 : Array (Option Value)}
    {oc5 kV5 dc5 pm5 cd5 ct5 : Value} {od5 an5 : Option Addr} {sl5 : Array (Option Value)}
    {oc6 kV6 dc6 pm6 cd6 ct6 : Value} {od6 an6 : Option Addr} {sl6 : Array (Option Value)}
    {oc7 kV7 dc7 pm7 cd7 ct7 : Value} {od7 an7 : Option Addr} {sl7 : Array (Option Value)}
    {nmInvalidRow qnInvalidRow : Str} {naInvalidRow : Addr} {bsInvalidRow bmInvalidRow : List Value} {snInvalidRow : List Str} {suInvalidRow : List Value} {abInvalidRow : Bool} {coInvalidRow : Option Bool} {ddInvalidRow : Option Addr} {kaInvalidRow kbInvalidRow kcInvalidRow kdInvalidRow keInvalidRow : Option Value}
    {nmInvalidBook qnInvalidBook : Str} {naInvalidBook : Addr} {bsInvalidBook bmInvalidBook : List Value} {snInvalidBook : List Str} {suInvalidBook : List Value} {abInvalidBook : Bool} {coInvalidBook : Option Bool} {ddInvalidBook : Option Addr} {kaInvalidBook kbInvalidBook kcInvalidBook kdInvalidBook keInvalidBook : Option Value}
    {nmInvalidText qnInvalidText : Str} {naInvalidText : Addr} {bsInvalidText bmInvalidText : List Value} {snInvalidText : List Str} {suInvalidText : List Value} {abInvalidText : Bool} {coInvalidText : Option Bool} {ddInvalidText : Option Addr} {kaInvalidText kbInvalidText kcInvalidText kdInvalidText keInvalidText : Option Value}
    {nmInvalidEvent qnInvalidEvent : Str} {naInvalidEvent : Addr} {bsInvalidEvent bmInvalidEvent : List Value} {snInvalidEvent : List Str} {suInvalidEvent : List Value} {abInvalidEvent : Bool} {coInvalidEvent : Option Bool} {ddInvalidEvent : Option Addr} {kaInvalidEvent kbInvalidEvent kcInvalidEvent kdInvalidEvent keInvalidEvent : Option Value}
    {nmRefused qnRefused : Str} {naRefused : Addr} {bsRefused bmRefused : List Value} {snRefused : List Str} {suRefused : List Value} {abRefused : Bool} {coRefused : Option Bool} {ddRefused : Option Addr} {kaRefused kbRefused kcRefused kdRefused keRefused : Option Value}
    {nmNoRow qnNoRow : Str} {naNoRow : Addr} {bsNoRow bmNoRow : List Value} {snNoRow : List Str} {suNoRow : List Value} {abNoRow : Bool} {coNoRow : Option Bool} {ddNoRow : Option Addr} {kaNoRow kbNoRow kcNoRow kdNoRow keNoRow : Option Value}
    {nmNoMark qnNoMark : Str} {naNoMark : Addr} {bsNoMark bmNoMark : List Value} {snNoMark : List Str} {suNoMark : List Value} {abNoMark : Bool} {coNoMark : Option Bool} {ddNoMark : Option Addr} {kaNoMark kbNoMark kcNoMark kdNoMark keNoMark : Option Value}
    {oc8 kV8 dc8 pm8 cd8 ct8 : Value} {od8 an8 : Option Addr} {sl8 : Array (Option Value)}
    {oc9 kV9 dc9 pm9 cd9 ct9 : Value} {od9 an9 : Option Addr} {sl9 : Array (Option Value)}
    {oc10 kV10 dc10 pm10 cd10 ct10 : Value} {od10 an10 : Option Addr} {sl10 : Array (Option Value)}
    {oc11 kV11 dc11 pm11 cd11 ct11 : Value} {od11 an11 : Option Addr} {sl11 : Array (Option Value)}
    {oc12 kV12 dc12 pm12 cd12 ct12 : Value} {od12 an12 : Option Addr} {sl12 : Array (Option Value)}
    {oc13 kV13 dc13 pm13 cd13 ct13 : Value} {od13 an13 : Option Addr} {sl13 : Array (Option Value)}
    {oc14 kV14 dc14 pm14 cd14 ct14 : Value} {od14 an14 : Option Addr} {sl14 : Array (Option Value)}
    (z_isinstance : PySem.W.nsIn K mainGlobals "isinstance" = some none)
    (z_int : PySem.W.nsIn K mainGlobals "int" = some none)
    (z_abs : PySem.W.nsIn K mainGlobals "abs" = some none)
    (z_list : PySem.W.nsIn K mainGlobals "list" = some none)
    (z_range : PySem.W.nsIn K mainGlobals "range" = some none)
    (z_repr : PySem.W.nsIn K mainGlobals "repr" = some none)
    (z_sum : PySem.W.nsIn K mainGlobals "sum" = some none)
    (z_ValueError : PySem.W.nsIn K mainGlobals "ValueError" = some none)
    (z_IndexError : PySem.W.nsIn K mainGlobals "IndexError" = some none)
    (z_KeyError : PySem.W.nsIn K mainGlobals "KeyError" = some none)
    (g_PollError : PySem.W.nsIn K mainGlobals "PollError" = some (some (.ref PollError)))
    (g_InvalidRow : PySem.W.nsIn K mainGlobals "InvalidRow" = some (some (.ref InvalidRow)))
    (g_InvalidBook : PySem.W.nsIn K mainGlobals "InvalidBook" = some (some (.ref InvalidBook)))
    (g_InvalidText : PySem.W.nsIn K mainGlobals "InvalidText" = some (some (.ref InvalidText)))
    (g_InvalidEvent : PySem.W.nsIn K mainGlobals "InvalidEvent" = some (some (.ref InvalidEvent)))
    (g_Refused : PySem.W.nsIn K mainGlobals "Refused" = some (some (.ref Refused)))
    (g_NoRow : PySem.W.nsIn K mainGlobals "NoRow" = some (some (.ref NoRow)))
    (g_NoMark : PySem.W.nsIn K mainGlobals "NoMark" = some (some (.ref NoMark)))
    (g_InvalidFault : PySem.W.nsIn K mainGlobals "InvalidFault" = some (some (.ref InvalidFault)))
    (g_InvalidCommand : PySem.W.nsIn K mainGlobals "InvalidCommand" = some (some (.ref InvalidCommand)))
    (m_InvalidRow_init : PySem.W.findIn K (.ref InvalidRow) "__init__" = some (some (.ref f_InvalidRow_init)))
    (n_f_InvalidRow_init : PySem.W.isFn K (.ref f_InvalidRow_init) = true)
    (l1 : K.lookup f_InvalidRow_init = some ⟨oc1, od1, .func (PySem.W.fnOf "__init__" "InvalidRow.__init__" (defArgs s_InvalidRow_init) (defBody s_InvalidRow_init) (defScope s_InvalidRow_init) .none kV1 dc1 pm1 an1 cd1 ct1), sl1⟩)
    (c1 : PySem.W.codeIn K cd1 "InvalidRow.__init__" = true)
    (k1 : PySem.W.keepIn K (.ref f_InvalidRow_init) = true)
    (m_InvalidBook_init : PySem.W.findIn K (.ref InvalidBook) "__init__" = some (some (.ref f_InvalidBook_init)))
    (n_f_InvalidBook_init : PySem.W.isFn K (.ref f_InvalidBook_init) = true)
    (l2 : K.lookup f_InvalidBook_init = some ⟨oc2, od2, .func (PySem.W.fnOf "__init__" "InvalidBook.__init__" (defArgs s_InvalidBook_init) (defBody s_InvalidBook_init) (defScope s_InvalidBook_init) .none kV2 dc2 pm2 an2 cd2 ct2), sl2⟩)
    (c2 : PySem.W.codeIn K cd2 "InvalidBook.__init__" = true)
    (k2 : PySem.W.keepIn K (.ref f_InvalidBook_init) = true)
    (m_InvalidText_init : PySem.W.findIn K (.ref InvalidText) "__init__" = some (some (.ref f_InvalidText_init)))
    (n_f_InvalidText_init : PySem.W.isFn K (.ref f_InvalidText_init) = true)
    (l3 : K.lookup f_InvalidText_init = some ⟨oc3, od3, .func (PySem.W.fnOf "__init__" "InvalidText.__init__" (defArgs s_InvalidText_init) (defBody s_InvalidText_init) (defScope s_InvalidText_init) .none kV3 dc3 pm3 an3 cd3 ct3), sl3⟩)
    (c3 : PySem.W.codeIn K cd3 "InvalidText.__init__" = true)
    (k3 : PySem.W.keepIn K (.ref f_InvalidText_init) = true)
    (m_InvalidEvent_init : PySem.W.findIn K (.ref InvalidEvent) "__init__" = some (some (.ref f_InvalidEvent_init)))
    (n_f_InvalidEvent_init : PySem.W.isFn K (.ref f_InvalidEvent_init) = true)
    (l4 : K.lookup f_InvalidEvent_init = some ⟨oc4, od4, .func (PySem.W.fnOf "__init__" "InvalidEvent.__init__" (defArgs s_InvalidEvent_init) (defBody s_InvalidEvent_init) (defScope s_InvalidEvent_init) .none kV4 dc4 pm4 an4 cd4 ct4), sl4⟩)
    (c4 : PySem.W.codeIn K cd4 "InvalidEvent.__init__" = true)
    (k4 : PySem.W.keepIn K (.ref f_InvalidEvent_init) = true)
    (m_Refused_init : PySem.W.findIn K (.ref Refused) "__init__" = some (some (.ref f_Refused_init)))
    (n_f_Refused_init : PySem.W.isFn K (.ref f_Refused_init) = true)
    (l5 : K.lookup f_Refused_init = some ⟨oc5, od5, .func (PySem.W.fnOf "__init__" "Refused.__init__" (defArgs s_Refused_init) (defBody s_Refused_init) (defScope s_Refused_init) .none kV5 dc5 pm5 an5 cd5 ct5), sl5⟩)
    (c5 : PySem.W.codeIn K cd5 "Refused.__init__" = true)
    (k5 : PySem.W.keepIn K (.ref f_Refused_init) = true)
    (m_NoRow_init : PySem.W.findIn K (.ref NoRow) "__init__" = some (some (.ref f_NoRow_init)))
    (n_f_NoRow_init : PySem.W.isFn K (.ref f_NoRow_init) = true)
    (l6 : K.lookup f_NoRow_init = some ⟨oc6, od6, .func (PySem.W.fnOf "__init__" "NoRow.__init__" (defArgs s_NoRow_init) (defBody s_NoRow_init) (defScope s_NoRow_init) .none kV6 dc6 pm6 an6 cd6 ct6), sl6⟩)
    (c6 : PySem.W.codeIn K cd6 "NoRow.__init__" = true)
    (k6 : PySem.W.keepIn K (.ref f_NoRow_init) = true)
    (m_NoMark_init : PySem.W.findIn K (.ref NoMark) "__init__" = some (some (.ref f_NoMark_init)))
    (n_f_NoMark_init : PySem.W.isFn K (.ref f_NoMark_init) = true)
    (l7 : K.lookup f_NoMark_init = some ⟨oc7, od7, .func (PySem.W.fnOf "__init__" "NoMark.__init__" (defArgs s_NoMark_init) (defBody s_NoMark_init) (defScope s_NoMark_init) .none kV7 dc7 pm7 an7 cd7 ct7), sl7⟩)
    (c7 : PySem.W.codeIn K cd7 "NoMark.__init__" = true)
    (k7 : PySem.W.keepIn K (.ref f_NoMark_init) = true)
    (ft_f_InvalidRow_init : PySem.W.typeIn K (.ref f_InvalidRow_init) = some (.type "function"))
    (ft_f_InvalidBook_init : PySem.W.typeIn K (.ref f_InvalidBook_init) = some (.type "function"))
    (ft_f_InvalidText_init : PySem.W.typeIn K (.ref f_InvalidText_init) = some (.type "function"))
    (ft_f_InvalidEvent_init : PySem.W.typeIn K (.ref f_InvalidEvent_init) = some (.type "function"))
    (ft_f_Refused_init : PySem.W.typeIn K (.ref f_Refused_init) = some (.type "function"))
    (ft_f_NoRow_init : PySem.W.typeIn K (.ref f_NoRow_init) = some (.type "function"))
    (ft_f_NoMark_init : PySem.W.typeIn K (.ref f_NoMark_init) = some (.type "function"))
    (h_ogt : PySem.W.specialIn K (.builtin "object.__class__") "__get__" = some (some (.builtin "getset_descriptor.__get__")))
    (h_otk : PySem.W.takesIn K (.builtin "object.__class__") = some true)
    (xg_InvalidRow : PySem.W.findIn K (.ref InvalidRow) "__getattribute__" = some (some (.builtin "BaseException.__getattribute__")))
    (xk_InvalidRow : PySem.W.findIn K (.ref InvalidRow) "__getattr__" = some none)
    (xs_InvalidRow : PySem.W.subIn K (.ref InvalidRow) (.type "BaseException") = some true)
    (xd_InvalidRow : PySem.W.hasDictIn K InvalidRow = true)
    (xa_InvalidRow : PySem.W.findIn K (.ref InvalidRow) "__class__" = some (some (.builtin "object.__class__")))
    (xm_InvalidRow : PySem.W.mroIn K InvalidRow (.type "object") = some true)
    (xe_InvalidRow : PySem.W.keepIn K (.ref InvalidRow) = true)
    (xl_InvalidRow : K.lookup InvalidRow = some (excClassObj nmInvalidRow qnInvalidRow InvalidRow naInvalidRow bsInvalidRow bmInvalidRow true snInvalidRow suInvalidRow abInvalidRow coInvalidRow ddInvalidRow kaInvalidRow kbInvalidRow kcInvalidRow kdInvalidRow keInvalidRow "ValueError.__new__"))
    (xp_InvalidRow : xpassVE bmInvalidRow = true)
    (xb_InvalidRow : PySem.W.findIn K (.ref InvalidRow) "__setattr__" = some (some (.builtin "object.__setattr__")))
    (xg_InvalidBook : PySem.W.findIn K (.ref InvalidBook) "__getattribute__" = some (some (.builtin "BaseException.__getattribute__")))
    (xk_InvalidBook : PySem.W.findIn K (.ref InvalidBook) "__getattr__" = some none)
    (xs_InvalidBook : PySem.W.subIn K (.ref InvalidBook) (.type "BaseException") = some true)
    (xd_InvalidBook : PySem.W.hasDictIn K InvalidBook = true)
    (xa_InvalidBook : PySem.W.findIn K (.ref InvalidBook) "__class__" = some (some (.builtin "object.__class__")))
    (xm_InvalidBook : PySem.W.mroIn K InvalidBook (.type "object") = some true)
    (xe_InvalidBook : PySem.W.keepIn K (.ref InvalidBook) = true)
    (xl_InvalidBook : K.lookup InvalidBook = some (excClassObj nmInvalidBook qnInvalidBook InvalidBook naInvalidBook bsInvalidBook bmInvalidBook true snInvalidBook suInvalidBook abInvalidBook coInvalidBook ddInvalidBook kaInvalidBook kbInvalidBook kcInvalidBook kdInvalidBook keInvalidBook "ValueError.__new__"))
    (xp_InvalidBook : xpassVE bmInvalidBook = true)
    (xb_InvalidBook : PySem.W.findIn K (.ref InvalidBook) "__setattr__" = some (some (.builtin "object.__setattr__")))
    (xg_InvalidText : PySem.W.findIn K (.ref InvalidText) "__getattribute__" = some (some (.builtin "BaseException.__getattribute__")))
    (xk_InvalidText : PySem.W.findIn K (.ref InvalidText) "__getattr__" = some none)
    (xs_InvalidText : PySem.W.subIn K (.ref InvalidText) (.type "BaseException") = some true)
    (xd_InvalidText : PySem.W.hasDictIn K InvalidText = true)
    (xa_InvalidText : PySem.W.findIn K (.ref InvalidText) "__class__" = some (some (.builtin "object.__class__")))
    (xm_InvalidText : PySem.W.mroIn K InvalidText (.type "object") = some true)
    (xe_InvalidText : PySem.W.keepIn K (.ref InvalidText) = true)
    (xl_InvalidText : K.lookup InvalidText = some (excClassObj nmInvalidText qnInvalidText InvalidText naInvalidText bsInvalidText bmInvalidText true snInvalidText suInvalidText abInvalidText coInvalidText ddInvalidText kaInvalidText kbInvalidText kcInvalidText kdInvalidText keInvalidText "ValueError.__new__"))
    (xp_InvalidText : xpassVE bmInvalidText = true)
    (xb_InvalidText : PySem.W.findIn K (.ref InvalidText) "__setattr__" = some (some (.builtin "object.__setattr__")))
    (xg_InvalidEvent : PySem.W.findIn K (.ref InvalidEvent) "__getattribute__" = some (some (.builtin "BaseException.__getattribute__")))
    (xk_InvalidEvent : PySem.W.findIn K (.ref InvalidEvent) "__getattr__" = some none)
    (xs_InvalidEvent : PySem.W.subIn K (.ref InvalidEvent) (.type "BaseException") = some true)
    (xd_InvalidEvent : PySem.W.hasDictIn K InvalidEvent = true)
    (xa_InvalidEvent : PySem.W.findIn K (.ref InvalidEvent) "__class__" = some (some (.builtin "object.__class__")))
    (xm_InvalidEvent : PySem.W.mroIn K InvalidEvent (.type "object") = some true)
    (xe_InvalidEvent : PySem.W.keepIn K (.ref InvalidEvent) = true)
    (xl_InvalidEvent : K.lookup InvalidEvent = some (excClassObj nmInvalidEvent qnInvalidEvent InvalidEvent naInvalidEvent bsInvalidEvent bmInvalidEvent true snInvalidEvent suInvalidEvent abInvalidEvent coInvalidEvent ddInvalidEvent kaInvalidEvent kbInvalidEvent kcInvalidEvent kdInvalidEvent keInvalidEvent "ValueError.__new__"))
    (xp_InvalidEvent : xpassVE bmInvalidEvent = true)
    (xb_InvalidEvent : PySem.W.findIn K (.ref InvalidEvent) "__setattr__" = some (some (.builtin "object.__setattr__")))
    (xg_Refused : PySem.W.findIn K (.ref Refused) "__getattribute__" = some (some (.builtin "BaseException.__getattribute__")))
    (xk_Refused : PySem.W.findIn K (.ref Refused) "__getattr__" = some none)
    (xs_Refused : PySem.W.subIn K (.ref Refused) (.type "BaseException") = some true)
    (xd_Refused : PySem.W.hasDictIn K Refused = true)
    (xa_Refused : PySem.W.findIn K (.ref Refused) "__class__" = some (some (.builtin "object.__class__")))
    (xm_Refused : PySem.W.mroIn K Refused (.type "object") = some true)
    (xe_Refused : PySem.W.keepIn K (.ref Refused) = true)
    (xl_Refused : K.lookup Refused = some (excClassObj nmRefused qnRefused Refused naRefused bsRefused bmRefused true snRefused suRefused abRefused coRefused ddRefused kaRefused kbRefused kcRefused kdRefused keRefused "ValueError.__new__"))
    (xp_Refused : xpassVE bmRefused = true)
    (xb_Refused : PySem.W.findIn K (.ref Refused) "__setattr__" = some (some (.builtin "object.__setattr__")))
    (xg_NoRow : PySem.W.findIn K (.ref NoRow) "__getattribute__" = some (some (.builtin "BaseException.__getattribute__")))
    (xk_NoRow : PySem.W.findIn K (.ref NoRow) "__getattr__" = some none)
    (xs_NoRow : PySem.W.subIn K (.ref NoRow) (.type "BaseException") = some true)
    (xd_NoRow : PySem.W.hasDictIn K NoRow = true)
    (xa_NoRow : PySem.W.findIn K (.ref NoRow) "__class__" = some (some (.builtin "object.__class__")))
    (xm_NoRow : PySem.W.mroIn K NoRow (.type "object") = some true)
    (xe_NoRow : PySem.W.keepIn K (.ref NoRow) = true)
    (xl_NoRow : K.lookup NoRow = some (excClassObj nmNoRow qnNoRow NoRow naNoRow bsNoRow bmNoRow true snNoRow suNoRow abNoRow coNoRow ddNoRow kaNoRow kbNoRow kcNoRow kdNoRow keNoRow "IndexError.__new__"))
    (xp_NoRow : xpassIE bmNoRow = true)
    (xb_NoRow : PySem.W.findIn K (.ref NoRow) "__setattr__" = some (some (.builtin "object.__setattr__")))
    (xg_NoMark : PySem.W.findIn K (.ref NoMark) "__getattribute__" = some (some (.builtin "BaseException.__getattribute__")))
    (xk_NoMark : PySem.W.findIn K (.ref NoMark) "__getattr__" = some none)
    (xs_NoMark : PySem.W.subIn K (.ref NoMark) (.type "BaseException") = some true)
    (xd_NoMark : PySem.W.hasDictIn K NoMark = true)
    (xa_NoMark : PySem.W.findIn K (.ref NoMark) "__class__" = some (some (.builtin "object.__class__")))
    (xm_NoMark : PySem.W.mroIn K NoMark (.type "object") = some true)
    (xe_NoMark : PySem.W.keepIn K (.ref NoMark) = true)
    (xl_NoMark : K.lookup NoMark = some (excClassObj nmNoMark qnNoMark NoMark naNoMark bsNoMark bmNoMark true snNoMark suNoMark abNoMark coNoMark ddNoMark kaNoMark kbNoMark kcNoMark kdNoMark keNoMark "LookupError.__new__"))
    (xp_NoMark : xpassKE bmNoMark = true)
    (xb_NoMark : PySem.W.findIn K (.ref NoMark) "__setattr__" = some (some (.builtin "object.__setattr__")))
    (xg_InvalidFault : PySem.W.findIn K (.ref InvalidFault) "__getattribute__" = some (some (.builtin "BaseException.__getattribute__")))
    (xk_InvalidFault : PySem.W.findIn K (.ref InvalidFault) "__getattr__" = some none)
    (xs_InvalidFault : PySem.W.subIn K (.ref InvalidFault) (.type "BaseException") = some true)
    (xd_InvalidFault : PySem.W.hasDictIn K InvalidFault = true)
    (xa_InvalidFault : PySem.W.findIn K (.ref InvalidFault) "__class__" = some (some (.builtin "object.__class__")))
    (xm_InvalidFault : PySem.W.mroIn K InvalidFault (.type "object") = some true)
    (xe_InvalidFault : PySem.W.keepIn K (.ref InvalidFault) = true)
    (xi_InvalidFault : PySem.W.excIn K InvalidFault [.type "ValueError", .type "Exception", .type "BaseException", .type "object"] "ValueError.__new__" = true)
    (xg_InvalidCommand : PySem.W.findIn K (.ref InvalidCommand) "__getattribute__" = some (some (.builtin "BaseException.__getattribute__")))
    (xk_InvalidCommand : PySem.W.findIn K (.ref InvalidCommand) "__getattr__" = some none)
    (xs_InvalidCommand : PySem.W.subIn K (.ref InvalidCommand) (.type "BaseException") = some true)
    (xd_InvalidCommand : PySem.W.hasDictIn K InvalidCommand = true)
    (xa_InvalidCommand : PySem.W.findIn K (.ref InvalidCommand) "__class__" = some (some (.builtin "object.__class__")))
    (xm_InvalidCommand : PySem.W.mroIn K InvalidCommand (.type "object") = some true)
    (xe_InvalidCommand : PySem.W.keepIn K (.ref InvalidCommand) = true)
    (xi_InvalidCommand : PySem.W.excIn K InvalidCommand [.type "ValueError", .type "Exception", .type "BaseException", .type "object"] "ValueError.__new__" = true)
    (kc_PollError : PySem.W.isClsIn K PollError = true)
    (kt_PollError : PySem.W.typeIn K (.ref PollError) = some (.type "type"))
    (km_PollError : PySem.W.subIn K (.ref PollError) (.ref PollError) = some true)
    (kc_InvalidRow : PySem.W.isClsIn K InvalidRow = true)
    (kt_InvalidRow : PySem.W.typeIn K (.ref InvalidRow) = some (.type "type"))
    (km_InvalidRow : PySem.W.subIn K (.ref InvalidRow) (.ref InvalidRow) = some true)
    (kc_InvalidBook : PySem.W.isClsIn K InvalidBook = true)
    (kt_InvalidBook : PySem.W.typeIn K (.ref InvalidBook) = some (.type "type"))
    (km_InvalidBook : PySem.W.subIn K (.ref InvalidBook) (.ref InvalidBook) = some true)
    (kc_InvalidText : PySem.W.isClsIn K InvalidText = true)
    (kt_InvalidText : PySem.W.typeIn K (.ref InvalidText) = some (.type "type"))
    (km_InvalidText : PySem.W.subIn K (.ref InvalidText) (.ref InvalidText) = some true)
    (kc_InvalidEvent : PySem.W.isClsIn K InvalidEvent = true)
    (kt_InvalidEvent : PySem.W.typeIn K (.ref InvalidEvent) = some (.type "type"))
    (km_InvalidEvent : PySem.W.subIn K (.ref InvalidEvent) (.ref InvalidEvent) = some true)
    (kc_Refused : PySem.W.isClsIn K Refused = true)
    (kt_Refused : PySem.W.typeIn K (.ref Refused) = some (.type "type"))
    (km_Refused : PySem.W.subIn K (.ref Refused) (.ref Refused) = some true)
    (kc_NoRow : PySem.W.isClsIn K NoRow = true)
    (kt_NoRow : PySem.W.typeIn K (.ref NoRow) = some (.type "type"))
    (km_NoRow : PySem.W.subIn K (.ref NoRow) (.ref NoRow) = some true)
    (kc_NoMark : PySem.W.isClsIn K NoMark = true)
    (kt_NoMark : PySem.W.typeIn K (.ref NoMark) = some (.type "type"))
    (km_NoMark : PySem.W.subIn K (.ref NoMark) (.ref NoMark) = some true)
    (kc_InvalidFault : PySem.W.isClsIn K InvalidFault = true)
    (kt_InvalidFault : PySem.W.typeIn K (.ref InvalidFault) = some (.type "type"))
    (km_InvalidFault : PySem.W.subIn K (.ref InvalidFault) (.ref InvalidFault) = some true)
    (kc_InvalidCommand : PySem.W.isClsIn K InvalidCommand = true)
    (kt_InvalidCommand : PySem.W.typeIn K (.ref InvalidCommand) = some (.type "type"))
    (km_InvalidCommand : PySem.W.subIn K (.ref InvalidCommand) (.ref InvalidCommand) = some true)
    (na_InvalidRow_word : PySem.W.findIn K (.ref InvalidRow) "word" = some none)
    (na_InvalidBook_word : PySem.W.findIn K (.ref InvalidBook) "word" = some none)
    (na_InvalidText_at : PySem.W.findIn K (.ref InvalidText) "at" = some none)
    (na_InvalidEvent_at : PySem.W.findIn K (.ref InvalidEvent) "at" = some none)
    (na_Refused_at : PySem.W.findIn K (.ref Refused) "at" = some none)
    (na_NoRow_at : PySem.W.findIn K (.ref NoRow) "at" = some none)
    (na_NoMark_name : PySem.W.findIn K (.ref NoMark) "name" = some none)
    (h_s00 : PySem.W.subIn K (.ref InvalidRow) (.ref InvalidRow) = some true)
    (h_s01 : PySem.W.subIn K (.ref InvalidRow) (.ref InvalidBook) = some false)
    (h_s02 : PySem.W.subIn K (.ref InvalidRow) (.ref InvalidText) = some false)
    (h_s03 : PySem.W.subIn K (.ref InvalidRow) (.ref InvalidEvent) = some false)
    (h_s04 : PySem.W.subIn K (.ref InvalidRow) (.ref Refused) = some false)
    (h_s05 : PySem.W.subIn K (.ref InvalidRow) (.ref NoRow) = some false)
    (h_s06 : PySem.W.subIn K (.ref InvalidRow) (.ref NoMark) = some false)
    (h_s07 : PySem.W.subIn K (.ref InvalidRow) (.ref InvalidFault) = some false)
    (h_s08 : PySem.W.subIn K (.ref InvalidRow) (.ref InvalidCommand) = some false)
    (h_sp0 : PySem.W.subIn K (.ref InvalidRow) (.ref PollError) = some true)
    (h_sv0 : PySem.W.subIn K (.ref InvalidRow) (.type "ValueError") = some true)
    (h_si0 : PySem.W.subIn K (.ref InvalidRow) (.type "IndexError") = some false)
    (h_sk0 : PySem.W.subIn K (.ref InvalidRow) (.type "KeyError") = some false)
    (h_s10 : PySem.W.subIn K (.ref InvalidBook) (.ref InvalidRow) = some false)
    (h_s11 : PySem.W.subIn K (.ref InvalidBook) (.ref InvalidBook) = some true)
    (h_s12 : PySem.W.subIn K (.ref InvalidBook) (.ref InvalidText) = some false)
    (h_s13 : PySem.W.subIn K (.ref InvalidBook) (.ref InvalidEvent) = some false)
    (h_s14 : PySem.W.subIn K (.ref InvalidBook) (.ref Refused) = some false)
    (h_s15 : PySem.W.subIn K (.ref InvalidBook) (.ref NoRow) = some false)
    (h_s16 : PySem.W.subIn K (.ref InvalidBook) (.ref NoMark) = some false)
    (h_s17 : PySem.W.subIn K (.ref InvalidBook) (.ref InvalidFault) = some false)
    (h_s18 : PySem.W.subIn K (.ref InvalidBook) (.ref InvalidCommand) = some false)
    (h_sp1 : PySem.W.subIn K (.ref InvalidBook) (.ref PollError) = some true)
    (h_sv1 : PySem.W.subIn K (.ref InvalidBook) (.type "ValueError") = some true)
    (h_si1 : PySem.W.subIn K (.ref InvalidBook) (.type "IndexError") = some false)
    (h_sk1 : PySem.W.subIn K (.ref InvalidBook) (.type "KeyError") = some false)
    (h_s20 : PySem.W.subIn K (.ref InvalidText) (.ref InvalidRow) = some false)
    (h_s21 : PySem.W.subIn K (.ref InvalidText) (.ref InvalidBook) = some false)
    (h_s22 : PySem.W.subIn K (.ref InvalidText) (.ref InvalidText) = some true)
    (h_s23 : PySem.W.subIn K (.ref InvalidText) (.ref InvalidEvent) = some false)
    (h_s24 : PySem.W.subIn K (.ref InvalidText) (.ref Refused) = some false)
    (h_s25 : PySem.W.subIn K (.ref InvalidText) (.ref NoRow) = some false)
    (h_s26 : PySem.W.subIn K (.ref InvalidText) (.ref NoMark) = some false)
    (h_s27 : PySem.W.subIn K (.ref InvalidText) (.ref InvalidFault) = some false)
    (h_s28 : PySem.W.subIn K (.ref InvalidText) (.ref InvalidCommand) = some false)
    (h_sp2 : PySem.W.subIn K (.ref InvalidText) (.ref PollError) = some true)
    (h_sv2 : PySem.W.subIn K (.ref InvalidText) (.type "ValueError") = some true)
    (h_si2 : PySem.W.subIn K (.ref InvalidText) (.type "IndexError") = some false)
    (h_sk2 : PySem.W.subIn K (.ref InvalidText) (.type "KeyError") = some false)
    (h_s30 : PySem.W.subIn K (.ref InvalidEvent) (.ref InvalidRow) = some false)
    (h_s31 : PySem.W.subIn K (.ref InvalidEvent) (.ref InvalidBook) = some false)
    (h_s32 : PySem.W.subIn K (.ref InvalidEvent) (.ref InvalidText) = some false)
    (h_s33 : PySem.W.subIn K (.ref InvalidEvent) (.ref InvalidEvent) = some true)
    (h_s34 : PySem.W.subIn K (.ref InvalidEvent) (.ref Refused) = some false)
    (h_s35 : PySem.W.subIn K (.ref InvalidEvent) (.ref NoRow) = some false)
    (h_s36 : PySem.W.subIn K (.ref InvalidEvent) (.ref NoMark) = some false)
    (h_s37 : PySem.W.subIn K (.ref InvalidEvent) (.ref InvalidFault) = some false)
    (h_s38 : PySem.W.subIn K (.ref InvalidEvent) (.ref InvalidCommand) = some false)
    (h_sp3 : PySem.W.subIn K (.ref InvalidEvent) (.ref PollError) = some true)
    (h_sv3 : PySem.W.subIn K (.ref InvalidEvent) (.type "ValueError") = some true)
    (h_si3 : PySem.W.subIn K (.ref InvalidEvent) (.type "IndexError") = some false)
    (h_sk3 : PySem.W.subIn K (.ref InvalidEvent) (.type "KeyError") = some false)
    (h_s40 : PySem.W.subIn K (.ref Refused) (.ref InvalidRow) = some false)
    (h_s41 : PySem.W.subIn K (.ref Refused) (.ref InvalidBook) = some false)
    (h_s42 : PySem.W.subIn K (.ref Refused) (.ref InvalidText) = some false)
    (h_s43 : PySem.W.subIn K (.ref Refused) (.ref InvalidEvent) = some false)
    (h_s44 : PySem.W.subIn K (.ref Refused) (.ref Refused) = some true)
    (h_s45 : PySem.W.subIn K (.ref Refused) (.ref NoRow) = some false)
    (h_s46 : PySem.W.subIn K (.ref Refused) (.ref NoMark) = some false)
    (h_s47 : PySem.W.subIn K (.ref Refused) (.ref InvalidFault) = some false)
    (h_s48 : PySem.W.subIn K (.ref Refused) (.ref InvalidCommand) = some false)
    (h_sp4 : PySem.W.subIn K (.ref Refused) (.ref PollError) = some true)
    (h_sv4 : PySem.W.subIn K (.ref Refused) (.type "ValueError") = some true)
    (h_si4 : PySem.W.subIn K (.ref Refused) (.type "IndexError") = some false)
    (h_sk4 : PySem.W.subIn K (.ref Refused) (.type "KeyError") = some false)
    (h_s50 : PySem.W.subIn K (.ref NoRow) (.ref InvalidRow) = some false)
    (h_s51 : PySem.W.subIn K (.ref NoRow) (.ref InvalidBook) = some false)
    (h_s52 : PySem.W.subIn K (.ref NoRow) (.ref InvalidText) = some false)
    (h_s53 : PySem.W.subIn K (.ref NoRow) (.ref InvalidEvent) = some false)
    (h_s54 : PySem.W.subIn K (.ref NoRow) (.ref Refused) = some false)
    (h_s55 : PySem.W.subIn K (.ref NoRow) (.ref NoRow) = some true)
    (h_s56 : PySem.W.subIn K (.ref NoRow) (.ref NoMark) = some false)
    (h_s57 : PySem.W.subIn K (.ref NoRow) (.ref InvalidFault) = some false)
    (h_s58 : PySem.W.subIn K (.ref NoRow) (.ref InvalidCommand) = some false)
    (h_sp5 : PySem.W.subIn K (.ref NoRow) (.ref PollError) = some false)
    (h_sv5 : PySem.W.subIn K (.ref NoRow) (.type "ValueError") = some false)
    (h_si5 : PySem.W.subIn K (.ref NoRow) (.type "IndexError") = some true)
    (h_sk5 : PySem.W.subIn K (.ref NoRow) (.type "KeyError") = some false)
    (h_s60 : PySem.W.subIn K (.ref NoMark) (.ref InvalidRow) = some false)
    (h_s61 : PySem.W.subIn K (.ref NoMark) (.ref InvalidBook) = some false)
    (h_s62 : PySem.W.subIn K (.ref NoMark) (.ref InvalidText) = some false)
    (h_s63 : PySem.W.subIn K (.ref NoMark) (.ref InvalidEvent) = some false)
    (h_s64 : PySem.W.subIn K (.ref NoMark) (.ref Refused) = some false)
    (h_s65 : PySem.W.subIn K (.ref NoMark) (.ref NoRow) = some false)
    (h_s66 : PySem.W.subIn K (.ref NoMark) (.ref NoMark) = some true)
    (h_s67 : PySem.W.subIn K (.ref NoMark) (.ref InvalidFault) = some false)
    (h_s68 : PySem.W.subIn K (.ref NoMark) (.ref InvalidCommand) = some false)
    (h_sp6 : PySem.W.subIn K (.ref NoMark) (.ref PollError) = some false)
    (h_sv6 : PySem.W.subIn K (.ref NoMark) (.type "ValueError") = some false)
    (h_si6 : PySem.W.subIn K (.ref NoMark) (.type "IndexError") = some false)
    (h_sk6 : PySem.W.subIn K (.ref NoMark) (.type "KeyError") = some true)
    (h_s70 : PySem.W.subIn K (.ref InvalidFault) (.ref InvalidRow) = some false)
    (h_s71 : PySem.W.subIn K (.ref InvalidFault) (.ref InvalidBook) = some false)
    (h_s72 : PySem.W.subIn K (.ref InvalidFault) (.ref InvalidText) = some false)
    (h_s73 : PySem.W.subIn K (.ref InvalidFault) (.ref InvalidEvent) = some false)
    (h_s74 : PySem.W.subIn K (.ref InvalidFault) (.ref Refused) = some false)
    (h_s75 : PySem.W.subIn K (.ref InvalidFault) (.ref NoRow) = some false)
    (h_s76 : PySem.W.subIn K (.ref InvalidFault) (.ref NoMark) = some false)
    (h_s77 : PySem.W.subIn K (.ref InvalidFault) (.ref InvalidFault) = some true)
    (h_s78 : PySem.W.subIn K (.ref InvalidFault) (.ref InvalidCommand) = some false)
    (h_sp7 : PySem.W.subIn K (.ref InvalidFault) (.ref PollError) = some true)
    (h_sv7 : PySem.W.subIn K (.ref InvalidFault) (.type "ValueError") = some true)
    (h_si7 : PySem.W.subIn K (.ref InvalidFault) (.type "IndexError") = some false)
    (h_sk7 : PySem.W.subIn K (.ref InvalidFault) (.type "KeyError") = some false)
    (h_s80 : PySem.W.subIn K (.ref InvalidCommand) (.ref InvalidRow) = some false)
    (h_s81 : PySem.W.subIn K (.ref InvalidCommand) (.ref InvalidBook) = some false)
    (h_s82 : PySem.W.subIn K (.ref InvalidCommand) (.ref InvalidText) = some false)
    (h_s83 : PySem.W.subIn K (.ref InvalidCommand) (.ref InvalidEvent) = some false)
    (h_s84 : PySem.W.subIn K (.ref InvalidCommand) (.ref Refused) = some false)
    (h_s85 : PySem.W.subIn K (.ref InvalidCommand) (.ref NoRow) = some false)
    (h_s86 : PySem.W.subIn K (.ref InvalidCommand) (.ref NoMark) = some false)
    (h_s87 : PySem.W.subIn K (.ref InvalidCommand) (.ref InvalidFault) = some false)
    (h_s88 : PySem.W.subIn K (.ref InvalidCommand) (.ref InvalidCommand) = some true)
    (h_sp8 : PySem.W.subIn K (.ref InvalidCommand) (.ref PollError) = some true)
    (h_sv8 : PySem.W.subIn K (.ref InvalidCommand) (.type "ValueError") = some true)
    (h_si8 : PySem.W.subIn K (.ref InvalidCommand) (.type "IndexError") = some false)
    (h_sk8 : PySem.W.subIn K (.ref InvalidCommand) (.type "KeyError") = some false)
    (g_law_things : PySem.W.nsIn K mainGlobals "_law_things" = some (some (.ref f_law_things)))
    (l8 : K.lookup f_law_things = some ⟨oc8, od8, .func (PySem.W.fnOf "_law_things" "_law_things" (defArgs s_law_things) (defBody s_law_things) (defScope s_law_things) .none kV8 dc8 pm8 an8 cd8 ct8), sl8⟩)
    (c8 : PySem.W.codeIn K cd8 "_law_things" = true)
    (k8 : PySem.W.keepIn K (.ref f_law_things) = true)
    (g_law_placed : PySem.W.nsIn K mainGlobals "_law_placed" = some (some (.ref f_law_placed)))
    (l9 : K.lookup f_law_placed = some ⟨oc9, od9, .func (PySem.W.fnOf "_law_placed" "_law_placed" (defArgs s_law_placed) (defBody s_law_placed) (defScope s_law_placed) .none kV9 dc9 pm9 an9 cd9 ct9), sl9⟩)
    (c9 : PySem.W.codeIn K cd9 "_law_placed" = true)
    (k9 : PySem.W.keepIn K (.ref f_law_placed) = true)
    (g_law_named : PySem.W.nsIn K mainGlobals "_law_named" = some (some (.ref f_law_named)))
    (l10 : K.lookup f_law_named = some ⟨oc10, od10, .func (PySem.W.fnOf "_law_named" "_law_named" (defArgs s_law_named) (defBody s_law_named) (defScope s_law_named) .none kV10 dc10 pm10 an10 cd10 ct10), sl10⟩)
    (c10 : PySem.W.codeIn K cd10 "_law_named" = true)
    (k10 : PySem.W.keepIn K (.ref f_law_named) = true)
    (g_law_kept : PySem.W.nsIn K mainGlobals "_law_kept" = some (some (.ref f_law_kept)))
    (l11 : K.lookup f_law_kept = some ⟨oc11, od11, .func (PySem.W.fnOf "_law_kept" "_law_kept" (defArgs s_law_kept) (defBody s_law_kept) (defScope s_law_kept) .none kV11 dc11 pm11 an11 cd11 ct11), sl11⟩)
    (c11 : PySem.W.codeIn K cd11 "_law_kept" = true)
    (k11 : PySem.W.keepIn K (.ref f_law_kept) = true)
    (g_law_sorts : PySem.W.nsIn K mainGlobals "_law_sorts" = some (some (.ref f_law_sorts)))
    (l12 : K.lookup f_law_sorts = some ⟨oc12, od12, .func (PySem.W.fnOf "_law_sorts" "_law_sorts" (defArgs s_law_sorts) (defBody s_law_sorts) (defScope s_law_sorts) .none kV12 dc12 pm12 an12 cd12 ct12), sl12⟩)
    (c12 : PySem.W.codeIn K cd12 "_law_sorts" = true)
    (k12 : PySem.W.keepIn K (.ref f_law_sorts) = true)
    (g_law_is_right : PySem.W.nsIn K mainGlobals "_law_is_right" = some (some (.ref f_law_is_right)))
    (l13 : K.lookup f_law_is_right = some ⟨oc13, od13, .func (PySem.W.fnOf "_law_is_right" "_law_is_right" (defArgs s_law_is_right) (defBody s_law_is_right) (defScope s_law_is_right) .none kV13 dc13 pm13 an13 cd13 ct13), sl13⟩)
    (c13 : PySem.W.codeIn K cd13 "_law_is_right" = true)
    (k13 : PySem.W.keepIn K (.ref f_law_is_right) = true)
    (g_law : PySem.W.nsIn K mainGlobals "law" = some (some (.ref f_law)))
    (l14 : K.lookup f_law = some ⟨oc14, od14, .func (PySem.W.fnOf "law" "law" (defArgs s_law) (defBody s_law) (defScope s_law) .none kV14 dc14 pm14 an14 cd14 ct14), sl14⟩)
    (c14 : PySem.W.codeIn K cd14 "law" = true)
    (k14 : PySem.W.keepIn K (.ref f_law) = true) :
    ∃ A : Ads, Tx A K mg := ⟨⟨PollError, InvalidRow, InvalidBook, InvalidText, InvalidEvent, Refused, NoRow, NoMark, InvalidFault, InvalidCommand, f_InvalidRow_init, f_InvalidBook_init, f_InvalidText_init, f_InvalidEvent_init, f_Refused_init, f_NoRow_init, f_NoMark_init, f_law_things, f_law_placed, f_law_named, f_law_kept, f_law_sorts, f_law_is_right, f_law⟩, {
    z_isinstance := PySem.W.mg_none_of X G z_isinstance,
    z_int := PySem.W.mg_none_of X G z_int,
    z_abs := PySem.W.mg_none_of X G z_abs,
    z_list := PySem.W.mg_none_of X G z_list,
    z_range := PySem.W.mg_none_of X G z_range,
    z_repr := PySem.W.mg_none_of X G z_repr,
    z_sum := PySem.W.mg_none_of X G z_sum,
    z_ValueError := PySem.W.mg_none_of X G z_ValueError,
    z_IndexError := PySem.W.mg_none_of X G z_IndexError,
    z_KeyError := PySem.W.mg_none_of X G z_KeyError,
    g_PollError := PySem.W.mg_of X G g_PollError,
    g_InvalidRow := PySem.W.mg_of X G g_InvalidRow,
    g_InvalidBook := PySem.W.mg_of X G g_InvalidBook,
    g_InvalidText := PySem.W.mg_of X G g_InvalidText,
    g_InvalidEvent := PySem.W.mg_of X G g_InvalidEvent,
    g_Refused := PySem.W.mg_of X G g_Refused,
    g_NoRow := PySem.W.mg_of X G g_NoRow,
    g_NoMark := PySem.W.mg_of X G g_NoMark,
    g_InvalidFault := PySem.W.mg_of X G g_InvalidFault,
    g_InvalidCommand := PySem.W.mg_of X G g_InvalidCommand,
    m_InvalidRow_init := m_InvalidRow_init,
    i_f_InvalidRow_init := n_f_InvalidRow_init,
    d_InvalidRow_init := ⟨_, fun_mk (st := s_InvalidRow_init) l1 c1 k1⟩,
    m_InvalidBook_init := m_InvalidBook_init,
    i_f_InvalidBook_init := n_f_InvalidBook_init,
    d_InvalidBook_init := ⟨_, fun_mk (st := s_InvalidBook_init) l2 c2 k2⟩,
    m_InvalidText_init := m_InvalidText_init,
    i_f_InvalidText_init := n_f_InvalidText_init,
    d_InvalidText_init := ⟨_, fun_mk (st := s_InvalidText_init) l3 c3 k3⟩,
    m_InvalidEvent_init := m_InvalidEvent_init,
    i_f_InvalidEvent_init := n_f_InvalidEvent_init,
    d_InvalidEvent_init := ⟨_, fun_mk (st := s_InvalidEvent_init) l4 c4 k4⟩,
    m_Refused_init := m_Refused_init,
    i_f_Refused_init := n_f_Refused_init,
    d_Refused_init := ⟨_, fun_mk (st := s_Refused_init) l5 c5 k5⟩,
    m_NoRow_init := m_NoRow_init,
    i_f_NoRow_init := n_f_NoRow_init,
    d_NoRow_init := ⟨_, fun_mk (st := s_NoRow_init) l6 c6 k6⟩,
    m_NoMark_init := m_NoMark_init,
    i_f_NoMark_init := n_f_NoMark_init,
    d_NoMark_init := ⟨_, fun_mk (st := s_NoMark_init) l7 c7 k7⟩,
    ft_f_InvalidRow_init := ft_f_InvalidRow_init,
    ft_f_InvalidBook_init := ft_f_InvalidBook_init,
    ft_f_InvalidText_init := ft_f_InvalidText_init,
    ft_f_InvalidEvent_init := ft_f_InvalidEvent_init,
    ft_f_Refused_init := ft_f_Refused_init,
    ft_f_NoRow_init := ft_f_NoRow_init,
    ft_f_NoMark_init := ft_f_NoMark_init,
    ogt := h_ogt,
    otk := h_otk,
    x_InvalidRow := xcVE xl_InvalidRow xp_InvalidRow xb_InvalidRow xe_InvalidRow ⟨xg_InvalidRow, xk_InvalidRow, xs_InvalidRow, xd_InvalidRow, xa_InvalidRow, h_ogt, h_otk, xm_InvalidRow⟩,
    x_InvalidBook := xcVE xl_InvalidBook xp_InvalidBook xb_InvalidBook xe_InvalidBook ⟨xg_InvalidBook, xk_InvalidBook, xs_InvalidBook, xd_InvalidBook, xa_InvalidBook, h_ogt, h_otk, xm_InvalidBook⟩,
    x_InvalidText := xcVE xl_InvalidText xp_InvalidText xb_InvalidText xe_InvalidText ⟨xg_InvalidText, xk_InvalidText, xs_InvalidText, xd_InvalidText, xa_InvalidText, h_ogt, h_otk, xm_InvalidText⟩,
    x_InvalidEvent := xcVE xl_InvalidEvent xp_InvalidEvent xb_InvalidEvent xe_InvalidEvent ⟨xg_InvalidEvent, xk_InvalidEvent, xs_InvalidEvent, xd_InvalidEvent, xa_InvalidEvent, h_ogt, h_otk, xm_InvalidEvent⟩,
    x_Refused := xcVE xl_Refused xp_Refused xb_Refused xe_Refused ⟨xg_Refused, xk_Refused, xs_Refused, xd_Refused, xa_Refused, h_ogt, h_otk, xm_Refused⟩,
    x_NoRow := xcIE xl_NoRow xp_NoRow xb_NoRow xe_NoRow ⟨xg_NoRow, xk_NoRow, xs_NoRow, xd_NoRow, xa_NoRow, h_ogt, h_otk, xm_NoRow⟩,
    x_NoMark := xcKE xl_NoMark xp_NoMark xb_NoMark xe_NoMark ⟨xg_NoMark, xk_NoMark, xs_NoMark, xd_NoMark, xa_NoMark, h_ogt, h_otk, xm_NoMark⟩,
    y_InvalidFault := ⟨⟨xg_InvalidFault, xk_InvalidFault, xs_InvalidFault, xd_InvalidFault, xa_InvalidFault, h_ogt, h_otk, xm_InvalidFault⟩, xi_InvalidFault, xe_InvalidFault⟩,
    y_InvalidCommand := ⟨⟨xg_InvalidCommand, xk_InvalidCommand, xs_InvalidCommand, xd_InvalidCommand, xa_InvalidCommand, h_ogt, h_otk, xm_InvalidCommand⟩, xi_InvalidCommand, xe_InvalidCommand⟩,
    k_PollError := ⟨kc_PollError, kt_PollError, km_PollError⟩,
    k_InvalidRow := ⟨kc_InvalidRow, kt_InvalidRow, km_InvalidRow⟩,
    k_InvalidBook := ⟨kc_InvalidBook, kt_InvalidBook, km_InvalidBook⟩,
    k_InvalidText := ⟨kc_InvalidText, kt_InvalidText, km_InvalidText⟩,
    k_InvalidEvent := ⟨kc_InvalidEvent, kt_InvalidEvent, km_InvalidEvent⟩,
    k_Refused := ⟨kc_Refused, kt_Refused, km_Refused⟩,
    k_NoRow := ⟨kc_NoRow, kt_NoRow, km_NoRow⟩,
    k_NoMark := ⟨kc_NoMark, kt_NoMark, km_NoMark⟩,
    k_InvalidFault := ⟨kc_InvalidFault, kt_InvalidFault, km_InvalidFault⟩,
    k_InvalidCommand := ⟨kc_InvalidCommand, kt_InvalidCommand, km_InvalidCommand⟩,
    na_InvalidRow_word := na_InvalidRow_word,
    na_InvalidBook_word := na_InvalidBook_word,
    na_InvalidText_at := na_InvalidText_at,
    na_InvalidEvent_at := na_InvalidEvent_at,
    na_Refused_at := na_Refused_at,
    na_NoRow_at := na_NoRow_at,
    na_NoMark_name := na_NoMark_name,
    s00 := h_s00,
    s01 := h_s01,
    s02 := h_s02,
    s03 := h_s03,
    s04 := h_s04,
    s05 := h_s05,
    s06 := h_s06,
    s07 := h_s07,
    s08 := h_s08,
    sp0 := h_sp0,
    sv0 := h_sv0,
    si0 := h_si0,
    sk0 := h_sk0,
    s10 := h_s10,
    s11 := h_s11,
    s12 := h_s12,
    s13 := h_s13,
    s14 := h_s14,
    s15 := h_s15,
    s16 := h_s16,
    s17 := h_s17,
    s18 := h_s18,
    sp1 := h_sp1,
    sv1 := h_sv1,
    si1 := h_si1,
    sk1 := h_sk1,
    s20 := h_s20,
    s21 := h_s21,
    s22 := h_s22,
    s23 := h_s23,
    s24 := h_s24,
    s25 := h_s25,
    s26 := h_s26,
    s27 := h_s27,
    s28 := h_s28,
    sp2 := h_sp2,
    sv2 := h_sv2,
    si2 := h_si2,
    sk2 := h_sk2,
    s30 := h_s30,
    s31 := h_s31,
    s32 := h_s32,
    s33 := h_s33,
    s34 := h_s34,
    s35 := h_s35,
    s36 := h_s36,
    s37 := h_s37,
    s38 := h_s38,
    sp3 := h_sp3,
    sv3 := h_sv3,
    si3 := h_si3,
    sk3 := h_sk3,
    s40 := h_s40,
    s41 := h_s41,
    s42 := h_s42,
    s43 := h_s43,
    s44 := h_s44,
    s45 := h_s45,
    s46 := h_s46,
    s47 := h_s47,
    s48 := h_s48,
    sp4 := h_sp4,
    sv4 := h_sv4,
    si4 := h_si4,
    sk4 := h_sk4,
    s50 := h_s50,
    s51 := h_s51,
    s52 := h_s52,
    s53 := h_s53,
    s54 := h_s54,
    s55 := h_s55,
    s56 := h_s56,
    s57 := h_s57,
    s58 := h_s58,
    sp5 := h_sp5,
    sv5 := h_sv5,
    si5 := h_si5,
    sk5 := h_sk5,
    s60 := h_s60,
    s61 := h_s61,
    s62 := h_s62,
    s63 := h_s63,
    s64 := h_s64,
    s65 := h_s65,
    s66 := h_s66,
    s67 := h_s67,
    s68 := h_s68,
    sp6 := h_sp6,
    sv6 := h_sv6,
    si6 := h_si6,
    sk6 := h_sk6,
    s70 := h_s70,
    s71 := h_s71,
    s72 := h_s72,
    s73 := h_s73,
    s74 := h_s74,
    s75 := h_s75,
    s76 := h_s76,
    s77 := h_s77,
    s78 := h_s78,
    sp7 := h_sp7,
    sv7 := h_sv7,
    si7 := h_si7,
    sk7 := h_sk7,
    s80 := h_s80,
    s81 := h_s81,
    s82 := h_s82,
    s83 := h_s83,
    s84 := h_s84,
    s85 := h_s85,
    s86 := h_s86,
    s87 := h_s87,
    s88 := h_s88,
    sp8 := h_sp8,
    sv8 := h_sv8,
    si8 := h_si8,
    sk8 := h_sk8,
    d_law_things := ⟨PySem.W.mg_of X G g_law_things, _, fun_mk (st := s_law_things) l8 c8 k8⟩,
    d_law_placed := ⟨PySem.W.mg_of X G g_law_placed, _, fun_mk (st := s_law_placed) l9 c9 k9⟩,
    d_law_named := ⟨PySem.W.mg_of X G g_law_named, _, fun_mk (st := s_law_named) l10 c10 k10⟩,
    d_law_kept := ⟨PySem.W.mg_of X G g_law_kept, _, fun_mk (st := s_law_kept) l11 c11 k11⟩,
    d_law_sorts := ⟨PySem.W.mg_of X G g_law_sorts, _, fun_mk (st := s_law_sorts) l12 c12 k12⟩,
    d_law_is_right := ⟨PySem.W.mg_of X G g_law_is_right, _, fun_mk (st := s_law_is_right) l13 c13 k13⟩,
    d_law := ⟨PySem.W.mg_of X G g_law, _, fun_mk (st := s_law) l14 c14 k14⟩ }⟩

end Fk


open PySem PySem.W PyProof.Rows
theorem PySem.Challenge.cw_forkpolls_k01_errors_and_what_they_keep_holds : PySem.Challenge.rw_forkpolls_k01_errors_and_what_they_keep.Holds := by
  w_on; o_law; k_head; (case hw => w_witness2)
  k_fill
  refine Fk.walk_ofG (l := PySem.Challenge.rw_forkpolls_k01_errors_and_what_they_keep) (n := 63) (k := 6) (x := "_law_script") (CX := fun _ => L2.CX0) (sp := fun w => Fk.spLaw _) rfl (by decide) rfl ⟨rfl, by decide, by decide⟩ (fun w h Y => PySem.W.kIn_of Y) ?F (fun _ _ a ns _ _ hS => ⟨a, ns, rfl, hS, fun _ => rfl⟩) (fun _ _ _ _ _ h => h)
  case F =>
    intro w mg fa h KX G hmg
    refine' Exists.elim (Fk.gather KX G ?z_isinstance ?z_int ?z_abs ?z_list ?z_range ?z_repr ?z_sum ?z_ValueError ?z_IndexError ?z_KeyError ?g_PollError ?g_InvalidRow ?g_InvalidBook ?g_InvalidText ?g_InvalidEvent ?g_Refused ?g_NoRow ?g_NoMark ?g_InvalidFault ?g_InvalidCommand ?m_InvalidRow_init ?n_f_InvalidRow_init ?l1 ?c1 ?k1 ?m_InvalidBook_init ?n_f_InvalidBook_init ?l2 ?c2 ?k2 ?m_InvalidText_init ?n_f_InvalidText_init ?l3 ?c3 ?k3 ?m_InvalidEvent_init ?n_f_InvalidEvent_init ?l4 ?c4 ?k4 ?m_Refused_init ?n_f_Refused_init ?l5 ?c5 ?k5 ?m_NoRow_init ?n_f_NoRow_init ?l6 ?c6 ?k6 ?m_NoMark_init ?n_f_NoMark_init ?l7 ?c7 ?k7 ?ft_f_InvalidRow_init ?ft_f_InvalidBook_init ?ft_f_InvalidText_init ?ft_f_InvalidEvent_init ?ft_f_Refused_init ?ft_f_NoRow_init ?ft_f_NoMark_init ?h_ogt ?h_otk ?xg_InvalidRow ?xk_InvalidRow ?xs_InvalidRow ?xd_InvalidRow ?xa_InvalidRow ?xm_InvalidRow ?xe_InvalidRow ?xl_InvalidRow ?xp_InvalidRow ?xb_InvalidRow ?xg_InvalidBook ?xk_InvalidBook ?xs_InvalidBook ?xd_InvalidBook ?xa_InvalidBook ?xm_InvalidBook ?xe_InvalidBook ?xl_InvalidBook ?xp_InvalidBook ?xb_InvalidBook ?xg_InvalidText ?xk_InvalidText ?xs_InvalidText ?xd_InvalidText ?xa_InvalidText ?xm_InvalidText ?xe_InvalidText ?xl_InvalidText ?xp_InvalidText ?xb_InvalidText ?xg_InvalidEvent ?xk_InvalidEvent ?xs_InvalidEvent ?xd_InvalidEvent ?xa_InvalidEvent ?xm_InvalidEvent ?xe_InvalidEvent ?xl_InvalidEvent ?xp_InvalidEvent ?xb_InvalidEvent ?xg_Refused ?xk_Refused ?xs_Refused ?xd_Refused ?xa_Refused ?xm_Refused ?xe_Refused ?xl_Refused ?xp_Refused ?xb_Refused ?xg_NoRow ?xk_NoRow ?xs_NoRow ?xd_NoRow ?xa_NoRow ?xm_NoRow ?xe_NoRow ?xl_NoRow ?xp_NoRow ?xb_NoRow ?xg_NoMark ?xk_NoMark ?xs_NoMark ?xd_NoMark ?xa_NoMark ?xm_NoMark ?xe_NoMark ?xl_NoMark ?xp_NoMark ?xb_NoMark ?xg_InvalidFault ?xk_InvalidFault ?xs_InvalidFault ?xd_InvalidFault ?xa_InvalidFault ?xm_InvalidFault ?xe_InvalidFault ?xi_InvalidFault ?xg_InvalidCommand ?xk_InvalidCommand ?xs_InvalidCommand ?xd_InvalidCommand ?xa_InvalidCommand ?xm_InvalidCommand ?xe_InvalidCommand ?xi_InvalidCommand ?kc_PollError ?kt_PollError ?km_PollError ?kc_InvalidRow ?kt_InvalidRow ?km_InvalidRow ?kc_InvalidBook ?kt_InvalidBook ?km_InvalidBook ?kc_InvalidText ?kt_InvalidText ?km_InvalidText ?kc_InvalidEvent ?kt_InvalidEvent ?km_InvalidEvent ?kc_Refused ?kt_Refused ?km_Refused ?kc_NoRow ?kt_NoRow ?km_NoRow ?kc_NoMark ?kt_NoMark ?km_NoMark ?kc_InvalidFault ?kt_InvalidFault ?km_InvalidFault ?kc_InvalidCommand ?kt_InvalidCommand ?km_InvalidCommand ?na_InvalidRow_word ?na_InvalidBook_word ?na_InvalidText_at ?na_InvalidEvent_at ?na_Refused_at ?na_NoRow_at ?na_NoMark_name ?h_s00 ?h_s01 ?h_s02 ?h_s03 ?h_s04 ?h_s05 ?h_s06 ?h_s07 ?h_s08 ?h_sp0 ?h_sv0 ?h_si0 ?h_sk0 ?h_s10 ?h_s11 ?h_s12 ?h_s13 ?h_s14 ?h_s15 ?h_s16 ?h_s17 ?h_s18 ?h_sp1 ?h_sv1 ?h_si1 ?h_sk1 ?h_s20 ?h_s21 ?h_s22 ?h_s23 ?h_s24 ?h_s25 ?h_s26 ?h_s27 ?h_s28 ?h_sp2 ?h_sv2 ?h_si2 ?h_sk2 ?h_s30 ?h_s31 ?h_s32 ?h_s33 ?h_s34 ?h_s35 ?h_s36 ?h_s37 ?h_s38 ?h_sp3 ?h_sv3 ?h_si3 ?h_sk3 ?h_s40 ?h_s41 ?h_s42 ?h_s43 ?h_s44 ?h_s45 ?h_s46 ?h_s47 ?h_s48 ?h_sp4 ?h_sv4 ?h_si4 ?h_sk4 ?h_s50 ?h_s51 ?h_s52 ?h_s53 ?h_s54 ?h_s55 ?h_s56 ?h_s57 ?h_s58 ?h_sp5 ?h_sv5 ?h_si5 ?h_sk5 ?h_s60 ?h_s61 ?h_s62 ?h_s63 ?h_s64 ?h_s65 ?h_s66 ?h_s67 ?h_s68 ?h_sp6 ?h_sv6 ?h_si6 ?h_sk6 ?h_s70 ?h_s71 ?h_s72 ?h_s73 ?h_s74 ?h_s75 ?h_s76 ?h_s77 ?h_s78 ?h_sp7 ?h_sv7 ?h_si7 ?h_sk7 ?h_s80 ?h_s81 ?h_s82 ?h_s83 ?h_s84 ?h_s85 ?h_s86 ?h_s87 ?h_s88 ?h_sp8 ?h_sv8 ?h_si8 ?h_sk8 ?g_law_things ?l8 ?c8 ?k8 ?g_law_placed ?l9 ?c9 ?k9 ?g_law_named ?l10 ?c10 ?k10 ?g_law_kept ?l11 ?c11 ?k11 ?g_law_sorts ?l12 ?c12 ?k12 ?g_law_is_right ?l13 ?c13 ?k13 ?g_law ?l14 ?c14 ?k14) ?use
    (case z_isinstance => k_is)
    (case z_int => k_is)
    (case z_abs => k_is)
    (case z_list => k_is)
    (case z_range => k_is)
    (case z_repr => k_is)
    (case z_sum => k_is)
    (case z_ValueError => k_is)
    (case z_IndexError => k_is)
    (case z_KeyError => k_is)
    (case g_PollError => k_is)
    (case g_InvalidRow => k_is)
    (case g_InvalidBook => k_is)
    (case g_InvalidText => k_is)
    (case g_InvalidEvent => k_is)
    (case g_Refused => k_is)
    (case g_NoRow => k_is)
    (case g_NoMark => k_is)
    (case g_InvalidFault => k_is)
    (case g_InvalidCommand => k_is)
    (case m_InvalidRow_init => k_is)
    (case n_f_InvalidRow_init => k_is)
    (case l1 => k_is)
    (case c1 => k_is)
    (case k1 => k_is)
    (case m_InvalidBook_init => k_is)
    (case n_f_InvalidBook_init => k_is)
    (case l2 => k_is)
    (case c2 => k_is)
    (case k2 => k_is)
    (case m_InvalidText_init => k_is)
    (case n_f_InvalidText_init => k_is)
    (case l3 => k_is)
    (case c3 => k_is)
    (case k3 => k_is)
    (case m_InvalidEvent_init => k_is)
    (case n_f_InvalidEvent_init => k_is)
    (case l4 => k_is)
    (case c4 => k_is)
    (case k4 => k_is)
    (case m_Refused_init => k_is)
    (case n_f_Refused_init => k_is)
    (case l5 => k_is)
    (case c5 => k_is)
    (case k5 => k_is)
    (case m_NoRow_init => k_is)
    (case n_f_NoRow_init => k_is)
    (case l6 => k_is)
    (case c6 => k_is)
    (case k6 => k_is)
    (case m_NoMark_init => k_is)
    (case n_f_NoMark_init => k_is)
    (case l7 => k_is)
    (case c7 => k_is)
    (case k7 => k_is)
    (case ft_f_InvalidRow_init => k_is)
    (case ft_f_InvalidBook_init => k_is)
    (case ft_f_InvalidText_init => k_is)
    (case ft_f_InvalidEvent_init => k_is)
    (case ft_f_Refused_init => k_is)
    (case ft_f_NoRow_init => k_is)
    (case ft_f_NoMark_init => k_is)
    (case h_ogt => k_is)
    (case h_otk => k_is)
    (case xg_InvalidRow => k_is)
    (case xk_InvalidRow => k_is)
    (case xs_InvalidRow => k_is)
    (case xd_InvalidRow => k_is)
    (case xa_InvalidRow => k_is)
    (case xm_InvalidRow => k_is)
    (case xe_InvalidRow => k_is)
    (case xl_InvalidRow => k_is)
    (case xp_InvalidRow => rfl)
    (case xb_InvalidRow => k_is)
    (case xg_InvalidBook => k_is)
    (case xk_InvalidBook => k_is)
    (case xs_InvalidBook => k_is)
    (case xd_InvalidBook => k_is)
    (case xa_InvalidBook => k_is)
    (case xm_InvalidBook => k_is)
    (case xe_InvalidBook => k_is)
    (case xl_InvalidBook => k_is)
    (case xp_InvalidBook => rfl)
    (case xb_InvalidBook => k_is)
    (case xg_InvalidText => k_is)
    (case xk_InvalidText => k_is)
    (case xs_InvalidText => k_is)
    (case xd_InvalidText => k_is)
    (case xa_InvalidText => k_is)
    (case xm_InvalidText => k_is)
    (case xe_InvalidText => k_is)
    (case xl_InvalidText => k_is)
    (case xp_InvalidText => rfl)
    (case xb_InvalidText => k_is)
    (case xg_InvalidEvent => k_is)
    (case xk_InvalidEvent => k_is)
    (case xs_InvalidEvent => k_is)
    (case xd_InvalidEvent => k_is)
    (case xa_InvalidEvent => k_is)
    (case xm_InvalidEvent => k_is)
    (case xe_InvalidEvent => k_is)
    (case xl_InvalidEvent => k_is)
    (case xp_InvalidEvent => rfl)
    (case xb_InvalidEvent => k_is)
    (case xg_Refused => k_is)
    (case xk_Refused => k_is)
    (case xs_Refused => k_is)
    (case xd_Refused => k_is)
    (case xa_Refused => k_is)
    (case xm_Refused => k_is)
    (case xe_Refused => k_is)
    (case xl_Refused => k_is)
    (case xp_Refused => rfl)
    (case xb_Refused => k_is)
    (case xg_NoRow => k_is)
    (case xk_NoRow => k_is)
    (case xs_NoRow => k_is)
    (case xd_NoRow => k_is)
    (case xa_NoRow => k_is)
    (case xm_NoRow => k_is)
    (case xe_NoRow => k_is)
    (case xl_NoRow => k_is)
    (case xp_NoRow => rfl)
    (case xb_NoRow => k_is)
    (case xg_NoMark => k_is)
    (case xk_NoMark => k_is)
    (case xs_NoMark => k_is)
    (case xd_NoMark => k_is)
    (case xa_NoMark => k_is)
    (case xm_NoMark => k_is)
    (case xe_NoMark => k_is)
    (case xl_NoMark => k_is)
    (case xp_NoMark => rfl)
    (case xb_NoMark => k_is)
    (case xg_InvalidFault => k_is)
    (case xk_InvalidFault => k_is)
    (case xs_InvalidFault => k_is)
    (case xd_InvalidFault => k_is)
    (case xa_InvalidFault => k_is)
    (case xm_InvalidFault => k_is)
    (case xe_InvalidFault => k_is)
    (case xi_InvalidFault => k_exc)
    (case xg_InvalidCommand => k_is)
    (case xk_InvalidCommand => k_is)
    (case xs_InvalidCommand => k_is)
    (case xd_InvalidCommand => k_is)
    (case xa_InvalidCommand => k_is)
    (case xm_InvalidCommand => k_is)
    (case xe_InvalidCommand => k_is)
    (case xi_InvalidCommand => k_exc)
    (case kc_PollError => k_is)
    (case kt_PollError => k_is)
    (case km_PollError => k_is)
    (case kc_InvalidRow => k_is)
    (case kt_InvalidRow => k_is)
    (case km_InvalidRow => k_is)
    (case kc_InvalidBook => k_is)
    (case kt_InvalidBook => k_is)
    (case km_InvalidBook => k_is)
    (case kc_InvalidText => k_is)
    (case kt_InvalidText => k_is)
    (case km_InvalidText => k_is)
    (case kc_InvalidEvent => k_is)
    (case kt_InvalidEvent => k_is)
    (case km_InvalidEvent => k_is)
    (case kc_Refused => k_is)
    (case kt_Refused => k_is)
    (case km_Refused => k_is)
    (case kc_NoRow => k_is)
    (case kt_NoRow => k_is)
    (case km_NoRow => k_is)
    (case kc_NoMark => k_is)
    (case kt_NoMark => k_is)
    (case km_NoMark => k_is)
    (case kc_InvalidFault => k_is)
    (case kt_InvalidFault => k_is)
    (case km_InvalidFault => k_is)
    (case kc_InvalidCommand => k_is)
    (case kt_InvalidCommand => k_is)
    (case km_InvalidCommand => k_is)
    (case na_InvalidRow_word => k_is)
    (case na_InvalidBook_word => k_is)
    (case na_InvalidText_at => k_is)
    (case na_InvalidEvent_at => k_is)
    (case na_Refused_at => k_is)
    (case na_NoRow_at => k_is)
    (case na_NoMark_name => k_is)
    (case h_s00 => k_is)
    (case h_s01 => k_is)
    (case h_s02 => k_is)
    (case h_s03 => k_is)
    (case h_s04 => k_is)
    (case h_s05 => k_is)
    (case h_s06 => k_is)
    (case h_s07 => k_is)
    (case h_s08 => k_is)
    (case h_sp0 => k_is)
    (case h_sv0 => k_is)
    (case h_si0 => k_is)
    (case h_sk0 => k_is)
    (case h_s10 => k_is)
    (case h_s11 => k_is)
    (case h_s12 => k_is)
    (case h_s13 => k_is)
    (case h_s14 => k_is)
    (case h_s15 => k_is)
    (case h_s16 => k_is)
    (case h_s17 => k_is)
    (case h_s18 => k_is)
    (case h_sp1 => k_is)
    (case h_sv1 => k_is)
    (case h_si1 => k_is)
    (case h_sk1 => k_is)
    (case h_s20 => k_is)
    (case h_s21 => k_is)
    (case h_s22 => k_is)
    (case h_s23 => k_is)
    (case h_s24 => k_is)
    (case h_s25 => k_is)
    (case h_s26 => k_is)
    (case h_s27 => k_is)
    (case h_s28 => k_is)
    (case h_sp2 => k_is)
    (case h_sv2 => k_is)
    (case h_si2 => k_is)
    (case h_sk2 => k_is)
    (case h_s30 => k_is)
    (case h_s31 => k_is)
    (case h_s32 => k_is)
    (case h_s33 => k_is)
    (case h_s34 => k_is)
    (case h_s35 => k_is)
    (case h_s36 => k_is)
    (case h_s37 => k_is)
    (case h_s38 => k_is)
    (case h_sp3 => k_is)
    (case h_sv3 => k_is)
    (case h_si3 => k_is)
    (case h_sk3 => k_is)
    (case h_s40 => k_is)
    (case h_s41 => k_is)
    (case h_s42 => k_is)
    (case h_s43 => k_is)
    (case h_s44 => k_is)
    (case h_s45 => k_is)
    (case h_s46 => k_is)
    (case h_s47 => k_is)
    (case h_s48 => k_is)
    (case h_sp4 => k_is)
    (case h_sv4 => k_is)
    (case h_si4 => k_is)
    (case h_sk4 => k_is)
    (case h_s50 => k_is)
    (case h_s51 => k_is)
    (case h_s52 => k_is)
    (case h_s53 => k_is)
    (case h_s54 => k_is)
    (case h_s55 => k_is)
    (case h_s56 => k_is)
    (case h_s57 => k_is)
    (case h_s58 => k_is)
    (case h_sp5 => k_is)
    (case h_sv5 => k_is)
    (case h_si5 => k_is)
    (case h_sk5 => k_is)
    (case h_s60 => k_is)
    (case h_s61 => k_is)
    (case h_s62 => k_is)
    (case h_s63 => k_is)
    (case h_s64 => k_is)
    (case h_s65 => k_is)
    (case h_s66 => k_is)
    (case h_s67 => k_is)
    (case h_s68 => k_is)
    (case h_sp6 => k_is)
    (case h_sv6 => k_is)
    (case h_si6 => k_is)
    (case h_sk6 => k_is)
    (case h_s70 => k_is)
    (case h_s71 => k_is)
    (case h_s72 => k_is)
    (case h_s73 => k_is)
    (case h_s74 => k_is)
    (case h_s75 => k_is)
    (case h_s76 => k_is)
    (case h_s77 => k_is)
    (case h_s78 => k_is)
    (case h_sp7 => k_is)
    (case h_sv7 => k_is)
    (case h_si7 => k_is)
    (case h_sk7 => k_is)
    (case h_s80 => k_is)
    (case h_s81 => k_is)
    (case h_s82 => k_is)
    (case h_s83 => k_is)
    (case h_s84 => k_is)
    (case h_s85 => k_is)
    (case h_s86 => k_is)
    (case h_s87 => k_is)
    (case h_s88 => k_is)
    (case h_sp8 => k_is)
    (case h_sv8 => k_is)
    (case h_si8 => k_is)
    (case h_sk8 => k_is)
    (case g_law_things => k_is)
    (case l8 => k_is)
    (case c8 => k_is)
    (case k8 => k_is)
    (case g_law_placed => k_is)
    (case l9 => k_is)
    (case c9 => k_is)
    (case k9 => k_is)
    (case g_law_named => k_is)
    (case l10 => k_is)
    (case c10 => k_is)
    (case k10 => k_is)
    (case g_law_kept => k_is)
    (case l11 => k_is)
    (case c11 => k_is)
    (case k11 => k_is)
    (case g_law_sorts => k_is)
    (case l12 => k_is)
    (case c12 => k_is)
    (case k12 => k_is)
    (case g_law_is_right => k_is)
    (case l13 => k_is)
    (case c13 => k_is)
    (case k13 => k_is)
    (case g_law => k_is)
    (case l14 => k_is)
    (case c14 => k_is)
    (case k14 => k_is)
    intro A T
    obtain ⟨fd, hb, hF⟩ := Fk.whole (P := PySem.Challenge.rw_forkpolls_k01_errors_and_what_they_keep.prog) (w := w) T
    have e : fa = A.f_law := by
      have e1 := hmg.symm.trans T.d_law.1
      exact Value.ref.inj (Option.some.inj e1)
    subst e
    exact ⟨fd, hb, fun base _ _ => hF base⟩


