import PyProof.Rows.All
import Wide.All
import OpenK.AllK
import Wide.FinOn
import KE.KCallOwn
import KE.DatumIndex
import HandS.ForMost
import HandS.Exc
import HandS.TryOnly
import HandS.ExcOwn
import HandS.WordsExc
import HandS.More
import HandS.ClsMeth
import HandS.OwnEq
import HandS.IsInst
import HandS.RaiseMore
import HandS.Style
import HandS.Small
import HandS.Deep
import HandS.Defaults
import HandS.MakeKwOnly
import HandS.Walk
import HandS.TupAny
import HandS.SetFor
import HandS.Zip
import HandS.ExcInit
import HandS.ExcIs
import HandS.ExcField
import HandS.ExcValue
import KE.KExcIs
import PyProof.ListRange
import PySem.Challenge.RW_forkpolls_k03_rows_refused
set_option Elab.async false
set_option linter.all false
set_option maxRecDepth 100000
set_option maxHeartbeats 4000000
/-! Forkpolls: rules that the hand layer has not: a def read off its class, own == and != with any answer, str of an instance, repr of data. -/
namespace Fk
open PySem PySem.Spec PyProof.Rows L2

/-! ### C.m(..), m a def of the class (or of a base) -/
def tOff (C : Addr) (sp : Sp) (E : XK) (ta : TE) (t : TA) : TE := fun σ H Q => ta σ H fun x H1 => x = .ref C ∧ t σ H1 fun vs H2 => sp vs H2 Q E
section
variable {X : Cx} {CX : CXT} {k : Nat} {C f : Addr} {mc : Value} {fd : FuncData} {ps : List Str} {sp : Sp} {E : XK} {o e : Expr} {es : List Expr} {m : Str} {pos apos : Pos} {ta : TE} {t : TA} {pl : Sem Bool}
theorem pe_off (he : PE X o ta) (r : ClX.CRead X.K C mc) (c : ClX.CVal X.K C mc m (.ref f) (.ref f)) (F : FnOk X.prog X.w X.K X.mg X.base CX k f fd ps sp) (hr : Room k X.A) (hk : PySem.W.keepIn X.K (.ref f) = true) (hb : Binds X.K fd ps []) (hx : Passes CX X E) (ha : PA X (e :: es) t)
    (hst : starEach (e :: es) X.env = (false, eval e X.env) :: starEach es X.env := by rfl) (hpl : (backTo pos (starEach es X.env)).any (·.1) = false := by rfl)
    (ht : eval (.Call (.Attribute o m apos) (e :: es) [] pos) X.env = (do
      let u ← eval o X.env
      standAt apos.atName
      let (g, front) ← holding [u] (getMethod u m pl)
      callWith pos g front (backTo pos (starEach (e :: es) X.env)) (backToKw pos (keywordEach [] X.env))) := by rfl) :
    PE X (.Call (.Attribute o m apos) (e :: es) [] pos) (tOff C sp E ta t) := by
  refine ⟨fun pins s σ H Q I q0 => ?_⟩
  refine PySem.W.methodCall_KW (pl := pl) (thn (he.run pins s σ H _ I q0) fun u s1 ⟨x, H1, I1, rx, ex, q⟩ => ?_) ht
  subst ex; cases rx
  refine PySem.W.method_cls I1.kIn r.ga (ClX.getcval_ok I1 r c fun s2 I2 => ?_)
  refine PySem.W.callWith_K (h₀ := X.base) I2.ok.mod.kin hk (thn (ha.run pos pins s2 σ H1 _ I2 q) fun us s3 ⟨vs, H2, I3, rv, q2⟩ => ⟨I3.kIn, ?_⟩) hst hpl
  exact run_fn F hr hb .nil hx I3 rv (by rw [List.append_nil]; exact q2)
end

/-! ### == and != by the text's own __eq__, any answer -/
/-- what the class at C says of comparing and showing its instances: f the own __eq__, g the own __str__ -/
structure EqC (K : PySem.W.Frag) (C f : Addr) : Prop where
  eq : PySem.W.findIn K (.ref C) "__eq__" = some (some (.ref f))
  ne : PySem.W.findIn K (.ref C) "__ne__" = some (some (.builtin "object.__ne__"))
  fn : PySem.W.isFn K (.ref f) = true
  ob : PySem.W.mroIn K C (.type "object") = some true
def rOwn (K : PySem.W.Frag) (C : Addr) (sp : Sp) (E : XK) (g : Bool → Bool) : R2 := fun x y H Q => ∃ (a dx : Addr) (fs : List (Str × V)) (t : Value), x = .ref a ∧ H a = some (.ins C dx fs) ∧ TyX K H y t ∧ PySem.W.notFirst K C t = true ∧
  sp [x, y] H (fun v H' => ∃ b : Bool, v = .bl b ∧ Q (.bl (g b)) H') E
section
variable {X : Cx} {CX : CXT} {k : Nat} {C f : Addr} {fd : FuncData} {ps : List Str} {sp : Sp} {E : XK}
theorem op_own_eq (T : EqC X.K C f) (F : FnOk X.prog X.w X.K X.mg X.base CX k f fd ps sp) (hr : Room k X.A) (hb : Binds X.K fd ps []) (hx : Passes CX X E) : OpR X (compareOp .Eq) (rOwn X.K C sp E fun b => b) := by
  intro pins s σ H x y v u Q I rx ry hq
  obtain ⟨a, dx, fs, t, rfl, ha, ty, hn, q⟩ := hq
  cases rx
  obtain ⟨mA, J, _⟩ := ins_get I.hok ha
  obtain ⟨od, J1, _⟩ := J.look
  obtain ⟨m, fr⟩ := I.fr
  obtain ⟨P, Z, p, _⟩ := kit_of I ry ty
  show wpAny (model X.prog X.w) X.A (richCompare .Eq (.ref a) u) (EP X pins σ Q) X.xe s
  refine PySem.W.cmp_K hr.units0 fr I.ok.mod.kin J1 (Z.ty _ _ I.kIn p) hn T.eq T.fn ?_
  refine thn (run_fn (vs := [.ref a, y]) F hr hb .nil hx I (.cons rfl (.cons ry .nil)) (by rw [List.append_nil]; exact q)) fun w' s' z => ?_
  obtain ⟨v', H', I', rv, b, rfl, q'⟩ := z
  cases rv
  exact ⟨.bl b, H', I', rfl, q'⟩
end
end Fk

namespace PySem.W
open PySem PySem.Spec PyProof.Rows
section
variable {prog : Program} {w : World} {A : Around} {E : Value → Shared → Prop} {s : Shared} {K : Frag} {x C f : Addr} {ox : Obj} {od : Option Obj} {b tb : Value}
theorem fk_slotNe : Slot "object" "__ne__" "object.__ne__" := F.cmp_object.ne
/-- object.__ne__ asks the own __eq__ -/
theorem fk_objNe (hu : A.units < cLine) (X : K.In s.heap) (I : InstAt s.heap x ox C od) (he : findIn K (.ref C) "__eq__" = some (some (.ref f))) (hf : isFn K (.ref f) = true) {Q : Fin → Shared → Prop}
    (h : wpAny (model prog w) A (call (.ref f) [.ref x, b]) (fun v s' => ∃ r, v = .bool r ∧ Q (.done (.ret (.bool (!r)))) s') E s) :
    wpAny (model prog w) A (Builtin.«object.__ne__» ⟨[.ref x, b], []⟩) Q E s := by
  unfold Builtin.«object.__ne__»
  repeat (first
    | with_reducible refine wpAny_cRoomFor hu ?_
    | (refine wpAny_bind (m := callSpecialIfBound? (.ref x) (Str.ofString "__eq__") [b]) (ifBound_K X I he hf (wpAny_mono h (fun v s' z => by
          obtain ⟨r, rfl, q⟩ := z
          repeat (first | exact q | exact wpAny_pure q | exact wpAny_truthy_bool q | (refine wpAny_bind (m := truthy (.bool _)) (wpAny_truthy_bool ?_)) | wp_step)) fun _ _ e => e)))
    | wp_step)
theorem fk_ne (hu : A.units + 1 < cLine) (X : K.In s.heap) (I : InstAt s.heap x ox C od) (hb : Looks (model prog w) s.heap (typeOf b) tb) (hn : notFirst K C tb = true)
    (hs : findIn K (.ref C) "__ne__" = some (some (.builtin "object.__ne__"))) (he : findIn K (.ref C) "__eq__" = some (some (.ref f))) (hf : isFn K (.ref f) = true) (ho : mroIn K C (.type "object") = some true) {Q : Value → Shared → Prop}
    (h : wpAny (model prog w) A.in1 (call (.ref f) [.ref x, b]) (fun v s' => ∃ r, v = .bool r ∧ Q (.bool (!r)) s') E s) :
    wpAny (model prog w) A (richCompare .NotEq (.ref x) b) Q E s := by
  have sub : Looks (model prog w) s.heap (isInstance (.ref x) (.type "object")) true := I.type.andThen (looks_mroIn X ho)
  have hc : wpAny (model prog w) A (call (.builtin "object.__ne__") [.ref x, b]) (fun v s' => ∃ r, v = .bool r ∧ Q v s') E s := by
    refine wpAny_call (codeAny_call_builtin fk_slotNe.plain F.cmpEntry_ne (check_slot F.cmpKind_ne F.cmpSplit_ne sub (F.cmpArgs_ne _ _) ?_))
    refine fk_objNe hu X I he hf (wpAny_mono h (fun v s' z => ?_) fun _ _ e => e)
    obtain ⟨r, rfl, q⟩ := z
    exact ⟨r, rfl, ⟨_, rfl, q⟩⟩
  have one : wpAny (model prog w) A (tryCompare (.ref x) "__ne__" b) (fun r s' => ∃ v, r = some v ∧ Q v s') E s := by
    unfold tryCompare
    refine wpAny_bind ?_
    simp only [callSpecialIfBound?, bindSpecialIfBound?]
    refine wpAny_holding (wpAny_bind (wpAny_bind (wpAny_bind (I.type.here ((looks_findIn X hs).here ?_)))))
    simp only [fk_slotNe.bind]
    refine wpAny_bind (wpAny_askSetting (wpAny_ite ?_))
    split
    · refine wpAny_bind (wpAny_pure (wpAny_pure (wpAny_bind (wpAny_mono hc (fun v s' z => ?_) fun _ _ e => e))))
      obtain ⟨r, rfl, q⟩ := z
      exact wpAny_pure (wpAny_pure ⟨_, rfl, q⟩)
    · refine wpAny_tryCatch (wpAny_bind (wpAny_pure (wpAny_pure (wpAny_bind (wpAny_mono hc (fun v s' z => ?_) fun _ _ e => e)))))
      obtain ⟨r, rfl, q⟩ := z
      exact wpAny_pure (wpAny_pure ⟨_, rfl, q⟩)
  unfold richCompare; simp only [oneThing_ref]; rw [cmpInfo_NotEq]
  refine wpAny_holding (wpAny_bind (wpAny_cRoomFor (Nat.lt_of_succ_lt hu) (wpAny_bind (I.type.here (wpAny_bind (hb.here ?_))))))
  have last : wpAny (model prog w) A (tryCompare (.ref x) "__ne__" b) (fun r s' => ∃ v, r = some v ∧ Q v s') E s := one
  split
  · rename_i q
    have e : subIn K tb (.ref C) = some false := (Bool.or_eq_true_iff.mp hn).elim (fun e => by rw [beq_iff_eq.mp e] at q; simp at q) fun e => beq_iff_eq.mp e
    refine wpAny_bind ((looks_subIn X e).here ?_); simp only [Bool.false_eq_true, if_false]
    refine wpAny_bind (wpAny_mono last (fun r s' z => ?_) fun _ _ e => e); obtain ⟨v, rfl, q'⟩ := z; exact wpAny_pure q'
  · refine wpAny_bind (wpAny_pure ?_); simp only [Bool.false_eq_true, if_false]
    refine wpAny_bind (wpAny_mono last (fun r s' z => ?_) fun _ _ e => e); obtain ⟨v, rfl, q'⟩ := z; exact wpAny_pure q'
end
end PySem.W

namespace Fk
open PySem PySem.Spec PyProof.Rows L2
section
variable {X : Cx} {CX : CXT} {k : Nat} {C f : Addr} {fd : FuncData} {ps : List Str} {sp : Sp} {E : XK}
theorem env0_at {P : Program} {w : World} {K : PySem.W.Frag} {mg : Str → Option Value} {base : Heap} {A B : Around} {outer : List Env} {s : Shared} {H : Hp} (e : Env0 P w K mg base A outer s H) (h : B.frames = A.frames) : Env0 P w K mg base B outer s H :=
  ⟨by rw [h]; exact e.frames, e.mod, e.bs, e.bsz, e.funs, e.frf, e.hok, e.bare⟩
/-- a def's call at an Around below the running one -/
theorem run_at {pins : List (Addr × Obj)} {σ : L2.St} {H : Hp} {s : Shared} {Q : VK} {us : List Value} {vs : List V} {A : Around} (F : FnOk X.prog X.w X.K X.mg X.base CX k f fd ps sp) (hr : Room k A) (hA : A.frames = X.A.frames) (hb : Binds X.K fd ps []) (hx : Passes CX X E)
    (I : Inv X pins σ H s) (r : Vals vs us) (h : sp vs H Q E) : wpAny (model X.prog X.w) A (call (.ref f) us) (EP X pins σ Q) X.xe s := by
  have hl : us.length = ps.length := by rw [← r.length]; exact F.len _ _ _ _ h
  have bb := hb s us I.kIn (by rw [List.append_nil]; exact hl)
  rw [List.append_nil] at bb
  refine wpAny_call (codeAny_mono (F.run A X.stack s H ⟨us, []⟩ us vs Q E hr (env0_at I.env0 hA) bb r h) fun z s' hq => ?_)
  cases z with
  | error e => exact hx pins σ H s e s' I hq
  | ok fl => cases fl <;> first | exact I.after hq | exact False.elim hq
theorem op_own_ne (T : EqC X.K C f) (F : FnOk X.prog X.w X.K X.mg X.base CX k f fd ps sp) (hr : Room (k + 1) X.A) (hb : Binds X.K fd ps []) (hx : Passes CX X E) : OpR X (compareOp .NotEq) (rOwn X.K C sp E fun b => !b) := by
  intro pins s σ H x y v u Q I rx ry hq
  obtain ⟨a, dx, fs, t, rfl, ha, ty, hn, q⟩ := hq
  cases rx
  obtain ⟨mA, J, _⟩ := ins_get I.hok ha
  obtain ⟨od, J1, _⟩ := J.look
  obtain ⟨P, Z, p, _⟩ := kit_of I ry ty
  show wpAny (model X.prog X.w) X.A (richCompare .NotEq (.ref a) u) (EP X pins σ Q) X.xe s
  have hu := hr.units
  refine PySem.W.fk_ne (by omega) I.kIn J1 (Z.ty _ _ I.kIn p) hn T.ne T.eq T.fn T.ob ?_
  refine thn (run_at (vs := [.ref a, y]) F hr.in1 rfl hb hx I (.cons rfl (.cons ry .nil)) q) fun w' s' z => ?_
  obtain ⟨v', H', I', rv, b, rfl, q'⟩ := z
  cases rv
  exact ⟨b, rfl, .bl (!b), H', I', rfl, q'⟩
/-- str(o), o an instance with an own __str__ -/
structure StrC (K : PySem.W.Frag) (C f : Addr) : Prop where
  st : PySem.W.findIn K (.ref C) "__str__" = some (some (.ref f))
  fn : PySem.W.isFn K (.ref f) = true
def rStrOwn (C : Addr) (sp : Sp) (E : XK) : List V → Hp → VK → Prop := fun xs H Q => ∃ (a dx : Addr) (fs : List (Str × V)), xs = [.ref a] ∧ H a = some (.ins C dx fs) ∧ sp xs H (fun v H' => ∃ z : Str, v = .str z ∧ Q (.str z) H') E
theorem call_str_own (T : StrC X.K C f) (F : FnOk X.prog X.w X.K X.mg X.base CX k f fd ps sp) (hr : Room (k + 2) X.A) (hb : Binds X.K fd ps []) (hx : Passes CX X E) : CallR X (.type "str") (rStrOwn C sp E) := by
  intro pins s σ H xs us Q I r hq
  obtain ⟨a, dx, fs, rfl, ha, q⟩ := hq
  obtain ⟨u, rfl, ru⟩ := vals1 r
  cases ru
  obtain ⟨mA, J, _⟩ := ins_get I.hok ha
  obtain ⟨od, J1, _⟩ := J.look
  have hu := hr.in1.in1.units0
  refine PySem.W.kso_call hu I.kIn J1 T.st T.fn ?_
  refine thn (run_at (vs := [.ref a]) F hr.in1.in1 rfl hb hx I (.cons rfl .nil) q) fun w' s' z => ?_
  obtain ⟨v', H', I', rv, y, rfl, q'⟩ := z
  obtain ⟨t, rfl⟩ := rv
  exact ⟨.str y, H', I', ⟨t, rfl⟩, q'⟩
/-- repr of data of any depth, in a def that is called with no repr under way -/
def rReprD (K : PySem.W.Frag) : List V → Hp → VK → Prop := fun xs H Q => ∃ (x : V) (d : PyData), xs = [x] ∧ Dp K H x d ∧ d.showable = true ∧ d.hasDict = false ∧ d.depth ≤ 50 ∧ d.shown.length ≤ sizeLine ∧ Q (.str d.shown) H
theorem call_repr_data (hg : X.A.guards = some []) (hr : Room k X.A) : CallR X (.builtin "repr") (rReprD X.K) := by
  intro pins s σ H xs us Q I r hq
  obtain ⟨x, d, rfl, hd, hs, hn, hz, hl, q⟩ := hq
  obtain ⟨u, rfl, ru⟩ := vals1 r
  obtain ⟨as, rd⟩ := Dp.reads I d x u hd ru
  have hu := hr.units
  have big : ∀ a : Addr, u = .ref a → wpAny (model X.prog X.w) X.A (call (.builtin "repr") [u]) (EP X pins σ Q) X.xe s := fun a e => by
    subst e
    exact repr_of_reads' (h₀ := s.heap) rd hs (fun z => by rw [hn] at z; cases z) hg (by omega) (fun _ _ z => z) (fun h' v tk hk => ⟨.str d.shown, H, I.kept hk, ⟨v, rfl⟩, q⟩) hl
  cases hd with
  | non => cases ru; exact P.repr_of_none ⟨.str _, H, I.tok _, ⟨_, rfl⟩, q⟩
  | bl b => cases ru; exact P.repr_of_bool ⟨.str _, H, I.tok _, ⟨_, rfl⟩, by cases b <;> exact q⟩
  | int i =>
    obtain ⟨t, rfl⟩ := ru
    exact P.repr_of_int (by simpa [PyData.showable] using hs) ⟨.str _, H, I.tok _, ⟨_, rfl⟩, q⟩
  | str z =>
    obtain ⟨t, rfl⟩ := ru
    exact P.repr_of_str ⟨.str _, H, I.tok _, ⟨_, rfl⟩, q⟩ (hsz := hl)
  | lst h1 h2 => exact big _ ru
  | tup h1 h2 => exact big _ ru
/-- str(x), x an int or a text -/
theorem call_str_is : CallR X (.type "str") (fun xs H Q => (∃ i, xs = [.int i] ∧ i.natAbs.log2 < 1920 ∧ Q (.str (toString i)) H) ∨ ∃ a, xs = [.str a] ∧ Q (.str a) H) := CallR.or call_str_int SkE.call_str_str
end
end Fk

/-! Forkpolls: the law's own def, called where no repr is under way. -/
namespace Fk
open PySem PySem.Spec PyProof.Rows L2

/-- a def's promise where no repr (or the like) is under way -/
structure FnG (P : Program) (w : World) (K : PySem.W.Frag) (mg : Str → Option Value) (base : Heap) (CX : CXT) (k : Nat) (f : Addr) (fd : FuncData) (ps : List Str) (sp : Sp) : Prop where
  run : ∀ (A : Around) (outer : List Env) (s : Shared) (H : Hp) (args : Args) (us : List Value) (vs : List V) (Q : VK) (E : XK), A.guards = some [] → Room k A → Env0 P w K mg base A outer s H → BindsTo s fd args (ps.zip us) → Vals vs us → sp vs H Q E →
    codeAny (model P w) A (.call (.ref f) args) (CR CX outer P w H s Q E) s
theorem guards_deeper {A : Around} {env : Env} (h : A.guards = some []) : (A.deeper env).guards = some [] := by
  first | exact h | simpa [Around.deeper] using h
section
variable {CX : CXT} {P : Program} {w : World} {K : PySem.W.Frag} {mg : Str → Option Value} {base : Heap} {k : Nat} {f : Addr} {x qual : Str} {st : Stmt} {fd : FuncData} {N ps : List Str} {sp : Sp}
theorem fun_okG (F : Fun K x qual st f fd) (S : FnScope N ps (defScope st)) (len : ∀ vs H Q E, sp vs H Q E → vs.length = ps.length)
    (body : ∀ (cdv : Value) (A : Around) (outer : List Env) (s : Shared) (H : Hp) (vs : List V) (Q : VK) (E : XK), (A.deeper (envOfC qual (defScope st) s.heap.objs.size f cdv)).guards = some [] → Room k (A.deeper (envOfC qual (defScope st) s.heap.objs.size f cdv)) → sp vs H Q E →
      ∃ t, PSs (cxOf CX P w K mg base N qual (defScope st) f cdv A outer s H E) (defBody st) t ∧ t { nx := fun _ H' => Q .non H', rt := Q } (start N vs) H) : FnG P w K mg base CX (k + 1) f fd ps sp := by
  obtain ⟨oc, od, kV, doc, pm, an, cdv, ct, osl, rfl, lk, hcd⟩ := F.ex
  refine ⟨fun A outer s H args us vs Q E hG hr e0 hb r hsp => ?_⟩
  have KX : K.In s.heap := e0.mod.kin.keeps fun b o e => (e0.bs b o e).1
  have lim : s.heap.NoLimit := e0.mod.nolimit.keeps fun b o e => (e0.bs b o e).1
  refine codeAny_call_function hr.depth (KX _ _ lk) rfl S.co S.gen rfl (PySem.W.codeRec_of KX hcd) (hb _ _ _ _ ?_)
  refine wpAny_newFunctionEnv_cells S.kind (fun y hy => (S.par y.1 (List.of_mem_zip hy).1).elim (fun q => .inl q) fun q => .inr ⟨q, PySem.W.cellsFrom_some _ _ _ (.inl q)⟩) fun env he s1 z => ?_
  subst he
  obtain ⟨t, ht, hq⟩ := body cdv A outer s H vs Q E (guards_deeper hG) (hr.deeper _) hsp
  refine ⟨lim.keeps z.toInCall.keep, codeAny_func (wpAny_mono (ht.run [] s1 (start N vs) H _ (inv_start S hr.hd e0 (len _ _ _ _ hsp) r z) hq) (fun fl s' hs => ?_) fun _ _ hs => hs)⟩
  cases fl with
  | ret u => exact let ⟨v, _, H', J, rv, q⟩ := hs; ⟨v, H', J.os, J.bare, J.base, J.hok, rv, q⟩
  | next => exact let ⟨_, H', J, q⟩ := hs; ⟨V.non, H', J.os, J.bare, J.base, J.hok, (rfl : Value.none = Value.none), q⟩
  | brk => exact let ⟨_, _, _, q⟩ := hs; q.elim
  | cont => exact let ⟨_, _, _, q⟩ := hs; q.elim
end
/-- the heap at the law's entry, of which the script alone may be tracked -/
theorem lawG_core {P : Program} {w : World} {K : PySem.W.Frag} {mg mb : Str → Option Value} {CX : CXT} {k : Nat} {fa a : Addr} {fd : FuncData} {x : Str} {sp : Sp} {s : Shared} {vs : List Value} {H : Hp}
    (KX : K.In s.heap) (hns : s.heap.Ns mainGlobals mg) (hb : s.heap.Ns builtinsNs mb) (hbb : ∀ x : Str, x ≠ "__name__" → mb x = bootBuiltins x) (hlim : s.heap.NoLimit) (hg : s.gens = #[])
    (ha : s.heap.get? a = some { cls := .type "list", data := .seq vs.toArray }) (hr : Room k callerA)
    (F : ∀ base : Heap, K.In base → base.Ns mainGlobals mg → FnG P w K mg base CX k fa fd [x] sp) (bind : ∀ (s : Shared) (u : Value), BindsTo s fd ⟨[u], []⟩ [(x, u)])
    (hsp : sp [.ref a] H (fun v _ => v = .bl true) fun _ _ _ => False) (hCX : ∀ e s', CX [] H s (fun _ _ _ => False) e s' → False)
    (hO : Only H) (hok : HOk P w H s.heap) (hA : ∀ b, H b ≠ none → b = a) (hK : H a ≠ none → K.lookup a = none) :
    codeAny (model P w) callerA (.call (.ref fa) ⟨[.ref a], []⟩) (fun r s' => r = .ok (.ret (.bool true)) ∧ OldK s.heap s'.heap ∧ s'.os = s.os ∧ AllBare s'.gens) s := by
  have free : ∀ {b : Addr} {o : Obj} {es : Array DictEntry} {ep : Nat}, s.heap.get? b = some o → o.data = .dict es ep → H b = none := by
    intro b o es ep e d
    by_cases q : H b = none
    · exact q
    · rw [hA b q, ha] at e
      cases e
      have d' : Data.seq vs.toArray _ = Data.dict es ep := d
      cases d'
  have ns : ∀ {b : Addr} {m : Str → Option Value}, s.heap.Ns b m → (hidT s.heap H).Ns b m := fun z => let ⟨o, es, ep, e, d, r⟩ := z; ⟨o, es, ep, hidT_get e (free e d), d, r⟩
  have kin : K.In (hidT s.heap H) := fun b o e => hidT_get (KX b o e) (by
    by_cases q : H b = none
    · exact q
    · have eb := hA b q
      subst eb
      rw [hK q] at e
      cases e)
  obtain ⟨mc, l1, l2⟩ := hlim
  have e0 : Env0 P w K mg (hidT s.heap H) callerA [] s H := ⟨rfl, ⟨kin, ns hns, ⟨mb, ns hb, hbb⟩, ⟨mc, ns l1, l2⟩⟩, fun b o e => of_hidT e, Nat.le_of_eq (hidT_size _ _), trivial, fun b hb => absurd (show b ∈ ([] : List Addr) from hb) List.not_mem_nil, hok, AllBare.of_eq hg⟩
  refine codeAny_mono ((F _ kin (ns hns)).run callerA [] s H ⟨[.ref a], []⟩ [.ref a] [.ref a] _ _ rfl hr e0 (bind s (.ref a)) (.cons rfl .nil) hsp) fun r s' h => ?_
  cases r with
  | error e => exact (hCX e s' h).elim
  | ok fl =>
    cases fl with
    | next => exact h.elim
    | brk => exact h.elim
    | cont => exact h.elim
    | ret u =>
      obtain ⟨v, H', os, bare, un, hok', rv, q⟩ := h
      obtain rfl : v = V.bl true := q
      obtain rfl : u = Value.bool true := rv
      refine ⟨rfl, OldK.of_keep fun b o e => ?_, os, bare⟩
      by_cases q : H b = none
      · exact un.keep b o e q (fun z => absurd (show b ∈ ([] : List Addr) from z) List.not_mem_nil) List.not_mem_nil
      · rcases hO b with z | ⟨ob, xs, z⟩
        · exact (q z).elim
        · obtain ⟨e1, _⟩ := hok b _ z
          obtain ⟨e2, _⟩ := hok' b _ (un.frzs b ob _ z)
          rw [e] at e1
          cases e1
          exact e2
theorem walk_ofG {l : PySem.W.OpenLaw} {n k : Nat} {q : Program} {loose : List Str} {XP : (Str → Option Value) → Heap → Prop} {YP : World → Heap → Prop} {d : DefRec} {K : Params → PySem.W.Frag} {CX : World → CXT} {sp : World → Sp} {x : Str}
    (hn : l.most = some n) (hn2 : n ≤ sizeLine) (hdf : d.params.defaults = []) (hr : Room k callerA) (hY : ∀ (w : World) (h : Heap), YP w h → (K w.params).In h)
    (F : ∀ (w : World) (mg : Str → Option Value) (fa : Addr) (h : Heap), (K w.params).In h → h.Ns mainGlobals mg → mg d.name = some (.ref fa) →
      ∃ fd : FuncData, (∀ (s : Shared) (u : Value), BindsTo s fd ⟨[u], []⟩ [(x, u)]) ∧ ∀ base : Heap, (K w.params).In base → base.Ns mainGlobals mg → FnG l.prog w (K w.params) mg base (CX w) k fa fd [x] (sp w))
    (hsp : ∀ (w : World) (H : Hp) (a : Addr) (ns : List Int), ns.length ≤ n → Only H → SqL (K w.params) H a (ns.map V.int) → sp w [.ref a] H (fun v _ => v = .bl true) fun _ _ _ => False)
    (hCX : ∀ (w : World) (H : Hp) (s : Shared) (e : Value) (s' : Shared), CX w [] H s (fun _ _ _ => False) e s' → False) :
    PySem.W.WalkO q loose XP YP l.row.toRowW d [] (fun f vs => PySem.call f vs) := by
  refine Att.attach_call hn hdf fun w s₀ s mg mb fa o pm cd doc a vs ns G Y ho hd hcd hmg hobj hints hlen hg => ?_
  have KX := hY w _ Y
  obtain ⟨fd, hb, hF⟩ := F w mg fa _ KX G.T.g hmg
  have rv := vals_ints hints
  have hl : ns.length ≤ sizeLine := Nat.le_trans hlen hn2
  by_cases hk : (K w.params).lookup a = none
  · have at_a : (fun b => if b = a then some (HO.frz { cls := .type "list", data := .seq vs.toArray } (.lst (ns.map V.int))) else none) a = some (HO.frz { cls := .type "list", data := .seq vs.toArray } (.lst (ns.map V.int))) := if_pos rfl
    have off : ∀ b, b ≠ a → (fun b => if b = a then some (HO.frz { cls := .type "list", data := .seq vs.toArray } (.lst (ns.map V.int))) else none) b = none := fun b hb => if_neg hb
    generalize (fun b => if b = a then some (HO.frz { cls := .type "list", data := .seq vs.toArray } (.lst (ns.map V.int))) else none) = H at at_a off
    have hO : Only H := fun b => (Decidable.em (b = a)).elim (fun e => .inr ⟨_, _, e ▸ at_a⟩) fun e => .inl (off b e)
    refine lawG_core (H := H) KX G.T.g G.T.b G.T.builtins G.T.nolimit hg hobj hr hF hb (hsp w H a ns hlen hO (.inl (.inr ⟨_, at_a⟩))) (fun e s' => hCX w H s e s') hO (fun b u z => ?_) (fun b z => ?_) fun _ => hk
    · by_cases e : b = a
      · subst e
        rw [at_a] at z
        cases z
        exact ⟨hobj, by rw [List.length_map]; exact hl, vs, _, rv, hobj⟩
      · rw [off b e] at z
        cases z
    · exact Decidable.byContradiction fun e => z (off b e)
  · cases hk2 : (K w.params).lookup a with
    | none => exact (hk hk2).elim
    | some o2 =>
      have e := KX a o2 hk2
      rw [hobj] at e
      cases e
      have hO : Only (fun _ => none) := fun _ => .inl rfl
      exact lawG_core (H := fun _ => none) KX G.T.g G.T.b G.T.builtins G.T.nolimit hg hobj hr hF hb
        (hsp w _ a ns hlen hO (.inr ⟨_, vs.toArray, _, hk2, rfl, rfl, rfl, by rw [List.size_toArray, hints.length]; exact hl, by simpa using rv⟩)) (fun e s' => hCX w _ s e s') hO (fun b u z => nomatch (show (none : Option HO) = some u from z)) (fun b z => absurd rfl z) fun z => absurd rfl z
end Fk

/-! Forkpolls: what a reading comes to, with a few objects (R.D) that may change under a word (R.J) and all else standing. -/
namespace Fk
open PySem PySem.Spec PyProof.Rows L2

/-- D: objects that may change, by the word J; h: objects that stand while one evaluates, and of which no fact speaks -/
structure Res where
  D : List Addr
  h : List Addr
  J : Hp → Prop
  at_ : ∀ H, J H → ∀ x, x ∈ D ∨ x ∈ h → H x ≠ none
  st : ∀ H H', J H → (∀ x, x ∈ D → H' x = H x) → (∀ x, x ∈ h → H' x ≠ none) → J H'
def Free : Res where
  D := []
  h := []
  J := fun _ => True
  at_ := fun _ _ _ h => h.elim (fun z => absurd z List.not_mem_nil) fun z => absurd z List.not_mem_nil
  st := fun _ _ _ _ _ => True.intro
/-- facts stand from H to H' -/
def Gr (R : Res) (H H' : Hp) : Prop := R.J H' ∧ ∀ x o, H x = some o → x ∉ R.D → x ∉ R.h → H' x = some o
/-- what evaluating does -/
def Gv (R : Res) (H H' : Hp) : Prop := Gr R H H' ∧ ∀ x, x ∈ R.h → H' x = H x
abbrev VP := V → Hp → Prop
/-- from now on -/
abbrev Al (R : Res) (φ : Hp → Prop) (H : Hp) : Prop := ∀ H', Gr R H H' → φ H'
def Stb (R : Res) (P : VP) : Prop := ∀ v H H', Gr R H H' → P v H → P v H'
section
variable {R : Res} {H H1 H2 H' : Hp} {p : Addr} {o : HO}
theorem free_j : Free.J H := True.intro
theorem Gr.refl (h : R.J H) : Gr R H H := ⟨h, fun _ _ e _ _ => e⟩
theorem Gv.refl (h : R.J H) : Gv R H H := ⟨Gr.refl h, fun _ _ => rfl⟩
theorem Gr.tr (a : Gr R H H1) (b : Gr R H1 H2) : Gr R H H2 := ⟨b.1, fun x o e n m => b.2 x o (a.2 x o e n m) n m⟩
theorem Gr.trans (a : Gr R H H1) (b : Gv R H1 H2) : Gr R H H2 := a.tr b.1
theorem Gv.trans (a : Gv R H H1) (b : Gv R H1 H2) : Gv R H H2 := ⟨a.1.tr b.1, fun x hx => (b.2 x hx).trans (a.2 x hx)⟩
theorem Gr.at (a : Gr R H H1) : Gv R H1 H1 := Gv.refl a.1
theorem Gv.at (a : Gv R H H1) : Gv R H1 H1 := Gv.refl a.1.1
theorem Gv.same (j : R.J H) (e : Same H H') : Gv R H H' := by
  have k : ∀ x, x ∈ R.D ∨ x ∈ R.h → H' x = H x := fun x hx => by
    cases q : H x with
    | none => exact absurd q (R.at_ H j x hx)
    | some o => exact e x o q
  exact ⟨⟨R.st H H' j (fun x hx => k x (.inl hx)) fun x hx => by rw [k x (.inr hx)]; exact R.at_ H j x (.inr hx), fun x o q _ _ => e x o q⟩, fun x hx => k x (.inr hx)⟩
theorem same_new (hp : H p = none) : Same H (upd H p o) := fun b x e => by
  rw [upd_ne (ne_of_none e hp)]
  exact e
theorem Gv.new (j : R.J H) (hp : H p = none) : Gv R H (upd H p o) := Gv.same j (same_new hp)
theorem off (j : R.J H) (hp : H p = none) : p ∉ R.D ∧ p ∉ R.h := ⟨fun h => R.at_ H j p (.inl h) hp, fun h => R.at_ H j p (.inr h) hp⟩
theorem Gr.back (a : Gr R H H1) (hp : H1 p = none) : H p = none := by
  obtain ⟨h1, h2⟩ := off a.1 hp
  cases q : H p with
  | none => rfl
  | some o =>
    rw [a.2 p o q h1 h2] at hp
    cases hp
theorem Gr.free (a : Gr Free H H1) : Same H H1 := fun b o e => a.2 b o e List.not_mem_nil List.not_mem_nil
theorem gv_free (a : Same H H1) : Gv Free H H1 := Gv.same True.intro a
theorem Al.gr {φ : Hp → Prop} (a : Gr R H H1) (h : Al R φ H) : Al R φ H1 := fun H' g => h H' (a.tr g)
theorem Al.now {φ : Hp → Prop} (h : Al R φ H) (j : R.J H) : φ H := h H (Gr.refl j)
theorem al_of (hp : H p = some o) (hd : p ∉ R.D ∧ p ∉ R.h) : Al R (fun H' => H' p = some o) H := fun H' g => g.2 p o hp hd.1 hd.2
end

def Is (v : V) : VP := fun u _ => u = v
/-- v shows the datum d, from now on -/
def Rp (K : PySem.W.Frag) (R : Res) (d : PyData) : VP := fun u H => Al R (fun H' => Dp K H' u d) H
/-- a list, a tuple of these values, from now on -/
def IsL (K : PySem.W.Frag) (R : Res) (xs : List V) : VP := fun u H => ∃ p, u = .ref p ∧ Al R (fun H' => SqL K H' p xs) H
def IsU (K : PySem.W.Frag) (R : Res) (xs : List V) : VP := fun u H => ∃ p, u = .ref p ∧ Al R (fun H' => SqT K H' p xs) H
/-- a list of one's own -/
def IsN (xs : List V) : VP := fun u H => ∃ p, u = .ref p ∧ H p = some (.lst xs)
section
variable {K : PySem.W.Frag} {R : Res} {v : V} {d : PyData} {xs : List V}
theorem stb_is : Stb R (Is v) := fun _ _ _ _ h => h
theorem stb_rp : Stb R (Rp K R d) := fun _ _ _ g h => Al.gr g h
theorem stb_isL : Stb R (IsL K R xs) := fun _ _ _ g ⟨p, e, h⟩ => ⟨p, e, Al.gr g h⟩
theorem stb_isU : Stb R (IsU K R xs) := fun _ _ _ g ⟨p, e, h⟩ => ⟨p, e, Al.gr g h⟩
end
/-- te comes to some v of which P holds -/
def EvP (R : Res) (te : TE) (σ : L2.St) (H : Hp) (P : VP) : Prop := ∀ H1, Gr R H H1 → ∀ Q : VK, (∀ v H2, Gv R H1 H2 → P v H2 → Q v H2) → te σ H1 Q
def EvT (R : Res) (tt : TT) (σ : L2.St) (H : Hp) (b : Bool) : Prop := ∀ H1, Gr R H H1 → ∀ Q : Bool → Hp → Prop, (∀ H2, Gv R H1 H2 → Q b H2) → tt σ H1 Q
def PsOk : List VP → List V → Hp → Prop
  | [], [], _ => True
  | P :: Ps, v :: vs, H => P v H ∧ PsOk Ps vs H
  | _, _, _ => False
def EvA (R : Res) (ta : TA) (σ : L2.St) (H : Hp) (Ps : List VP) : Prop := ∀ H1, Gr R H H1 → ∀ Q : List V → Hp → Prop, (∀ vs H2, Gv R H1 H2 → PsOk Ps vs H2 → Q vs H2) → ta σ H1 Q
def EvO (R : Res) (to : TO) (σ : L2.St) (H : Hp) (o : Option Int) : Prop := ∀ H1, Gr R H H1 → ∀ Q : Option Int → Hp → Prop, (∀ H2, Gv R H1 H2 → Q o H2) → to σ H1 Q
/-- an operation on values; a call on values -/
def RvP (R : Res) (r : R2) (x y : V) (H : Hp) (P : VP) : Prop := ∀ Q : VK, (∀ v H2, Gv R H H2 → P v H2 → Q v H2) → r x y H Q
def RcP (R : Res) (r : List V → Hp → VK → Prop) (vs : List V) (H : Hp) (P : VP) : Prop := ∀ Q : VK, (∀ v H2, Gv R H H2 → P v H2 → Q v H2) → r vs H Q
section
variable {K : PySem.W.Frag} {R : Res} {σ : L2.St} {H H' : Hp} {ta tb te : TE} {t u : TT} {x y v : V} {r : R2} {P P' A B : VP} {i j : Int}
theorem EvP.gr (g : Gr R H H') (h : EvP R te σ H P) : EvP R te σ H' P := fun H1 a => h H1 (g.tr a)
theorem EvT.gr {b : Bool} (g : Gr R H H') (h : EvT R t σ H b) : EvT R t σ H' b := fun H1 a => h H1 (g.tr a)
theorem ev_imp (h : EvP R te σ H P) (k : ∀ v H', Gr R H H' → P v H' → P' v H') : EvP R te σ H P' := fun H1 g Q q => h H1 g Q fun v H2 g2 p => q v H2 g2 (k v H2 (g.trans g2) p)
theorem ev_var {i : Nat} (h : σ[i]? = some (some v)) (p : Al R (P v) H) : EvP R (tVar i) σ H P := fun H1 g Q q => ⟨v, h, q v H1 g.at (p H1 g)⟩
theorem ev_is {i : Nat} (h : σ[i]? = some (some v)) : EvP R (tVar i) σ H (Is v) := fun H1 g Q q => ⟨v, h, q v H1 g.at rfl⟩
theorem ev_c : EvP R (tC v) σ H (Is v) := fun H1 g Q q => q v H1 g.at rfl
theorem ev_cP (p : Al R (P v) H) : EvP R (tC v) σ H P := fun H1 g Q q => q v H1 g.at (p H1 g)
theorem ev_op (sA : Stb R A) (ha : EvP R ta σ H A) (hb : EvP R tb σ H B) (hr : ∀ x y H1, Gr R H H1 → A x H1 → B y H1 → RvP R r x y H1 P) : EvP R (tOp r ta tb) σ H P := fun H1 g Q q =>
  ha H1 g _ fun x H2 g2 px => hb H2 (g.trans g2) _ fun y H3 g3 py => hr x y H3 (g.trans (g2.trans g3)) (sA x H2 H3 g3.1 px) py Q fun v H4 g4 pv => q v H4 (g2.trans (g3.trans g4)) pv
theorem ev_opS (ha : EvP R ta σ H (Is x)) (hb : EvP R tb σ H (Is y)) (hr : ∀ H1, Gr R H H1 → RvP R r x y H1 P) : EvP R (tOp r ta tb) σ H P :=
  ev_op stb_is ha hb fun x' y' H1 g hx hy => by
    cases hx; cases hy
    exact hr H1 g
theorem ev_I0 {g : Int → Int → V} (ha : EvP R ta σ H (Is (.int i))) (hb : EvP R tb σ H (Is (.int j))) : EvP R (tOp (rI0 g) ta tb) σ H (Is (g i j)) := ev_opS ha hb fun H1 g1 Q q => ⟨i, j, rfl, rfl, q _ H1 g1.at rfl⟩
theorem ev_I {C : Int → Int → Prop} {g : Int → Int → V} (hc : C i j) (ha : EvP R ta σ H (Is (.int i))) (hb : EvP R tb σ H (Is (.int j))) : EvP R (tOp (rI C g) ta tb) σ H (Is (g i j)) := ev_opS ha hb fun H1 g1 Q q => ⟨i, j, rfl, rfl, hc, q _ H1 g1.at rfl⟩
theorem ev_eq (hs : scal x y = true) (ha : EvP R ta σ H (Is x)) (hb : EvP R tb σ H (Is y)) : EvP R (tOp rEq ta tb) σ H (Is (.bl (decide (x = y)))) := ev_opS ha hb fun H1 g1 Q q => ⟨hs, q _ H1 g1.at rfl⟩
theorem ev_ne (hs : scal x y = true) (ha : EvP R ta σ H (Is x)) (hb : EvP R tb σ H (Is y)) : EvP R (tOp rNe ta tb) σ H (Is (.bl (!decide (x = y)))) := ev_opS ha hb fun H1 g1 Q q => ⟨hs, q _ H1 g1.at rfl⟩
theorem ev_val {w : V} (h : EvP R te σ H (Is v)) (e : v = w) : EvP R te σ H (Is w) := e ▸ h
theorem ev_neg {i : Int} (ha : EvP R ta σ H (Is (.int i))) : EvP R (tUn (rU fun i => .int (-i)) ta) σ H (Is (.int (-i))) := fun H1 g Q q => ha H1 g _ fun x H2 g2 px => by
  cases px
  exact ⟨i, rfl, q _ H2 g2 rfl⟩
/-- x in, not in a tuple or list of flat things -/
theorem ev_in {neg : Bool} {xs : List V} (fx : flatV x = true) (fa : xs.all flatV = true) (ha : EvP R ta σ H (Is x)) (hb : EvP R tb σ H (fun u H => ∃ p, u = .ref p ∧ (SqL K H p xs ∨ SqT K H p xs))) :
    EvP R (tOp (rIn K neg) ta tb) σ H (Is (.bl (if neg then !inV x xs else inV x xs))) := ev_op stb_is ha hb fun x' y H1 g hx hy Q q => by
  cases hx
  obtain ⟨p, rfl, h⟩ := hy
  exact ⟨p, xs, rfl, h, fx, fa, q _ H1 g.at rfl⟩
theorem et_test {b : Bool} (h : EvP R te σ H (Is (.bl b))) : EvT R (tTest te) σ H b := fun H1 g _ q => h H1 g _ fun v H2 g2 e => ⟨b, e, q H2 g2⟩
theorem et_B {b : Bool} (h : EvP R te σ H (Is (.bl b))) : EvT R (tB te) σ H b := fun H1 g _ q => h H1 g _ fun v H2 g2 e => ⟨b, e, q H2 g2⟩
theorem et_is {a b : Bool} (h : EvT R t σ H a) (e : a = b) : EvT R t σ H b := e ▸ h
theorem et_and {a b : Bool} (h1 : EvT R t σ H a) (h2 : a = true → EvT R u σ H b) : EvT R (tAnd t u) σ H (a && b) := fun H1 g Q q => h1 H1 g _ fun H2 g2 => by
  cases a with
  | true => exact (if_pos rfl).mpr (h2 rfl H2 (g.trans g2) Q fun H3 g3 => q H3 (g2.trans g3))
  | false => exact (if_neg Bool.false_ne_true).mpr (q H2 g2)
theorem et_or {a b : Bool} (h1 : EvT R t σ H a) (h2 : a = false → EvT R u σ H b) : EvT R (tOr t u) σ H (a || b) := fun H1 g Q q => h1 H1 g _ fun H2 g2 => by
  cases a with
  | true => exact (if_pos rfl).mpr (q H2 g2)
  | false => exact (if_neg Bool.false_ne_true).mpr (h2 rfl H2 (g.trans g2) Q fun H3 g3 => q H3 (g2.trans g3))
theorem et_not {a : Bool} (h1 : EvT R t σ H a) : EvT R (tNot t) σ H (!a) := fun H1 g _ q => h1 H1 g _ q
theorem ev_and {a b : Bool} (h1 : EvP R ta σ H (Is (.bl a))) (h2 : a = true → EvP R tb σ H (Is (.bl b))) : EvP R (tAndV ta tb) σ H (Is (.bl (a && b))) := fun H1 g Q q => h1 H1 g _ fun v H2 g2 e => ⟨a, e, by
  cases a with
  | true => exact (if_pos rfl).mpr (h2 rfl H2 (g.trans g2) Q fun v H3 g3 => q v H3 (g2.trans g3))
  | false => exact (if_neg Bool.false_ne_true).mpr (q _ H2 g2 rfl)⟩
theorem ev_or {a b : Bool} (h1 : EvP R ta σ H (Is (.bl a))) (h2 : a = false → EvP R tb σ H (Is (.bl b))) : EvP R (tOrV ta tb) σ H (Is (.bl (a || b))) := fun H1 g Q q => h1 H1 g _ fun v H2 g2 e => ⟨a, e, by
  cases a with
  | true => exact (if_pos rfl).mpr (q _ H2 g2 rfl)
  | false => exact (if_neg Bool.false_ne_true).mpr (h2 rfl H2 (g.trans g2) Q fun v H3 g3 => q v H3 (g2.trans g3))⟩
theorem ev_not {a : Bool} (h1 : EvP R ta σ H (Is (.bl a))) : EvP R (tNotV ta) σ H (Is (.bl (!a))) := fun H1 g Q q => h1 H1 g _ fun v H2 g2 e => ⟨a, e, q _ H2 g2 rfl⟩
theorem ev_chain {r r' : R2} {tc : TE} {z : V} {a b : Bool} (ha : EvP R ta σ H (Is x)) (hb : EvP R tb σ H (Is y)) (hc : EvP R tc σ H (Is z)) (h1 : ∀ H1, Gr R H H1 → RvP R r x y H1 (Is (.bl a))) (h2 : ∀ H1, Gr R H H1 → RvP R r' y z H1 (Is (.bl b))) :
    EvP R (tChain r r' ta tb tc) σ H (Is (.bl (a && b))) := fun H1 g Q q =>
  ha H1 g _ fun x' H2 g2 ex => by
    cases ex
    exact hb H2 (g.trans g2) _ fun y' H3 g3 ey => by
      cases ey
      exact h1 H3 (g.trans (g2.trans g3)) _ fun w H4 g4 ew => ⟨a, ew, by
        cases a with
        | true => exact (if_pos rfl).mpr (hc H4 (g.trans (g2.trans (g3.trans g4))) _ fun z' H5 g5 ez => by
            cases ez
            exact h2 H5 (g.trans (g2.trans (g3.trans (g4.trans g5)))) _ fun v H6 g6 ev => q v H6 (g2.trans (g3.trans (g4.trans (g5.trans g6)))) ev)
        | false => exact (if_neg Bool.false_ne_true).mpr (q _ H4 (g2.trans (g3.trans g4)) rfl)⟩
theorem rv_i0 {g : Int → Int → V} (jj : R.J H) : RvP R (rI0 g) (.int i) (.int j) H (Is (g i j)) := fun Q q => ⟨i, j, rfl, rfl, q _ H (Gv.refl jj) rfl⟩
theorem ev_if {b : Bool} (h : EvT R t σ H b) (h1 : b = true → EvP R ta σ H P) (h2 : b = false → EvP R tb σ H P) : EvP R (tIf t ta tb) σ H P := fun H1 g Q q => h H1 g _ fun H2 g2 => by
  cases b with
  | true => exact (if_pos rfl).mpr (h1 rfl H2 (g.trans g2) Q fun v H3 g3 => q v H3 (g2.trans g3))
  | false => exact (if_neg Bool.false_ne_true).mpr (h2 rfl H2 (g.trans g2) Q fun v H3 g3 => q v H3 (g2.trans g3))
/-! ### arguments, calls, displays -/
theorem ea_nil : EvA R tNil σ H [] := fun H1 g _ q => q [] H1 g.at trivial
theorem ea_cons {tr : TA} {Ps : List VP} (s : Stb R P) (h : EvP R te σ H P) (hr : EvA R tr σ H Ps) : EvA R (tCons te tr) σ H (P :: Ps) := fun H1 g _ q =>
  h H1 g _ fun x H2 g2 px => hr H2 (g.trans g2) _ fun xs H3 g3 ps => q (x :: xs) H3 (g2.trans g3) ⟨s x H2 H3 g3.1 px, ps⟩
theorem ea_is {tr : TA} {Ps : List VP} (h : EvP R te σ H (Is v)) (hr : EvA R tr σ H Ps) : EvA R (tCons te tr) σ H (Is v :: Ps) := ea_cons stb_is h hr
theorem ev_cb {r : List V → Hp → VK → Prop} {ta : TA} {Ps : List VP} (h : EvA R ta σ H Ps) (hr : ∀ vs H1, Gr R H H1 → PsOk Ps vs H1 → RcP R r vs H1 P) : EvP R (tCB r ta) σ H P := fun H1 g Q q =>
  h H1 g _ fun vs H2 g2 ps => hr vs H2 (g.trans g2) ps Q fun v H3 g3 pv => q v H3 (g2.trans g3) pv
theorem ev_call {sp : Sp} {dvs : List V} {E : XK} {ta : TA} {Ps : List VP} (h : EvA R ta σ H Ps) (hs : ∀ vs H1, Gr R H H1 → PsOk Ps vs H1 → ∀ Q : VK, (∀ v H2, Gv R H1 H2 → P v H2 → Q v H2) → sp (vs ++ dvs) H1 Q E) : EvP R (tCall sp dvs E ta) σ H P := fun H1 g Q q =>
  h H1 g _ fun vs H2 g2 ps => hs vs H2 (g.trans g2) ps Q fun v H3 g3 pv => q v H3 (g2.trans g3) pv
theorem psOk1 {vs : List V} (h : PsOk [Is x] vs H) : vs = [x] := by
  match vs, h with
  | [a], ⟨e, _⟩ => exact congrArg (fun z => [z]) e
theorem psOk2 {vs : List V} (h : PsOk [Is x, Is y] vs H) : vs = [x, y] := by
  match vs, h with
  | [a, b], ⟨e1, e2, _⟩ => cases e1; cases e2; rfl
/-- isinstance -/
theorem ev_isi {ty : Value} {c : V} {cu : Value} {b : Bool} (ha : EvP R ta σ H (Is x)) (hc : EvP R tb σ H (Is c)) (hk : ClsV c cu) (hx : Al R (fun H' => TyX K H' x ty) H) (e : PySem.W.kitOne K ty cu = some b) :
    EvP R (tCB (rIsi K) (tCons ta (tCons tb tNil))) σ H (Is (.bl b)) := ev_cb (ea_is ha (ea_is hc ea_nil)) fun vs H1 g ps Q q => by
  cases psOk2 ps
  exact ⟨x, c, ty, cu, b, rfl, hk, hx H1 g, e, q _ H1 g.at rfl⟩
/-- scalars as data -/
def toD : V → PyData
  | .bl b => .bool b
  | .int i => .int i
  | .str z => .str z
  | _ => .none
theorem dp_toD (h : flatV v = true) : Dp K H v (toD v) := by
  cases v with
  | non => exact .non
  | bl b => exact .bl b
  | int i => exact .int i
  | str z => exact .str z
  | _ => exact absurd h Bool.false_ne_true
theorem rp_flat (h : flatV v = true) : Rp K R (toD v) v H := fun _ _ => dp_toD h
theorem ev_D (h : EvP R te σ H (Is v)) (f : flatV v = true) : EvP R te σ H (Rp K R (toD v)) := ev_imp h fun u H' _ e => by
  cases e
  exact rp_flat f
theorem dpAll_of {ds : List PyData} : ∀ {vs : List V}, PsOk (ds.map (Rp K R)) vs H → ∀ H', Gr R H H' → DpAll K H' vs ds := by
  induction ds with
  | nil => intro vs h H' g; match vs, h with | [], _ => exact .nil
  | cons d ds ih => intro vs h H' g; match vs, h with | v :: vs, ⟨h1, h2⟩ => exact .cons (h1 H' g) (ih h2 H' g)
theorem dpAll_len {ds : List PyData} : ∀ {vs : List V}, DpAll K H vs ds → vs.length = ds.length := by
  induction ds with
  | nil => intro vs h; cases h; rfl
  | cons d ds ih => intro vs h; cases h with | cons h1 h2 => exact congrArg Nat.succ (ih h2)
theorem psOk_len : ∀ {Ps : List VP} {vs : List V}, PsOk Ps vs H → vs.length = Ps.length := by
  intro Ps
  induction Ps with
  | nil => intro vs h; match vs, h with | [], _ => rfl
  | cons P Ps ih => intro vs h; match vs, h with | v :: vs, ⟨_, h⟩ => exact congrArg Nat.succ (ih h)
theorem small {n : Nat} (h : n ≤ 1000) : n ≤ sizeLine := Nat.le_of_lt (small1000 h)
theorem ev_tupD {ta : TA} {ds : List PyData} (h : EvA R ta σ H (ds.map (Rp K R))) (hl : ds.length ≤ 1000) : EvP R (tTup ta) σ H (Rp K R (.tuple ds)) := fun H1 g Q q =>
  h H1 g _ fun vs H2 g2 ps => by
    have el := (psOk_len ps).trans (List.length_map _)
    exact ⟨small (by omega), fun p hp => q _ _ (g2.trans (Gv.new g2.1.1 hp)) fun H' g' => .tup (.inl (.inl (g'.2 p _ upd_same (off g2.1.1 hp).1 (off g2.1.1 hp).2))) (dpAll_of ps H' ((Gv.new g2.1.1 hp).1.tr g'))⟩
theorem ev_lstD {ta : TA} {ds : List PyData} (h : EvA R ta σ H (ds.map (Rp K R))) (hl : ds.length ≤ 1000) : EvP R (tLst ta) σ H (Rp K R (.list ds)) := fun H1 g Q q =>
  h H1 g _ fun vs H2 g2 ps => by
    have el := (psOk_len ps).trans (List.length_map _)
    exact ⟨small (by omega), fun p hp => q _ _ (g2.trans (Gv.new g2.1.1 hp)) fun H' g' => .lst (.inl (.inl (g'.2 p _ upd_same (off g2.1.1 hp).1 (off g2.1.1 hp).2))) (dpAll_of ps H' ((Gv.new g2.1.1 hp).1.tr g'))⟩
/-- == and != of data -/
theorem ev_eqD {d e : PyData} (sd : SeqAt.shaped d = true) (se : SeqAt.shaped e = true) (ha : EvP R ta σ H (Rp K R d)) (hb : EvP R tb σ H (Rp K R e)) : EvP R (tOp (rEqD K) ta tb) σ H (Is (.bl (PyData.eqv d e))) :=
  ev_op stb_rp ha hb fun x y H1 g hx hy Q q => ⟨d, e, hx H1 g.at.1, hy H1 g.at.1, sd, se, q _ H1 g.at rfl⟩
theorem ev_neD {d e : PyData} (sd : SeqAt.shaped d = true) (se : SeqAt.shaped e = true) (ha : EvP R ta σ H (Rp K R d)) (hb : EvP R tb σ H (Rp K R e)) : EvP R (tOp (rNeD K) ta tb) σ H (Is (.bl (!PyData.eqv d e))) :=
  ev_op stb_rp ha hb fun x y H1 g hx hy Q q => ⟨d, e, hx H1 g.at.1, hy H1 g.at.1, sd, se, q _ H1 g.at rfl⟩
end
/-! ### statements: Hc the heap as it stands, H the heap of the facts -/
section
variable {K : PySem.W.Frag} {R : Res} {σ : L2.St} {H Hc : Hp} {te : TE} {t : TT} {P : VP} {D : Ends} {tu tw : TS} {v : V}
theorem s_ret (h : EvP R te σ H P) (g : Gr R H Hc) (k : ∀ v H1, Gr R H H1 → Gv R Hc H1 → P v H1 → D.rt v H1) : tRet te D σ Hc := h Hc g _ fun v H1 g1 p => k v H1 (g.trans g1) g1 p
theorem s_set {i : Nat} (h : EvP R te σ H P) (g : Gr R H Hc) (k : ∀ v H1, Gr R H H1 → Gv R Hc H1 → P v H1 → D.nx (σ.set i (some v)) H1) : tAsg te (gName i) D σ Hc := h Hc g _ fun v H1 g1 p => k v H1 (g.trans g1) g1 p
theorem s_drop (h : EvP R te σ H P) (g : Gr R H Hc) (k : ∀ v H1, Gr R H H1 → Gv R Hc H1 → P v H1 → D.nx σ H1) : tDrop te D σ Hc := h Hc g _ fun v H1 g1 p => k v H1 (g.trans g1) g1 p
theorem s_if {b : Bool} (h : EvT R t σ H b) (g : Gr R H Hc) (h1 : b = true → ∀ H1, Gr R H H1 → Gv R Hc H1 → tu D σ H1) (h2 : b = false → ∀ H1, Gr R H H1 → Gv R Hc H1 → tw D σ H1) : tIfS t tu tw D σ Hc := h Hc g _ fun H1 g1 => by
  cases b with
  | true => exact (if_pos rfl).mpr (h1 rfl H1 (g.trans g1) g1)
  | false => exact (if_neg Bool.false_ne_true).mpr (h2 rfl H1 (g.trans g1) g1)
theorem s_if1 {b : Bool} (h : EvT R t σ H b) (g : Gr R H Hc) (h1 : b = true → ∀ H1, Gr R H H1 → Gv R Hc H1 → tu D σ H1) (h2 : b = false → ∀ H1, Gr R H H1 → Gv R Hc H1 → D.nx σ H1) : tIfS t tu tNext D σ Hc := s_if h g h1 h2
end
end Fk

/-! Forkpolls: loops and comprehensions, calls by name. -/
namespace Fk
open PySem PySem.Spec PyProof.Rows L2
/-- one more object of which no fact speaks -/
def Res.add (R : Res) (p : Addr) : Res where
  D := R.D
  h := p :: R.h
  J := fun H => R.J H ∧ H p ≠ none
  at_ := fun H j x hx => by
    rcases hx with e | e
    · exact R.at_ H j.1 x (.inl e)
    · rcases List.mem_cons.mp e with e | e
      · rw [e]
        exact j.2
      · exact R.at_ H j.1 x (.inr e)
  st := fun H H' j k m => ⟨R.st H H' j.1 k fun x hx => m x (List.mem_cons_of_mem _ hx), m p List.mem_cons_self⟩
section
variable {R : Res} {H H' H1 : Hp} {p : Addr} {o : HO} {φ : Hp → Prop}
theorem add_into (hn : H p = none) (g : Gr (R.add p) H H') : Gr R H H' := ⟨g.1.1, fun x o e n m => g.2 x o e n fun z => by
  rcases List.mem_cons.mp z with q | q
  · rw [q, hn] at e
    cases e
  · exact m q⟩
theorem al_into (hn : H p = none) (h : Al R φ H) : Al (R.add p) φ H := fun H' g => h H' (add_into hn g)
theorem add_out (hp : H p = some o) (hd : p ∉ R.D ∧ p ∉ R.h) (g : Gr R H H') : Gr (R.add p) H H' := ⟨⟨g.1, by rw [g.2 p o hp hd.1 hd.2]; exact fun z => nomatch z⟩, fun x o e n m => g.2 x o e n fun z => m (List.mem_cons_of_mem _ z)⟩
theorem al_out (hp : H p = some o) (hd : p ∉ R.D ∧ p ∉ R.h) (h : Al (R.add p) φ H) : Al R φ H := fun H' g => h H' (add_out hp hd g)
theorem add_mut (hd : p ∉ R.D ∧ p ∉ R.h) (g : Gr (R.add p) H H') : Gr (R.add p) H (upd H' p o) := by
  have some_ne : ∀ x, (upd H' p o) x = some o ∨ (upd H' p o) x = H' x := fun x => by
    by_cases e : x = p
    · rw [e]; exact .inl upd_same
    · exact .inr (upd_ne e)
  refine ⟨⟨R.st H' _ g.1.1 (fun x hx => upd_ne fun z => hd.1 (by rw [← z]; exact hx)) fun x hx => by
      rcases some_ne x with q | q
      · rw [q]; exact fun z => nomatch z
      · rw [q]; exact R.at_ H' g.1.1 x (.inr hx), by rw [upd_same]; exact fun z => nomatch z⟩, fun x u e n m => ?_⟩
  have hx : x ≠ p := fun z => m (by rw [z]; exact List.mem_cons_self)
  rw [upd_ne hx]
  exact g.2 x u e n m
theorem add_new (j : R.J H) (hn : H p = none) : Gr (R.add p) H (upd H p o) := ⟨⟨(Gv.new j hn).1.1, by rw [upd_same]; exact fun z => nomatch z⟩, fun x u e _ _ => same_new hn x u e⟩
end
section
variable {R : Res} {H H' : Hp} {P : VP} {Ps Qs : List VP} {xs : List V} {v : V}
theorem psOk_snoc : ∀ {Ps : List VP} {xs : List V}, PsOk Ps xs H → P v H → PsOk (Ps ++ [P]) (xs ++ [v]) H := by
  intro Ps
  induction Ps with
  | nil => intro xs h hp; match xs, h with | [], _ => exact ⟨hp, True.intro⟩
  | cons A Ps ih => intro xs h hp; match xs, h with | x :: xs, ⟨h1, h2⟩ => exact ⟨h1, ih h2 hp⟩
theorem psOk_imp {f g : Nat → VP} {l : List Nat} (k : ∀ i, i ∈ l → ∀ v, f i v H → g i v H') : ∀ {xs : List V}, PsOk (l.map f) xs H → PsOk (l.map g) xs H' := by
  induction l with
  | nil => intro xs h; match xs, h with | [], _ => exact True.intro
  | cons i l ih => intro xs h; match xs, h with | x :: xs, ⟨h1, h2⟩ => exact ⟨k i List.mem_cons_self x h1, ih (fun j hj => k j (List.mem_cons_of_mem _ hj)) h2⟩
end
/-- a source of n turns -/
def EvW (R : Res) (wi : TI) (σ : L2.St) (H : Hp) (n : Nat) (Y : Nat → Hp → V → Hp → Prop) : Prop :=
  ∀ H1, Gr R H H1 → ∀ Z : It → Hp → Prop, (∀ J H2 G, Gv R H1 H2 → Walk J n G Y → Al R G H2 → Z J H2) → wi σ H1 Z
section
variable {K : PySem.W.Frag} {R : Res} {σ : L2.St} {H Hc : Hp} {tl te : TE} {tt : TT} {wi : TI} {g : TG} {xs : List V} {n : Nat} {Y : Nat → Hp → V → Hp → Prop} {vs : List Nat}
theorem ew_list (h : EvP R tl σ H (IsL K R xs)) : EvW R (iList K tl) σ H xs.length (YAt xs) := fun H1 a Z k => h H1 a _ fun v H2 a2 ⟨p, e, q⟩ => ⟨p, e, ⟨xs, q.now a2.1.1⟩, k _ H2 _ a2 walk_list q⟩
theorem ew_tup (h : EvP R tl σ H (IsU K R xs)) : EvW R (iTup K tl) σ H xs.length (YAt xs) := fun H1 a Z k => h H1 a _ fun v H2 a2 ⟨p, e, q⟩ => ⟨p, e, ⟨xs, q.now a2.1.1⟩, k _ H2 _ a2 walk_tup q⟩
theorem ew_str {z : Str} (h : EvP R tl σ H (Is (.str z))) : EvW R (iStr tl) σ H z.cps.size (fun i H v H' => H' = H ∧ ∃ c, z.cps[i]? = some c ∧ v = .str ⟨#[c]⟩) := fun H1 a Z k => h H1 a _ fun v H2 a2 e => ⟨z, e, k _ H2 _ a2 walk_str fun _ _ => True.intro⟩
theorem ew_range {ta : TA} {m : Int} (h : EvA R ta σ H [Is (.int m)]) (hm : 0 ≤ m ∧ m ≤ 100000) : EvW R (iRng1 ta) σ H m.toNat (YFn fun i => .int (i : Int)) := fun H1 a Z k => h H1 a _ fun vs H2 a2 ps => by
  have e := psOk1 ps
  refine ⟨m, e, by omega, by omega, k _ H2 _ a2 (walk_range.mono (fun _ _ => True.intro) fun i H x H' _ _ y => ?_) fun _ _ => True.intro⟩
  obtain ⟨y1, y2⟩ := y
  exact ⟨y1, y2.trans (congrArg V.int (Int.zero_add _))⟩
/-- what a comprehension gives -/
def gl (n : Nat) (f : Nat → Bool) (Pe : Nat → VP) : List VP := ((List.range n).filter f).map Pe
theorem gl_yes {f : Nat → Bool} {Pe : Nat → VP} (h : f n = true) : gl (n + 1) f Pe = gl n f Pe ++ [Pe n] := by
  unfold gl
  rw [List.range_succ, List.filter_append, List.map_append, List.filter_cons, if_pos h] <;> rfl
theorem gl_no {f : Nat → Bool} {Pe : Nat → VP} (h : f n = false) : gl (n + 1) f Pe = gl n f Pe := by
  unfold gl
  rw [List.range_succ, List.filter_append, List.map_append, List.filter_cons, if_neg (by rw [h]; decide), List.filter_nil, List.map_nil, List.append_nil]
theorem gl_len (f : Nat → Bool) (Pe : Nat → VP) : (gl n f Pe).length ≤ n := by
  unfold gl
  rw [List.length_map]
  exact Nat.le_trans (List.length_filter_le _ _) (Nat.le_of_eq (List.length_range))
/-- a list of one's own; the i-th is told by the i-th word -/
def LsOk (R : Res) (Ps : List VP) : VP := fun u H => ∃ p xs, u = .ref p ∧ H p = some (.lst xs) ∧ (p ∉ R.D ∧ p ∉ R.h) ∧ PsOk Ps xs H
theorem ev_lc {j : Nat} {Z : Nat → V → Prop} (Pe : Res → Nat → VP) (f : Nat → Bool) (hw : EvW R wi σ H n Y) (hn : n ≤ 1000) (hY : ∀ R' i H x H', Res.J R' H → i < n → Y i H x H' → Gv R' H H' ∧ Z i x)
    (hσ : ∀ x, wipe ((wipe σ vs).set j (some x)) vs = wipe σ vs) (st : ∀ R' i, Stb R' (Pe R' i)) (out : ∀ D i v H' xs, H' D = some (.lst xs) → (D ∉ R.D ∧ D ∉ R.h) → Pe (R.add D) i v H' → Pe R i v H')
    (he : ∀ D, H D = none → ∀ i x, i < n → Z i x → EvT (R.add D) tt ((wipe σ vs).set j (some x)) H (f i) ∧ (f i = true → EvP (R.add D) te ((wipe σ vs).set j (some x)) H (Pe (R.add D) i))) :
    EvP R (tLc wi (gName j) tt te vs) σ H (LsOk R (gl n f (Pe R))) := fun H0 a0 Q q => hw H0 a0 _ fun J H1 G a1 W hG => fun D hD => by
  have hd := off a1.1.1 hD
  have hD0 : H D = none := (a0.trans a1).back hD
  have ne : ∀ x, x ∈ R.h → x ≠ D := fun x hx z => hd.2 (by rw [← z]; exact hx)
  have base : ∀ {H2 : Hp}, Gr (R.add D) H1 H2 → Gr (R.add D) H H2 := fun {H2} g => ⟨g.1, fun x o e m k => g.2 x o ((a0.trans a1).2 x o e m fun z => k (List.mem_cons_of_mem _ z)) m k⟩
  refine lc_it W (fun i H' => (Gr (R.add D) H1 H' ∧ ∀ x, x ∈ R.h → H' x = H1 x) ∧ ∃ xs, H' D = some (.lst xs) ∧ PsOk (gl i f (Pe (R.add D))) xs H') ⟨⟨add_new a1.1.1 hD, fun x hx => upd_ne (ne x hx)⟩, [], upd_same, True.intro⟩ (fun i H' hi p => hG H' (add_into hD p.1.1)) (fun i x H2 H3 hi p y => ?_) fun H' p => ?_
  · obtain ⟨⟨g2, k2⟩, xs, hx, ps⟩ := p
    obtain ⟨g3, z⟩ := hY (R.add D) i H2 x H3 g2.1 hi y
    obtain ⟨et, ee⟩ := he D hD0 i x hi z
    refine ⟨hσ x, et H3 (base (g2.trans g3)) _ fun H4 g4 => ?_⟩
    have keep : ∀ {A B : Hp}, Gr (R.add D) A B → PsOk (gl i f (Pe (R.add D))) xs A → PsOk (gl i f (Pe (R.add D))) xs B := fun {A B} g h => psOk_imp (fun k _ v pv => st (R.add D) k v A B g pv) h
    have g24 := g3.trans g4
    have inh : ∀ x, x ∈ R.h → x ∈ (R.add D).h := fun x hx => List.mem_cons_of_mem _ hx
    have hD4 : H4 D = some (.lst xs) := (g24.2 D List.mem_cons_self).trans hx
    cases hf : f i with
    | false =>
      refine (if_neg Bool.false_ne_true).mpr ⟨⟨g2.trans g24, fun x hx => (g24.2 x (inh x hx)).trans (k2 x hx)⟩, xs, hD4, ?_⟩
      rw [gl_no hf]
      exact keep g24.1 ps
    | true =>
      refine (if_pos rfl).mpr (ee hf H4 (base (g2.trans g24)) _ fun v H5 g5 pv => ?_)
      have g25 := g24.trans g5
      have hD5 : H5 D = some (.lst xs) := (g25.2 D List.mem_cons_self).trans hx
      have ps5 := keep g25.1 ps
      have gm : Gr (R.add D) H5 (upd H5 D (.lst (xs ++ [v]))) := add_mut hd g5.at.1
      refine ⟨xs, hD5, ?_, ⟨(g2.trans g25).tr gm, fun x hx => (upd_ne (ne x hx)).trans ((g25.2 x (inh x hx)).trans (k2 x hx))⟩, _, upd_same, ?_⟩
      · have := psOk_len ps5
        have := gl_len (n := i) f (Pe (R.add D))
        exact small1000 (by omega)
      · rw [gl_yes hf]
        exact psOk_snoc (keep gm ps5) (st _ i v _ _ gm pv)
  · obtain ⟨⟨g2, k2⟩, xs, hx, ps⟩ := p
    have gr : Gv R H1 H' := ⟨add_into hD g2, k2⟩
    exact q _ _ (a1.trans gr) ⟨D, xs, rfl, hx, hd, psOk_imp (fun i _ v pv => out D i v H' xs hx hd pv) ps⟩
/-- .. of data -/
theorem ev_lcD {j : Nat} {Z : Nat → V → Prop} (d : Nat → PyData) (f : Nat → Bool) (hw : EvW R wi σ H n Y) (hn : n ≤ 1000) (hY : ∀ R' i H x H', Res.J R' H → i < n → Y i H x H' → Gv R' H H' ∧ Z i x)
    (hσ : ∀ x, wipe ((wipe σ vs).set j (some x)) vs = wipe σ vs)
    (he : ∀ D, H D = none → ∀ i x, i < n → Z i x → EvT (R.add D) tt ((wipe σ vs).set j (some x)) H (f i) ∧ (f i = true → EvP (R.add D) te ((wipe σ vs).set j (some x)) H (Rp K (R.add D) (d i)))) :
    EvP R (tLc wi (gName j) tt te vs) σ H (Rp K R (.list (((List.range n).filter f).map d))) :=
  ev_imp (ev_lc (fun R' i => Rp K R' (d i)) f hw hn hY hσ (fun _ _ => stb_rp) (fun D i v H' xs hx hd h => al_out hx hd h) he) fun v H' g p => by
    obtain ⟨a, xs, rfl, ha, hd, ps⟩ := p
    intro H2 g2
    have ps' : PsOk ((((List.range n).filter f).map d).map (Rp K R)) xs H' := by
      rw [List.map_map]
      exact ps
    exact .lst (.inl (.inl (g2.2 a _ ha hd.1 hd.2))) (dpAll_of ps' H2 g2)
/-- .. of flat things -/
theorem psIs {l : List V} : ∀ {xs : List V}, PsOk (l.map Is) xs H → xs = l := by
  induction l with
  | nil => intro xs h; match xs, h with | [], _ => rfl
  | cons a l ih => intro xs h; match xs, h with | x :: xs, ⟨h1, h2⟩ => rw [ih h2, show x = a from h1]
theorem ev_lcV {j : Nat} {Z : Nat → V → Prop} (d : Nat → V) (f : Nat → Bool) (hw : EvW R wi σ H n Y) (hn : n ≤ 1000) (hY : ∀ R' i H x H', Res.J R' H → i < n → Y i H x H' → Gv R' H H' ∧ Z i x)
    (hσ : ∀ x, wipe ((wipe σ vs).set j (some x)) vs = wipe σ vs)
    (he : ∀ D, H D = none → ∀ i x, i < n → Z i x → EvT (R.add D) tt ((wipe σ vs).set j (some x)) H (f i) ∧ (f i = true → EvP (R.add D) te ((wipe σ vs).set j (some x)) H (Is (d i)))) :
    EvP R (tLc wi (gName j) tt te vs) σ H (fun u H => ∃ p, u = .ref p ∧ H p = some (.lst (((List.range n).filter f).map d)) ∧ (p ∉ R.D ∧ p ∉ R.h)) :=
  ev_imp (ev_lc (fun R' i => Is (d i)) f hw hn hY hσ (fun _ _ => stb_is) (fun D i v H' xs hx hd h => h) he) fun v H' g p => by
    obtain ⟨a, xs, rfl, ha, hd, ps⟩ := p
    have ps' : PsOk ((((List.range n).filter f).map d).map Is) xs H' := by
      rw [List.map_map]
      exact ps
    rw [psIs ps'] at ha
    exact ⟨a, rfl, ha, hd⟩
theorem isL_of {p : Addr} (h : H p = some (.lst xs)) (hd : p ∉ R.D ∧ p ∉ R.h) : IsL K R xs (.ref p) H := ⟨p, rfl, fun H' g => .inl (.inl (g.2 p _ h hd.1 hd.2))⟩
theorem isU_of {p : Addr} (h : H p = some (.tup xs)) (hd : p ∉ R.D ∧ p ∉ R.h) : IsU K R xs (.ref p) H := ⟨p, rfl, fun H' g => .inl (.inl (g.2 p _ h hd.1 hd.2))⟩
theorem yAt_ok : ∀ (R' : Res) i (H : Hp) x H', R'.J H → i < n → YAt xs i H x H' → Gv R' H H' ∧ xs[i]? = some x := fun R' i H x H' j _ y => ⟨by rw [y.1]; exact Gv.refl j, y.2⟩
theorem yFn_ok {f : Nat → V} : ∀ (R' : Res) i (H : Hp) x H', R'.J H → i < n → YFn f i H x H' → Gv R' H H' ∧ x = f i := fun R' i H x H' j _ y => ⟨by rw [y.1]; exact Gv.refl j, y.2⟩
theorem yStr_ok {z : Str} : ∀ (R' : Res) i (H : Hp) v H', R'.J H → i < n → (H' = H ∧ ∃ c, z.cps[i]? = some c ∧ v = .str ⟨#[c]⟩) → Gv R' H H' ∧ ∃ c, z.cps[i]? = some c ∧ v = V.str ⟨#[c]⟩ := fun R' i H x H' j _ y => ⟨by rw [y.1]; exact Gv.refl j, y.2⟩
theorem et_yes {H : Hp} {σ : L2.St} : EvT R tYes σ H true := fun H1 g Q q => q H1 g.at
/-- a for -/
theorem s_for {tb : TS} {D : Ends} {g : TG} (hw : EvW R wi σ H n Y) (gc : Gr R H Hc)
    (k : ∀ H1, Gr R H H1 → Gv R Hc H1 → ∃ Pv : Nat → L2.St → Hp → Prop, Pv 0 σ H1 ∧ (∀ i σ' H', i ≤ n → Pv i σ' H' → Gr R H1 H') ∧
      (∀ i x σ' H' H2, i < n → Pv i σ' H' → Y i H' x H2 → g x σ' H2 fun σ2 H3 => tb { D with nx := Pv (i + 1), ct := Pv (i + 1), bk := D.nx } σ2 H3) ∧ ∀ σ' H', Pv n σ' H' → D.nx σ' H') :
    tFor wi g tb D σ Hc := hw Hc gc _ fun J H1 G a1 W hG => by
  obtain ⟨Pv, h0, h1, h2, h3⟩ := k H1 (gc.trans a1) a1
  exact for_it W Pv h0 (fun i σ' H' hi p => hG H' (h1 i σ' H' hi p)) h2 h3
end
end Fk

/-! Forkpolls: defs and classes by their names. -/
namespace Fk
open PySem PySem.Spec PyProof.Rows L2
/-- the def x holds sp -/
def CalX (P : Program) (w : World) (K : PySem.W.Frag) (mg : Str → Option Value) (base : Heap) (CX : CXT) (k : Nat) (x : Str) (sp : Sp) : Prop :=
  ∃ (f : Addr) (fd : FuncData) (ps : List Str), FnOk P w K mg base CX k f fd ps sp ∧ mg x = some (.ref f) ∧ PySem.W.keepIn K (.ref f) = true ∧ Binds K fd ps []
/-- the class x makes an instance of the class at C by an __init__ that holds sp -/
def MakX (P : Program) (w : World) (K : PySem.W.Frag) (mg : Str → Option Value) (base : Heap) (CX : CXT) (k : Nat) (x : Str) (C : Addr) (sp : Sp) : Prop :=
  ∃ (f : Addr) (fd : FuncData) (ps : List Str), FnOk P w K mg base CX k f fd ps sp ∧ mg x = some (.ref C) ∧ Mk K C f ∧ Binds K fd ps []
section
variable {P : Program} {w : World} {K : PySem.W.Frag} {mg : Str → Option Value} {base : Heap} {CX : CXT} {k j : Nat} {x qual : Str} {st : Stmt} {f : Addr} {ps : List Str} {sp : Sp}
theorem cal_of (d : mg x = some (.ref f) ∧ ∃ fd, Fun K x qual st f fd) (ok : ∀ fd, Fun K x qual st f fd → FnOk P w K mg base CX k f fd ps sp)
    (b : ∀ (kV doc pm : Value) (an : Option Addr) (cdv ct : Value) (us : List Value), us.length = ps.length → bindArgs (PySem.W.fnOf x qual (defArgs st) (defBody st) (defScope st) .none kV doc pm an cdv ct) ⟨us, []⟩ = pure (ps.zip us)) : CalX P w K mg base CX k x sp := by
  obtain ⟨g, fd, F⟩ := d
  exact ⟨f, fd, ps, ok fd F, g, F.kp, F.binds b⟩
theorem mak_of {C : Addr} {m : Str} (g : mg x = some (.ref C)) (M : Mk K C f) (d : ∃ fd, Fun K m qual st f fd) (ok : ∀ fd, Fun K m qual st f fd → FnOk P w K mg base CX k f fd ps sp)
    (b : ∀ (kV doc pm : Value) (an : Option Addr) (cdv ct : Value) (us : List Value), us.length = ps.length → bindArgs (PySem.W.fnOf m qual (defArgs st) (defBody st) (defScope st) .none kV doc pm an cdv ct) ⟨us, []⟩ = pure (ps.zip us)) : MakX P w K mg base CX k x C sp := by
  obtain ⟨fd, F⟩ := d
  exact ⟨f, fd, ps, ok fd F, g, M, F.binds b⟩
end
section
variable {X : Cx} {CX : CXT} {k j : Nat} {x : Str} {C : Addr} {sp : Sp} {E : XK} {p pos : Pos} {e : Expr} {es : List Expr} {t : TA}
theorem pe_cal (c : CalX X.prog X.w X.K X.mg X.base CX k x sp) (hr : Room j X.A) (hk : k ≤ j) (hx : Passes CX X E) (ha : PA X (e :: es) t) (hg : Gl X x := by rfl) (hdb : (x == ("__debug__" : Str)) = false := by decide)
    (he : starEach (e :: es) X.env = (false, eval e X.env) :: starEach es X.env := by rfl) (hpl : (backTo pos (starEach es X.env)).any (·.1) = false := by rfl) : PE X (.Call (.Name x p) (e :: es) [] pos) (tCall sp [] E t) := by
  obtain ⟨f, fd, ps, F, g, kp, b⟩ := c
  exact pe_call F (hr.mono hk) hg g kp b .nil hx ha hdb he hpl
theorem pe_cal0 (c : CalX X.prog X.w X.K X.mg X.base CX k x sp) (hr : Room j X.A) (hk : k ≤ j) (hx : Passes CX X E) (hg : Gl X x := by rfl) (hdb : (x == ("__debug__" : Str)) = false := by decide) : PE X (.Call (.Name x p) [] [] pos) (tCall sp [] E tNil) := by
  obtain ⟨f, fd, ps, F, g, kp, b⟩ := c
  exact pe_call0 F (hr.mono hk) hg g kp b .nil hx hdb
theorem pe_mkc (c : MakX X.prog X.w X.K X.mg X.base CX k x C sp) (hr : Room j X.A) (hk : k + 1 ≤ j) (hx : Passes CX X E) (ha : PA X (e :: es) t) (hg : Gl X x := by rfl) (hdb : (x == ("__debug__" : Str)) = false := by decide)
    (he : starEach (e :: es) X.env = (false, eval e X.env) :: starEach es X.env := by rfl) (hpl : (backTo pos (starEach es X.env)).any (·.1) = false := by rfl) : PE X (.Call (.Name x p) (e :: es) [] pos) (tMake C sp [] E t) := by
  obtain ⟨f, fd, ps, F, g, M, b⟩ := c
  exact pe_make M F (hr.mono hk) hg g b .nil hx ha hdb he hpl
end
/-- an own class whose instances are plain -/
structure OwnC (K : PySem.W.Frag) (C : Addr) : Prop where
  pg : PySem.W.plainGet K C Str.empty = true
  hd : PySem.W.hasDictIn K C = true
  po : PySem.W.plainOver K C = true
  sa : PySem.W.findIn K (.ref C) "__setattr__" = some (some (.builtin "object.__setattr__"))
  ma : PySem.W.makesIn K C = true
  kp : PySem.W.keepIn K (.ref C) = true
  ha : PySem.W.findIn K (.ref C) "__class__" = some (some (.builtin "object.__class__"))
  ne : PySem.W.findIn K (.ref C) "__ne__" = some (some (.builtin "object.__ne__"))
  mo : PySem.W.mroIn K C (.type "object") = some true
  ic : PySem.W.isClsIn K C = true
  ty : PySem.W.typeIn K (.ref C) = some (.type "type")
  me : PySem.W.subIn K (.ref C) (.ref C) = some true
/-- of the classes' own descriptor -/
structure ObjC (K : PySem.W.Frag) : Prop where
  gt : PySem.W.specialIn K (.builtin "object.__class__") "__get__" = some (some (.builtin "getset_descriptor.__get__"))
  tk : PySem.W.takesIn K (.builtin "object.__class__") = some true
section
variable {K : PySem.W.Frag} {C D : Addr} {t : Value} {b : Bool} {H : Hp}
theorem OwnC.cls (c : OwnC K C) : Cls K C := ⟨c.pg, c.hd, c.po, c.sa⟩
theorem OwnC.typ (c : OwnC K C) (o : ObjC K) {a dx : Addr} {fs : List (Str × V)} (e : H a = some (.ins C dx fs)) : TyX K H (.ref a) (.ref C) := .base (.ins e c.cls c.ha o.gt o.tk c.mo)
/-- isinstance(.., C): the answer -/
theorem OwnC.kit (c : OwnC K C) (h : PySem.W.subIn K t (.ref C) = some b) : PySem.W.kitOne K t (.ref C) = some b := by
  unfold PySem.W.kitOne
  by_cases e : (t == Value.ref C) = true
  · rw [if_pos e]
    have e' : t = .ref C := beq_iff_eq.mp e
    subst e'
    rw [c.me] at h
    exact h
  · rw [if_neg e]
    have z : ((PySem.W.clsIn K C).isSome && PySem.W.typeIn K (.ref C) == some (.type "type")) = true := by
      have z1 : (PySem.W.clsIn K C).isSome = true := c.ic
      rw [z1, c.ty]
      rfl
    show (if ((PySem.W.clsIn K C).isSome && PySem.W.typeIn K (.ref C) == some (.type "type")) = true then PySem.W.subIn K t (.ref C) else none) = some b
    rw [if_pos z]
    exact h
/-- isinstance(an instance, a built-in class) -/
theorem kit_ownB {T : String} (hm : PySem.W.kitMeta T = true) (h : PySem.W.subIn K (.ref C) (.type T) = some b) : PySem.W.kitOne K (.ref C) (.type T) = some b := by
  unfold PySem.W.kitOne
  rw [if_neg (by simp)]
  show (if PySem.W.kitMeta T = true then PySem.W.subIn K (.ref C) (.type T) else none) = some b
  rw [if_pos hm]
  exact h
theorem notFirst_of (h : PySem.W.subIn K t (.ref C) = some false) : PySem.W.notFirst K C t = true := by
  unfold PySem.W.notFirst
  rw [h]
  simp
theorem notFirst_me : PySem.W.notFirst K C (.ref C) = true := by
  unfold PySem.W.notFirst
  simp
end
/-! ### flat values -/
def isI : V → Bool
  | .int _ => true
  | _ => false
def isB : V → Bool
  | .bl _ => true
  | _ => false
def isS : V → Bool
  | .str _ => true
  | _ => false
def tyN : V → String
  | .bl _ => "bool"
  | .int _ => "int"
  | .str _ => "str"
  | _ => "NoneType"
section
variable {K : PySem.W.Frag} {H : Hp} {v : V}
theorem ty_flat (h : flatV v = true) : TyX K H v (.type (tyN v)) := by
  cases v with
  | non => exact .base .non
  | bl b => exact .base (.bl b)
  | int i => exact .base (.int i)
  | str z => exact .base (.str z)
  | _ => exact absurd h Bool.false_ne_true
theorem kit_int (h : flatV v = true) : PySem.W.kitOne K (.type (tyN v)) (.type "int") = some (isI v || isB v) := by
  cases v with
  | non => exact kit_ty (show kitB "NoneType" "int" = some false by decide +kernel)
  | bl b => exact kit_ty (show kitB "bool" "int" = some true by decide +kernel)
  | int i => exact kit_ty (show kitB "int" "int" = some true by decide +kernel)
  | str z => exact kit_ty (show kitB "str" "int" = some false by decide +kernel)
  | _ => exact absurd h Bool.false_ne_true
theorem kit_bool (h : flatV v = true) : PySem.W.kitOne K (.type (tyN v)) (.type "bool") = some (isB v) := by
  cases v with
  | non => exact kit_ty (show kitB "NoneType" "bool" = some false by decide +kernel)
  | bl b => exact kit_ty (show kitB "bool" "bool" = some true by decide +kernel)
  | int i => exact kit_ty (show kitB "int" "bool" = some false by decide +kernel)
  | str z => exact kit_ty (show kitB "str" "bool" = some false by decide +kernel)
  | _ => exact absurd h Bool.false_ne_true
theorem kit_str (h : flatV v = true) : PySem.W.kitOne K (.type (tyN v)) (.type "str") = some (isS v) := by
  cases v with
  | non => exact kit_ty (show kitB "NoneType" "str" = some false by decide +kernel)
  | bl b => exact kit_ty (show kitB "bool" "str" = some false by decide +kernel)
  | int i => exact kit_ty (show kitB "int" "str" = some false by decide +kernel)
  | str z => exact kit_ty (show kitB "str" "str" = some true by decide +kernel)
  | _ => exact absurd h Bool.false_ne_true
end
/-! ### texts -/
def sp1 : Str := " "
def letters (z : Str) : Bool := z.cps.toList.all fun c => decide (97 ≤ c) && decide (c ≤ 122)
def keyws : List V := [.str "any", .str "by", .str "one", .str "same", .str "to"]
def nameS (z : Str) : Bool := !inV (.str z) keyws && (decide (1 ≤ z.length) && decide (z.length ≤ 4) && letters z)
def nameV : V → Bool
  | .str z => nameS z
  | _ => false

section
variable {K : PySem.W.Frag} {R : Res} {σ : L2.St} {H : Hp} {ta tb te : TE} {z y : Str}
theorem ev_lenS (ha : EvP R ta σ H (Is (.str z))) (hz : z.length ≤ 100000) : EvP R (tCB (fun xs H Q => ∃ z : Str, xs = [.str z] ∧ z.length ≤ sizeLine ∧ Q (.int z.length) H) (tCons ta tNil)) σ H (Is (.int z.length)) := ev_cb (ea_is ha ea_nil) fun vs H1 g ps Q q => by
  cases psOk1 ps
  exact ⟨z, rfl, Nat.le_trans hz (by decide), q _ H1 g.at rfl⟩
/-- len of a list or tuple -/
theorem ev_len {xs : List V} (ha : EvP R ta σ H (fun u H => ∃ p, u = .ref p ∧ (SqL K H p xs ∨ SqT K H p xs))) : EvP R (tCB (fun vs H Q => ∃ p ys, vs = [.ref p] ∧ (SqL K H p ys ∨ SqT K H p ys) ∧ Q (.int ys.length) H) (tCons ta tNil)) σ H (Is (.int (xs.length : Int))) := fun H1 g Q q =>
  ha H1 g _ fun v H2 g2 ⟨p, e, h⟩ => ⟨p, xs, by rw [e], h, q _ H2 g2 rfl⟩
theorem ev_all {bs : List Bool} (ha : EvP R ta σ H (fun u H => ∃ p, u = .ref p ∧ SqL K H p (bs.map V.bl))) : EvP R (tCB (rAll K) (tCons ta tNil)) σ H (Is (.bl (bs.all id))) := fun H1 g Q q =>
  ha H1 g _ fun v H2 g2 ⟨p, e, h⟩ => ⟨p, bs, by rw [e], h, q _ H2 g2 rfl⟩
theorem rv_le {a b : Str} (j : R.J H) : RvP R (fun x y H Q => ∃ i j : Str, x = .str i ∧ y = .str j ∧ Q (.bl (!decide (j.cps.toList < i.cps.toList))) H) (.str a) (.str b) H (Is (.bl (!decide (b.cps.toList < a.cps.toList)))) := fun Q q => ⟨a, b, rfl, rfl, q _ H (Gv.refl j) rfl⟩
theorem filter_yes (n : Nat) : (List.range n).filter (fun _ => true) = List.range n := List.filter_eq_self.mpr fun _ _ => rfl
theorem lt_one (a b : Nat) : decide (([a] : List Nat) < [b]) = decide (a < b) := by
  rw [Bool.eq_iff_iff, decide_eq_true_iff, decide_eq_true_iff, List.cons_lt_cons_iff]
  constructor
  · rintro (h | ⟨_, h⟩)
    · exact h
    · exact absurd h (List.not_lt_nil _)
  · exact Or.inl
theorem az_lo (c : Nat) : (!decide ((⟨#[c]⟩ : Str).cps.toList < ("a" : Str).cps.toList)) = decide (97 ≤ c) := by
  show (!decide ([c] < [97])) = decide (97 ≤ c)
  rw [lt_one]
  by_cases h : 97 ≤ c
  · rw [decide_eq_true h, decide_eq_false (by omega)]; rfl
  · rw [decide_eq_false h, decide_eq_true (by omega)]; rfl
theorem az_hi (c : Nat) : (!decide (("z" : Str).cps.toList < (⟨#[c]⟩ : Str).cps.toList)) = decide (c ≤ 122) := by
  show (!decide ([122] < [c])) = decide (c ≤ 122)
  rw [lt_one]
  by_cases h : c ≤ 122
  · rw [decide_eq_true h, decide_eq_false (by omega)]; rfl
  · rw [decide_eq_false h, decide_eq_true (by omega)]; rfl
theorem letters_is (z : Str) : letters z = ((List.range z.cps.size).map fun i => (decide (97 ≤ z.cps.getD i 0) && decide (z.cps.getD i 0 ≤ 122))).all id := by
  unfold letters
  rw [List.all_map, Bool.eq_iff_iff, List.all_eq_true, List.all_eq_true]
  constructor
  · intro h i hi
    have hi' : i < z.cps.size := List.mem_range.mp hi
    have := h z.cps[i] (by simp)
    simpa [Array.getD, hi'] using this
  · intro h c hc
    obtain ⟨i, hi, rfl⟩ := List.getElem_of_mem hc
    have hi' : i < z.cps.size := by simpa using hi
    have := h i (List.mem_range.mpr hi')
    simpa [Array.getD, hi'] using this
theorem ev_chainI {tc : TE} {p q : Int → Int → Bool} {i j k : Int} (ha : EvP R ta σ H (Is (.int i))) (hb : EvP R tb σ H (Is (.int j))) (hc : EvP R tc σ H (Is (.int k))) :
    EvP R (tChain (rI0 fun i j => .bl (p i j)) (rI0 fun i j => .bl (q i j)) ta tb tc) σ H (Is (.bl (p i j && q j k))) := ev_chain ha hb hc (fun H1 g => rv_i0 g.1) (fun H1 g => rv_i0 g.1)
/-- a tuple, a list of flat things, new -/
theorem ev_tupV {t : TA} {vs : List V} (h : EvA R t σ H (vs.map Is)) (hl : vs.length ≤ 1000) : EvP R (tTup t) σ H (fun u H => ∃ p, u = .ref p ∧ H p = some (.tup vs) ∧ (p ∉ R.D ∧ p ∉ R.h)) := fun H1 g Q q =>
  h H1 g _ fun xs H2 g2 ps => by
    cases psIs ps
    exact ⟨small hl, fun p hp => q _ _ (g2.trans (Gv.new g2.1.1 hp)) ⟨p, rfl, upd_same, off g2.1.1 hp⟩⟩
theorem ev_lstV {t : TA} {vs : List V} (h : EvA R t σ H (vs.map Is)) (hl : vs.length ≤ 1000) : EvP R (tLst t) σ H (fun u H => ∃ p, u = .ref p ∧ H p = some (.lst vs) ∧ (p ∉ R.D ∧ p ∉ R.h)) := fun H1 g Q q =>
  h H1 g _ fun xs H2 g2 ps => by
    cases psIs ps
    exact ⟨small hl, fun p hp => q _ _ (g2.trans (Gv.new g2.1.1 hp)) ⟨p, rfl, upd_same, off g2.1.1 hp⟩⟩
theorem ev_strI {i : Int} (ha : EvP R ta σ H (Is (.int i))) (hz : i.natAbs.log2 < 1920) : EvP R (tCB (fun xs H Q => ∃ i, xs = [.int i] ∧ i.natAbs.log2 < 1920 ∧ Q (.str (toString i)) H) (tCons ta tNil)) σ H (Is (.str (toString i))) := ev_cb (ea_is ha ea_nil) fun vs H1 g ps Q q => by
  cases psOk1 ps
  exact ⟨i, rfl, hz, q _ H1 g.at rfl⟩
end
/-! ### data stand while their objects stand -/
section
variable {K : PySem.W.Frag} {H H' : Hp}
mutual
theorem dp_same (e : Same H H') : ∀ (d : PyData) (v : V), Dp K H v d → Dp K H' v d
  | .none, _, h => by cases h; exact .non
  | .bool b, _, h => by cases h; exact .bl b
  | .int i, _, h => by cases h; exact .int i
  | .str z, _, h => by cases h; exact .str z
  | .list ds, _, h => by
    cases h with
    | lst h1 h2 => exact .lst (SqL.ext h1 e) (dpAll_same e ds _ h2)
  | .tuple ds, _, h => by
    cases h with
    | tup h1 h2 => exact .tup (SqT.ext h1 e) (dpAll_same e ds _ h2)
  | .dict _, _, h => by cases h
theorem dpAll_same (e : Same H H') : ∀ (ds : List PyData) (vs : List V), DpAll K H vs ds → DpAll K H' vs ds
  | [], _, h => by cases h; exact .nil
  | d :: ds, _, h => by
    cases h with
    | cons h1 h2 => exact .cons (dp_same e d _ h1) (dpAll_same e ds _ h2)
end
theorem rp_free {v : V} {d : PyData} (h : Dp K H v d) : Rp K Free d v H := fun H' g => dp_same g.free d v h
theorem dpAll_get {ds : List PyData} : ∀ {xs : List V} {i : Nat} {x : V}, DpAll K H xs ds → xs[i]? = some x → ∃ d, ds[i]? = some d ∧ Dp K H x d := by
  induction ds with
  | nil => intro xs i x h e; cases h; simp at e
  | cons d ds ih =>
    intro xs i x h e
    cases h with
    | cons h1 h2 =>
      cases i with
      | zero => simp at e; subst e; exact ⟨d, rfl, h1⟩
      | succ i => exact ih h2 (by simpa using e)
theorem dp_tup {v : V} {ds : List PyData} (h : Dp K H v (.tuple ds)) : ∃ a xs, v = .ref a ∧ SqT K H a xs ∧ DpAll K H xs ds := by
  cases h with
  | tup h1 h2 => exact ⟨_, _, rfl, h1, h2⟩
theorem dp_lst {v : V} {ds : List PyData} (h : Dp K H v (.list ds)) : ∃ a xs, v = .ref a ∧ SqL K H a xs ∧ DpAll K H xs ds := by
  cases h with
  | lst h1 h2 => exact ⟨_, _, rfl, h1, h2⟩
theorem dp_str {v : V} {z : Str} (h : Dp K H v (.str z)) : v = .str z := by cases h; rfl
theorem dp_int {v : V} {i : Int} (h : Dp K H v (.int i)) : v = .int i := by cases h; rfl
theorem dp_bool {v : V} {b : Bool} (h : Dp K H v (.bool b)) : v = .bl b := by cases h; rfl
theorem al_free {φ : Hp → Prop} (h : ∀ H', Same H H' → φ H') : Al Free φ H := fun H' g => h H' g.free
end
end Fk

/-! Forkpolls: what rows are. -/
namespace Fk
open PySem PySem.Spec PyProof.Rows L2
inductive RowD where
  | step (kind old then_ : Str) (add : Int)
  | join (here there then_ : Str) (add : Int)
  | part (old left right : Str) (add more : Int)
def numS (i : Int) : Str := (toString i : String)
def RowD.words : RowD → List Str
  | .step k o t a => [k, o, "to", t, "by", numS a]
  | .join h o t a => ["join", h, o, "to", t, "by", numS a]
  | .part o l r a m => ["part", o, "to", l, r, "by", numS a, numS m]
def RowD.text (r : RowD) : Str := Txt.join " " r.words
def RowD.flds (t : Addr) : RowD → List (Str × V)
  | .step k o n a => [("words", .ref t), ("kind", .str k), ("old", .str o), ("then", .str n), ("add", .int a)]
  | .join h o n a => [("words", .ref t), ("here", .str h), ("there", .str o), ("then", .str n), ("add", .int a)]
  | .part o l r a m => [("words", .ref t), ("old", .str o), ("left", .str l), ("right", .str r), ("add", .int a), ("more", .int m)]
def kindsV : List V := [.str "yes", .str "no", .str "late yes", .str "late no", .str "word", .str "strike", .str "back", .str "cut"]
def nameOr (z : Str) (ws : List V) : Bool := nameS z || inV (.str z) ws
def addOk (i : Int) : Bool := decide (-3 ≤ i) && decide (i ≤ 3)
def RowD.ok : RowD → Bool
  | .step k o t a => inV (.str k) kindsV && nameOr o [.str "any"] && nameOr t [.str "same"] && addOk a
  | .join h o t a => nameOr h [.str "any"] && nameOr o [.str "any"] && nameOr t [.str "one", .str "other"] && addOk a
  | .part o l r a m => nameOr o [.str "any"] && nameOr l [.str "same"] && nameOr r [.str "same"] && addOk a && addOk m
/-- texts of its parts are short -/
def RowD.small : RowD → Prop
  | .step k o t _ => k.length ≤ 1000 ∧ o.length ≤ 1000 ∧ t.length ≤ 1000
  | .join h o t _ => h.length ≤ 1000 ∧ o.length ≤ 1000 ∧ t.length ≤ 1000
  | .part o l r _ _ => o.length ≤ 1000 ∧ l.length ≤ 1000 ∧ r.length ≤ 1000
section
variable {K : PySem.W.Frag} {R : Res} {σ : L2.St} {H : Hp} {ta tb te : TE}
theorem ev_tupU {t : TA} {vs : List V} (h : EvA R t σ H (vs.map Is)) (hl : vs.length ≤ 1000) : EvP R (tTup t) σ H (IsU K R vs) := ev_imp (ev_tupV h hl) fun u H' _ ⟨p, e, hp, hd⟩ => e ▸ isU_of hp hd
theorem add_log {a : Int} (h : addOk a = true) : a.natAbs.log2 < 1920 := by
  obtain ⟨h1, h2⟩ := Bool.and_eq_true_iff.mp h
  have h1' : -3 ≤ a := of_decide_eq_true h1
  have h2' : a ≤ 3 := of_decide_eq_true h2
  have : a.natAbs ≤ 3 := by omega
  have h3 : a.natAbs.log2 ≤ 3 := Nat.le_trans (Nat.log2_le_self _) this
  omega
theorem psOk_2 {x : V} {P : VP} {vs : List V} (h : PsOk [Is x, P] vs H) : ∃ v, vs = [x, v] ∧ P v H := by
  match vs, h with
  | [a, b], ⟨e1, e2, _⟩ => cases e1; exact ⟨b, rfl, e2⟩
/-- a new tuple of these -/
def TupN (R : Res) (vs : List V) : VP := fun u H => ∃ p, u = .ref p ∧ H p = some (.tup vs) ∧ (p ∉ R.D ∧ p ∉ R.h)
theorem stb_tupN {vs : List V} : Stb R (TupN R vs) := fun _ _ _ g ⟨p, e, h, hd⟩ => ⟨p, e, g.2 p _ h hd.1 hd.2, hd⟩
theorem ev_tupN {t : TA} {vs : List V} (h : EvA R t σ H (vs.map Is)) (hl : vs.length ≤ 1000) : EvP R (tTup t) σ H (TupN R vs) := ev_tupV h hl
/-- a new tuple of these, new at H0, too -/
def TupW (R : Res) (H0 : Hp) (vs : List V) : VP := fun u H => ∃ p, u = .ref p ∧ H p = some (.tup vs) ∧ (p ∉ R.D ∧ p ∉ R.h) ∧ H0 p = none
theorem stb_tupW {H0 : Hp} {vs : List V} : Stb R (TupW R H0 vs) := fun _ _ _ g ⟨p, e, h, hd, hn⟩ => ⟨p, e, g.2 p _ h hd.1 hd.2, hd, hn⟩
theorem ev_tupW {t : TA} {vs : List V} (h : EvA R t σ H (vs.map Is)) (hl : vs.length ≤ 1000) : EvP R (tTup t) σ H (TupW R H vs) := fun H1 g Q q =>
  h H1 g _ fun xs H2 g2 ps => by
    cases psIs ps
    exact ⟨small hl, fun p hp => q _ _ (g2.trans (Gv.new g2.1.1 hp)) ⟨p, rfl, upd_same, off g2.1.1 hp, (g.trans g2).back hp⟩⟩
theorem s_off {t : TA} {C : Addr} {sp : Sp} {E : XK} {D : Ends} {Ps : List VP} {Hc : Hp} (h : EvA R t σ H Ps) (g : Gr R H Hc) (k : ∀ vs H2, Gr R H H2 → Gv R Hc H2 → PsOk Ps vs H2 → sp vs H2 (fun _ H3 => D.nx σ H3) E) : tDrop (tOff C sp E (tC (.ref C)) t) D σ Hc :=
  ⟨rfl, h Hc g _ fun vs H2 g2 ps => k vs H2 (g.trans g2) g2 ps⟩
/-- self.f = a slot's value -/
theorem s_fld {D : Ends} {i : Nat} {f : Str} {a C dx : Addr} {fs : List (Str × V)} {v : V} (h0 : σ[0]? = some (some (.ref a))) (hi : σ[i]? = some (some v)) (ha : H a = some (.ins C dx fs)) (hc : Cls K C) (hn : NoAttr K C f) (hl : fs.length < 1000) (k : D.nx σ (upd H a (.ins C dx (putF f v fs)))) :
    sFld K (tVar 0) (tVar i) f D σ H := ⟨v, hi, .ref a, h0, a, C, dx, fs, rfl, ha, hc, hn, hl, k⟩
theorem ev_fld {a C dx : Addr} {fs : List (Str × V)} {v : V} {f : Str} (h : EvP R te σ H (Is (.ref a))) (ha : Al R (fun H' => H' a = some (.ins C dx fs)) H) (hc : Cls K C) (hn : NoAttr K C f) (hl : fs.lookup f = some v) : EvP R (tFld K te f) σ H (Is v) := fun H1 g Q q =>
  h H1 g _ fun u H2 g2 e => ⟨a, C, dx, fs, v, e, ha H2 (g.trans g2), hc, hn, hl, q v H2 g2 rfl⟩
abbrev rJoin (K : PySem.W.Frag) : V → List V → Hp → VK → Prop := fun x xs H Q => ∃ a p, ∃ ys : List Str, x = .str a ∧ xs = [.ref p] ∧ (SqL K H p (ys.map V.str) ∨ SqT K H p (ys.map V.str)) ∧ (ys.map (·.length)).sum + ys.length * a.length ≤ 16777216 ∧ Q (.str (Txt.join a ys)) H
theorem ev_join {z : Str} {ys : List Str} (ho : EvP R te σ H (Is (.str z))) (h : EvP R ta σ H (fun u H => ∃ p, u = .ref p ∧ (SqL K H p (ys.map V.str) ∨ SqT K H p (ys.map V.str)))) (hz : (ys.map (·.length)).sum + ys.length * z.length ≤ 16777216) :
    EvP R (tBM K "str" (rJoin K) te (tCons ta tNil)) σ H (Is (.str (Txt.join z ys))) := fun H1 g Q q =>
  ho H1 g _ fun x H2 g2 e => by
    cases e
    exact ⟨rfl, h H2 (g.trans g2) _ fun u H3 g3 ⟨p, e, hp⟩ => ⟨z, p, ys, rfl, by rw [e], hp, hz, q _ H3 (g2.trans g3) rfl⟩⟩
theorem dec_str' {a b : Str} : decide (V.str a = V.str b) = decide (a = b) := by
  by_cases h : a = b
  · subst h; simp
  · rw [decide_eq_false h, decide_eq_false (fun e => h (V.str.inj e))]
/-- a row as it may be made -/
def RowD.good (r : RowD) : Prop := r.ok = true ∧ r.small
theorem numS_len {a : Int} (h : addOk a = true) : (numS a).length ≤ 2 := by
  obtain ⟨h1, h2⟩ := Bool.and_eq_true_iff.mp h
  have h1' : -3 ≤ a := of_decide_eq_true h1
  have h2' : a ≤ 3 := of_decide_eq_true h2
  have : a = -3 ∨ a = -2 ∨ a = -1 ∨ a = 0 ∨ a = 1 ∨ a = 2 ∨ a = 3 := by omega
  rcases this with rfl | rfl | rfl | rfl | rfl | rfl | rfl <;> decide +kernel
theorem words_fit {r : RowD} (h : r.good) : (r.words.map (·.length)).sum + r.words.length * (" " : Str).length ≤ 16777216 := by
  obtain ⟨ok, sm⟩ := h
  have l1 : ("to" : Str).length = 2 := rfl
  have l2 : ("by" : Str).length = 2 := rfl
  have l3 : ("join" : Str).length = 4 := rfl
  have l4 : ("part" : Str).length = 4 := rfl
  have l5 : (" " : Str).length = 1 := rfl
  cases r with
  | step k o t a =>
    have la := numS_len (Bool.and_eq_true_iff.mp ok).2
    obtain ⟨s1, s2, s3⟩ := sm
    simp only [RowD.words, List.map_cons, List.map_nil, List.sum_cons, List.sum_nil, List.length_cons, List.length_nil, l1, l2, l5]
    omega
  | join k o t a =>
    have la := numS_len (Bool.and_eq_true_iff.mp ok).2
    obtain ⟨s1, s2, s3⟩ := sm
    simp only [RowD.words, List.map_cons, List.map_nil, List.sum_cons, List.sum_nil, List.length_cons, List.length_nil, l1, l2, l3, l5]
    omega
  | part o l r a m =>
    obtain ⟨ok2, okm⟩ := Bool.and_eq_true_iff.mp ok
    have la := numS_len (Bool.and_eq_true_iff.mp ok2).2
    have lm := numS_len okm
    obtain ⟨s1, s2, s3⟩ := sm
    simp only [RowD.words, List.map_cons, List.map_nil, List.sum_cons, List.sum_nil, List.length_cons, List.length_nil, l1, l2, l4, l5]
    omega
end
end Fk

/-! Forkpolls: the source of draws, a list [cells, number] that changes at each draw. -/
namespace Fk
open PySem PySem.Spec PyProof.Rows L2
/-- the list at a holds the list at b and a number -/
def DealAt (a b : Addr) (cs : List Int) (m : Int) (H : Hp) : Prop := H a = some (.lst [.ref b, .int m]) ∧ H b = some (.lst (cs.map V.int)) ∧ (∀ c, c ∈ cs → 0 ≤ c) ∧ cs.length ≤ 64 ∧ 0 ≤ m ∧ m < 2147483647
def DealJ (a b : Addr) (H : Hp) : Prop := ∃ cs m, DealAt a b cs m H
theorem DealAt.ne {a b : Addr} {cs : List Int} {m : Int} {H : Hp} (h : DealAt a b cs m H) : a ≠ b := fun e => by
  obtain ⟨h1, h2, _⟩ := h
  rw [e, h2] at h1
  have h3 := HO.lst.inj (Option.some.inj h1)
  cases cs with
  | nil => cases h3
  | cons c cs => exact nomatch (List.cons.inj h3).1
/-- all but the source stands -/
def Rest (a b : Addr) (H H' : Hp) : Prop := ∀ x o, x ≠ a → x ≠ b → H x = some o → H' x = some o
theorem Rest.refl {a b : Addr} (H : Hp) : Rest a b H H := fun _ _ _ _ e => e
theorem Rest.trans {a b : Addr} {H H1 H2 : Hp} (x : Rest a b H H1) (y : Rest a b H1 H2) : Rest a b H H2 := fun c o n m e => y c o n m (x c o n m e)
theorem Rest.same {a b : Addr} {H H' : Hp} (e : Same H H') : Rest a b H H' := fun c o _ _ h => e c o h
/-- R's changing objects are the source's -/
structure IsDeal (R : Res) (a b : Addr) : Prop where
  d : R.D = [a, b]
  j : ∀ H, R.J H ↔ DealJ a b H ∧ ∀ x, x ∈ R.h → H x ≠ none
  n : ∀ x, x ∈ R.h → x ≠ a ∧ x ≠ b
def DealR (a b : Addr) : Res where
  D := [a, b]
  h := []
  J := DealJ a b
  at_ := fun H j x hx => by
    obtain ⟨cs, m, h1, h2, _⟩ := j
    rcases hx with h | h
    · rcases List.mem_cons.mp h with e | e
      · rw [e, h1]; exact fun z => nomatch z
      · rw [List.mem_singleton.mp e, h2]; exact fun z => nomatch z
    · exact absurd h List.not_mem_nil
  st := fun H H' j k _ => by
    obtain ⟨cs, m, h1, h2, h3⟩ := j
    exact ⟨cs, m, by rw [k a (by simp), h1], by rw [k b (by simp), h2], h3⟩
theorem isDeal_R {a b : Addr} : IsDeal (DealR a b) a b := ⟨rfl, fun H => ⟨fun h => ⟨h, fun x hx => absurd hx List.not_mem_nil⟩, fun h => h.1⟩, fun x hx => absurd hx List.not_mem_nil⟩
section
variable {R : Res} {a b p : Addr} {H H' H1 : Hp}
theorem IsDeal.add (h : IsDeal R a b) (hp : p ≠ a ∧ p ≠ b) : IsDeal (R.add p) a b where
  d := h.d
  j := fun H => by
    constructor
    · rintro ⟨j, n⟩
      refine ⟨((h.j H).mp j).1, fun x hx => ?_⟩
      rcases List.mem_cons.mp hx with e | e
      · rw [e]; exact n
      · exact ((h.j H).mp j).2 x e
    · rintro ⟨j, n⟩
      exact ⟨(h.j H).mpr ⟨j, fun x hx => n x (List.mem_cons_of_mem _ hx)⟩, n p List.mem_cons_self⟩
  n := fun x hx => by
    rcases List.mem_cons.mp hx with e | e
    · rw [e]; exact hp
    · exact h.n x e
theorem IsDeal.off (h : IsDeal R a b) (j : R.J H) (hp : H p = none) : p ≠ a ∧ p ≠ b := by
  obtain ⟨⟨cs, m, h1, h2, _⟩, _⟩ := (h.j H).mp j
  exact ⟨fun e => (by rw [e, h1] at hp; exact nomatch hp), fun e => (by rw [e, h2] at hp; exact nomatch hp)⟩
theorem IsDeal.gv (h : IsDeal R a b) (j : R.J H) (d : DealJ a b H') (r : Rest a b H H') : Gv R H H' := by
  have hh : ∀ x, x ∈ R.h → H' x = H x := fun x hx => by
    obtain ⟨n1, n2⟩ := h.n x hx
    cases q : H x with
    | none => exact absurd q (R.at_ H j x (.inr hx))
    | some o => exact r x o n1 n2 q
  refine ⟨⟨(h.j H').mpr ⟨d, fun x hx => by rw [hh x hx]; exact R.at_ H j x (.inr hx)⟩, fun x o e n _ => ?_⟩, hh⟩
  rw [h.d] at n
  exact r x o (fun e => n (by simp [e])) (fun e => n (by simp [e])) e
theorem Gr.rest (h : IsDeal R a b) (hn : R.h = []) (g : Gr R H H') : Rest a b H H' := fun x o n1 n2 e => g.2 x o e (by rw [h.d]; simp [n1, n2]) (by rw [hn]; exact List.not_mem_nil)
end
/-! ### more of reading -/
section
variable {K : PySem.W.Frag} {R : Res} {σ : L2.St} {H Hc : Hp} {ta tb te : TE} {t : TT} {D : Ends} {tu : TS} {v : V}
theorem ev_ixL {xs : List V} {i : Int} (ha : EvP R ta σ H (IsL K R xs)) (hb : EvP R tb σ H (Is (.int i))) (hx : atI xs i = some v) : EvP R (tOp (rIxL K) ta tb) σ H (Is v) := ev_op stb_isL ha hb fun x y H1 g ⟨p, e, h⟩ hy Q q => by
  cases hy
  exact ⟨p, xs, i, v, e, rfl, h.now g.1, hx, q v H1 g.at rfl⟩
theorem ev_ixT {xs : List V} {i : Int} (ha : EvP R ta σ H (IsU K R xs)) (hb : EvP R tb σ H (Is (.int i))) (hx : atI xs i = some v) : EvP R (tOp (rIxT K) ta tb) σ H (Is v) := ev_op stb_isU ha hb fun x y H1 g ⟨p, e, h⟩ hy Q q => by
  cases hy
  exact ⟨p, xs, i, v, e, rfl, h.now g.1, hx, q v H1 g.at rfl⟩
theorem ev_varL {i : Nat} {p : Addr} {xs : List V} (h : σ[i]? = some (some (.ref p))) (hp : Al R (fun H' => SqL K H' p xs) H) : EvP R (tVar i) σ H (IsL K R xs) := ev_var h fun H' g => ⟨p, rfl, Al.gr g hp⟩
theorem al_lst {p : Addr} {xs : List V} (h : H p = some (.lst xs)) (hd : p ∉ R.D ∧ p ∉ R.h) : Al R (fun H' => SqL K H' p xs) H := fun H' g => .inl (.inl (g.2 p _ h hd.1 hd.2))
theorem al_tup {p : Addr} {xs : List V} (h : H p = some (.tup xs)) (hd : p ∉ R.D ∧ p ∉ R.h) : Al R (fun H' => SqT K H' p xs) H := fun H' g => .inl (.inl (g.2 p _ h hd.1 hd.2))
theorem ev_int1 {i : Int} (ha : EvP R ta σ H (Is (.int i))) : EvP R (tCB (fun xs H Q => (∃ i, xs = [.int i] ∧ Q (.int i) H) ∨ ∃ k, xs = [.bl k] ∧ Q (.int (if k then 1 else 0)) H) (tCons ta tNil)) σ H (Is (.int i)) := ev_cb (ea_is ha ea_nil) fun vs H1 g ps Q q => by
  cases psOk1 ps
  exact .inl ⟨i, rfl, q _ H1 g.at rfl⟩
theorem ev_abs {i : Int} (ha : EvP R ta σ H (Is (.int i))) : EvP R (tCB (fun xs H Q => ∃ i, xs = [.int i] ∧ Q (.int (if i < 0 then -i else i)) H) (tCons ta tNil)) σ H (Is (.int (if i < 0 then -i else i))) := ev_cb (ea_is ha ea_nil) fun vs H1 g ps Q q => by
  cases psOk1 ps
  exact ⟨i, rfl, q _ H1 g.at rfl⟩
theorem s_while (W : Nat → L2.St → Hp → Prop) (m0 : Nat) (h0 : W m0 σ Hc)
    (hs : ∀ m σ' H', W m σ' H' → ∃ b, EvT R t σ' H' b ∧ Gr R H' H' ∧ (b = true → ∀ H1, Gv R H' H1 → ∃ N : L2.St → Hp → Prop, (∀ σ2 H2, N σ2 H2 → ∃ m', m' < m ∧ W m' σ2 H2) ∧ tu { D with nx := N, ct := N, bk := D.nx } σ' H1) ∧ (b = false → ∀ H1, Gv R H' H1 → D.nx σ' H1)) : tWhile t tu D σ Hc :=
  ⟨W, ⟨m0, h0⟩, fun m σ' H' hw => by
    obtain ⟨b, hb, g, h1, h2⟩ := hs m σ' H' hw
    refine hb H' g _ fun H1 g1 => ?_
    cases b with
    | true => exact (if_pos rfl).mpr (h1 rfl H1 g1)
    | false => exact (if_neg Bool.false_ne_true).mpr (h2 rfl H1 g1)⟩
end
/-! ### data of ints -/
def dInts (cs : List Int) : PyData := .list (cs.map PyData.int)
theorem eqv_nilI (cs : List Int) : PyData.eqv (dInts cs) (.list []) = cs.isEmpty := by cases cs <;> rfl
theorem dpAll_ints {K : PySem.W.Frag} {H : Hp} : ∀ cs : List Int, DpAll K H (cs.map V.int) (cs.map PyData.int)
  | [] => .nil
  | c :: cs => .cons (.int c) (dpAll_ints cs)
theorem canLay_ints : ∀ cs : List Int, PyData.canLayAll0 (cs.map PyData.int) = true
  | [] => rfl
  | c :: cs => by
    show (PyData.canLay0 (.int c) && PyData.canLayAll0 (cs.map PyData.int)) = true
    rw [canLay_ints cs]
    rfl
theorem depth_ints : ∀ cs : List Int, (dInts cs).depth ≤ 1
  | [] => by decide
  | c :: cs => by
    have ih := depth_ints cs
    simp only [dInts, List.map_cons, PyData.depth, PyData.depthAll] at ih ⊢
    omega
theorem shaped_ints (cs : List Int) : SeqAt.shaped (dInts cs) = true := by
  have h1 : (dInts cs).canLay0 = true := canLay_ints cs
  have h2 := depth_ints cs
  unfold SeqAt.shaped
  rw [h1, decide_eq_true (by omega)]
  rfl
theorem rp_ints {K : PySem.W.Frag} {R : Res} {H : Hp} {p : Addr} {cs : List Int} (h : Al R (fun H' => SqL K H' p (cs.map V.int)) H) : Rp K R (dInts cs) (.ref p) H := fun H' g => .lst (h H' g) (dpAll_ints cs)
end Fk

/-! Forkpolls: lists and tuples of one's own, counted, cut, put together; calls that draw. -/
namespace Fk
open PySem PySem.Spec PyProof.Rows L2
/-! ### list.count of bools -/
def eqb (k : Bool) (v : Value) : Bool := match v with
  | .bool b => b == k
  | _ => false
theorem vals_bools : ∀ {bs : List Bool} {us : List Value}, Vals (bs.map V.bl) us → us = bs.map Value.bool
  | [], _, h => by cases h; rfl
  | b :: bs, _, h => by
    cases h with
    | cons h1 h2 =>
      have ih := vals_bools h2
      cases h1
      rw [ih]
      rfl
theorem eqb_count (k : Bool) : ∀ bs : List Bool, (bs.map Value.bool).countP (eqb k) = bs.count k
  | [] => rfl
  | b :: bs => by
    have ih := eqb_count k bs
    rw [List.map_cons, List.countP_cons, List.count_cons, ih] <;> rfl
section
variable {X : Cx}
def rCntB (K : PySem.W.Frag) : V → List V → Hp → VK → Prop := fun x xs H Q => ∃ (p : Addr) (bs : List Bool) (k : Bool), x = .ref p ∧ xs = [.bl k] ∧ SqL K H p (bs.map V.bl) ∧ Q (.int (bs.count k : Nat)) H
theorem mt_lcountB : MtR X "list.count" (rCntB X.K) := by
  intro pins s σ H x xs v us Q I rx rxs h
  obtain ⟨p, bs, k, rfl, rfl, hs, q⟩ := h
  cases rx
  obtain ⟨u, rfl, ru⟩ := rxs.one
  cases ru
  obtain ⟨its, rv, ⟨⟨cls, dd, data, sl⟩, n, ho, hc, hdn, hd⟩, hlen⟩ := I.list hs
  simp only at hc hd
  subst hc hd
  have hi := vals_bools rv
  refine call_meets PySem.F.slot_list_count ⟨_, ho, rfl⟩ PySem.F.entry_list_count (PySem.F.args_list_count_2 _ _)
    (SeqAt.list_countAt p its.toArray n dd sl (.bool k) (eqb k)) ⟨ho, fun y hy => ?_, ?_⟩
  · have hy' : y ∈ its := by simpa using hy
    rw [hi] at hy'
    obtain ⟨b, _, rfl⟩ := List.mem_map.mp hy'
    exact SeqAt.EqAt.bool_bool b k
  · have ec : its.toArray.toList.countP (eqb k) = bs.count k := by rw [← eqb_count k bs, ← hi]
    refine ⟨.int (bs.count k : Nat), H, I.tok _, ⟨s.toks, ?_⟩, q⟩
    show Value.int ((its.toArray.toList.countP (eqb k) : Nat) : Int) s.toks = Value.int ((bs.count k : Nat) : Int) s.toks
    rw [ec]
end
/-! ### lists and tuples of one's own -/
def LstN (R : Res) (vs : List V) : VP := fun u H => ∃ p, u = .ref p ∧ H p = some (.lst vs) ∧ (p ∉ R.D ∧ p ∉ R.h)
section
variable {K : PySem.W.Frag} {R : Res} {σ : L2.St} {H Hc : Hp} {ta tb te tl : TE} {to1 to2 : TO} {t : TA} {xs ys vs : List V} {v : V}
theorem stb_lstN : Stb R (LstN R vs) := fun _ _ _ g ⟨p, e, h, hd⟩ => ⟨p, e, g.2 p _ h hd.1 hd.2, hd⟩
theorem lstN_L {u : V} (h : LstN R vs u H) : IsL K R vs u H := let ⟨_, e, hp, hd⟩ := h; e ▸ isL_of hp hd
theorem tupN_U {u : V} (h : TupN R vs u H) : IsU K R vs u H := let ⟨_, e, hp, hd⟩ := h; e ▸ isU_of hp hd
theorem ev_L (h : EvP R te σ H (LstN R vs)) : EvP R te σ H (IsL K R vs) := ev_imp h fun _ _ _ e => lstN_L e
theorem ev_U (h : EvP R te σ H (TupN R vs)) : EvP R te σ H (IsU K R vs) := ev_imp h fun _ _ _ e => tupN_U e
theorem ev_lstN (h : EvA R t σ H (vs.map Is)) (hl : vs.length ≤ 1000) : EvP R (tLst t) σ H (LstN R vs) := ev_lstV h hl
theorem ev_varLN {i : Nat} {p : Addr} (h : σ[i]? = some (some (.ref p))) (hp : H p = some (.lst vs)) (hd : p ∉ R.D ∧ p ∉ R.h) : EvP R (tVar i) σ H (LstN R vs) := ev_var h fun H' g => ⟨p, rfl, g.2 p _ hp hd.1 hd.2, hd⟩
theorem ev_varTN {i : Nat} {p : Addr} (h : σ[i]? = some (some (.ref p))) (hp : H p = some (.tup vs)) (hd : p ∉ R.D ∧ p ∉ R.h) : EvP R (tVar i) σ H (TupN R vs) := ev_var h fun H' g => ⟨p, rfl, g.2 p _ hp hd.1 hd.2, hd⟩
theorem ev_cat (ha : EvP R ta σ H (LstN R xs)) (hb : EvP R tb σ H (LstN R ys)) (hl : xs.length + ys.length ≤ 1000) : EvP R (tOp rCat ta tb) σ H (LstN R (xs ++ ys)) :=
  ev_op stb_lstN ha hb fun x y H1 g ⟨p, e1, h1, _⟩ ⟨p2, e2, h2, _⟩ Q q => ⟨p, p2, xs, ys, e1, e2, h1, h2, small hl, fun l hl' => q _ _ (Gv.new g.1 hl') ⟨l, rfl, upd_same, off g.1 hl'⟩⟩
theorem ev_catA (ha : EvP R ta σ H (TupN R xs)) (hb : EvP R tb σ H (TupN R ys)) (hl : xs.length + ys.length ≤ 1000) : EvP R (tOp (rCatA K) ta tb) σ H (TupN R (xs ++ ys)) :=
  ev_op stb_tupN ha hb fun x y H1 g ⟨p, e1, h1, d1⟩ ⟨p2, e2, h2, d2⟩ Q q => ⟨p, p2, xs, ys, e1, e2, .inl (.inl h1), .inl (.inl h2), small hl,
    fun e => q _ _ (Gv.refl g.1) ⟨p2, rfl, by rw [e]; exact h2, d2⟩, fun _ e => q _ _ (Gv.refl g.1) ⟨p, rfl, by rw [e, List.append_nil]; exact h1, d1⟩, fun _ _ l hl' => q _ _ (Gv.new g.1 hl') ⟨l, rfl, upd_same, off g.1 hl'⟩⟩
theorem eo_none : EvO R tNoPart σ H none := fun H1 g Q q => q H1 g.at
theorem eo_some {i : Int} (h : EvP R te σ H (Is (.int i))) : EvO R (tPart te) σ H (some i) := fun H1 g Q q => h H1 g _ fun v H2 g2 e => ⟨i, e, q H2 g2⟩
theorem cut_whole {lo hi : Option Int} (h : HT.sIx xs.length 0 lo = 0 ∧ HT.sIx xs.length xs.length hi = xs.length) : cutV xs lo hi = xs := by
  unfold cutV
  rw [h.1, h.2]
  simp
theorem ev_slA {lo hi : Option Int} (ha : EvP R ta σ H (TupN R xs)) (hl : EvO R to1 σ H lo) (hh : EvO R to2 σ H hi) : EvP R (tSl (rSlA K) ta to1 to2) σ H (TupN R (cutV xs lo hi)) := fun H0 g0 Q q =>
  ha H0 g0 _ fun x H1 g1 px => hl H1 (g0.trans g1) _ fun H2 g2 => hh H2 (g0.trans (g1.trans g2)) _ fun H3 g3 => by
    obtain ⟨p, e, h, hd⟩ := stb_tupN x _ _ (g2.trans g3).1 px
    refine ⟨p, xs, e, .inl (.inl h), fun w => q _ _ (g1.trans (g2.trans g3)) ⟨p, rfl, by rw [cut_whole w]; exact h, hd⟩, fun _ l hl' => q _ _ ((g1.trans (g2.trans g3)).trans (Gv.new g3.1.1 hl')) ⟨l, rfl, upd_same, off g3.1.1 hl'⟩⟩
theorem ev_slL {lo hi : Option Int} (ha : EvP R ta σ H (IsL K R xs)) (hl : EvO R to1 σ H lo) (hh : EvO R to2 σ H hi) : EvP R (tSl (rSlL K) ta to1 to2) σ H (LstN R (cutV xs lo hi)) := fun H0 g0 Q q =>
  ha H0 g0 _ fun x H1 g1 px => hl H1 (g0.trans g1) _ fun H2 g2 => hh H2 (g0.trans (g1.trans g2)) _ fun H3 g3 => by
    obtain ⟨p, e, h⟩ := stb_isL x _ _ (g2.trans g3).1 px
    exact ⟨p, xs, e, h.now g3.1.1, fun l hl' => q _ _ ((g1.trans (g2.trans g3)).trans (Gv.new g3.1.1 hl')) ⟨l, rfl, upd_same, off g3.1.1 hl'⟩⟩
theorem ev_slE {φ : List V → Prop} {lo hi : Option Int} (ha : EvP R ta σ H (fun u H => ∃ xs, φ xs ∧ LstN R xs u H)) (hl : EvO R to1 σ H lo) (hh : EvO R to2 σ H hi) : EvP R (tSl (rSlL K) ta to1 to2) σ H (fun u H => ∃ xs, φ xs ∧ LstN R (cutV xs lo hi) u H) := fun H0 g0 Q q =>
  ha H0 g0 _ fun x H1 g1 ⟨xs, f, px⟩ => hl H1 (g0.trans g1) _ fun H2 g2 => hh H2 (g0.trans (g1.trans g2)) _ fun H3 g3 => by
    obtain ⟨p, e, h, _⟩ := stb_lstN x _ _ (g2.trans g3).1 px
    exact ⟨p, xs, e, .inl (.inl h), fun l hl' => q _ _ ((g1.trans (g2.trans g3)).trans (Gv.new g3.1.1 hl')) ⟨xs, f, l, rfl, upd_same, off g3.1.1 hl'⟩⟩
theorem ev_revL (ha : EvP R ta σ H (IsL K R xs)) : EvP R (tRevL K ta) σ H (LstN R xs.reverse) := fun H0 g0 Q q =>
  ha H0 g0 _ fun x H1 g1 ⟨p, e, h⟩ => ⟨p, xs, e, h.now g1.1.1, fun l hl' => q _ _ (g1.trans (Gv.new g1.1.1 hl')) ⟨l, rfl, upd_same, off g1.1.1 hl'⟩⟩
theorem ev_cntB {bs : List Bool} {k : Bool} (ho : EvP R te σ H (LstN R (bs.map V.bl))) (htk : EvP R ta σ H (Is (.bl k))) : EvP R (tBM K "list" (rCntB K) te (tCons ta tNil)) σ H (Is (.int (bs.count k : Nat))) := fun H0 g0 Q q =>
  ho H0 g0 _ fun x H1 g1 hx => by
    obtain ⟨p, e, h, hd⟩ := hx
    cases e
    refine ⟨.inl ⟨rfl, _, .inl (.inl h)⟩, htk H1 (g0.trans g1) _ fun u H2 g2 ek => ?_⟩
    cases ek
    exact ⟨p, bs, k, rfl, rfl, .inl (.inl (g2.1.2 p _ h hd.1 hd.2)), q _ H2 (g1.trans g2) rfl⟩
theorem ew_zip {n : Nat} (h : EvA R t σ H [IsL K R xs, IsL K R ys]) (hn : n = min xs.length ys.length) : EvW R (iZip K t) σ H n (YPair (fun i => xs[i]?) (fun i => ys[i]?)) := fun H1 a Z k => h H1 a _ fun us H2 a2 ps => by
  match us, ps with
  | [u1, u2], ⟨⟨p, e1, h1⟩, ⟨p2, e2, h2⟩, _⟩ =>
    cases e1; cases e2
    exact ⟨p, p2, xs, ys, rfl, h1.now a2.1.1, h2.now a2.1.1, k _ H2 (fun H => SqL K H p xs ∧ SqL K H p2 ys) a2 (walk_zip hn) fun H' g => ⟨h1 H' g, h2 H' g⟩⟩
theorem s_retL {D : Ends} {Ps : List VP} (h : EvA R t σ H Ps) (g : Gr R H Hc) (k : ∀ us H1, Gr R H H1 → PsOk Ps us H1 → us.length ≤ 1000 ∧ ∀ p, H1 p = none → D.rt (.ref p) (upd H1 p (.lst us))) : tRet (tLst t) D σ Hc := h Hc g _ fun us H1 g1 ps => ⟨small (k us H1 (g.trans g1) ps).1, (k us H1 (g.trans g1) ps).2⟩
theorem s_retT {D : Ends} {Ps : List VP} (h : EvA R t σ H Ps) (g : Gr R H Hc) (k : ∀ us H1, Gr R H H1 → PsOk Ps us H1 → us.length ≤ 1000 ∧ ∀ p, H1 p = none → D.rt (.ref p) (upd H1 p (.tup us))) : tRet (tTup t) D σ Hc := h Hc g _ fun us H1 g1 ps => ⟨small (k us H1 (g.trans g1) ps).1, (k us H1 (g.trans g1) ps).2⟩
theorem s_par {D : Ends} {i j : Nat} {P1 P2 : VP} (h : EvA R t σ H [P1, P2]) (g : Gr R H Hc) (k : ∀ v u H1, Gr R H H1 → Gv R Hc H1 → P1 v H1 → P2 u H1 → D.nx ((σ.set i (some v)).set j (some u)) H1) : tPar i j t D σ Hc := h Hc g _ fun us H1 g1 ps => by
  match us, ps with
  | [v, u], ⟨p1, p2, _⟩ => exact ⟨v, u, rfl, k v u H1 (g.trans g1) g1 p1 p2⟩
theorem ev_listOf (h : EvP R ta σ H (fun u H => ∃ p, u = .ref p ∧ (SqL K H p xs ∨ SqT K H p xs))) : EvP R (tCB (fun us H Q => ∃ p zs, us = [.ref p] ∧ (SqL K H p zs ∨ SqT K H p zs) ∧ ∀ l, H l = none → Q (.ref l) (upd H l (.lst zs))) (tCons ta tNil)) σ H (LstN R xs) := fun H0 g0 Q q =>
  h H0 g0 _ fun x H1 g1 ⟨p, e, hp⟩ => ⟨p, xs, by rw [e], hp, fun l hl' => q _ _ (g1.trans (Gv.new g1.1.1 hl')) ⟨l, rfl, upd_same, off g1.1.1 hl'⟩⟩
/-- a call that draws -/
theorem ev_dc {a b : Addr} (I : IsDeal R a b) {sp : Sp} {E : XK} {Ps : List VP} {P : VP} (h : EvA R t σ H Ps)
    (hs : ∀ vs H1, Gr R H H1 → PsOk Ps vs H1 → DealJ a b H1 → ∀ Q : VK, (∀ v H2, DealJ a b H2 → Rest a b H1 H2 → P v H2 → Q v H2) → sp vs H1 Q E) : EvP R (tCall sp [] E t) σ H P :=
  ev_call h fun vs H1 g ps Q q => by
    rw [List.append_nil]
    exact hs vs H1 g ps ((I.j H1).mp g.1).1 Q fun v H2 d r p => q v H2 (I.gv g.1 d r) p
end
theorem deal_gr {a b : Addr} {H H' : Hp} (d : DealJ a b H') (r : Rest a b H H') : Gr (DealR a b) H H' := ⟨d, fun x o e n _ => r x o (fun z => n (by rw [z]; exact List.mem_cons_self)) (fun z => n (by rw [z]; exact List.mem_cons_of_mem _ List.mem_cons_self)) e⟩
theorem gr_deal {a b : Addr} {H H' : Hp} (g : Gr (DealR a b) H H') : DealJ a b H' ∧ Rest a b H H' := ⟨g.1, fun x o n1 n2 e => g.2 x o e (by show x ∉ [a, b]; simp [n1, n2]) List.not_mem_nil⟩
theorem off_deal {a b p : Addr} (n1 : p ≠ a) (n2 : p ≠ b) : p ∉ (DealR a b).D ∧ p ∉ (DealR a b).h := ⟨by show p ∉ [a, b]; simp [n1, n2], List.not_mem_nil⟩
theorem deal_off {a b p : Addr} (h : p ∉ (DealR a b).D ∧ p ∉ (DealR a b).h) : p ≠ a ∧ p ≠ b := by
  have h1 : p ∉ [a, b] := h.1
  simp at h1
  exact h1
theorem seq_ix {n : Nat} {i : Int} (h0 : 0 ≤ i) (h1 : i < (n : Int)) : seqIndex? i n = some i.toNat := by
  show (if (decide (0 ≤ (if i < 0 then i + (n : Int) else i)) && decide ((if i < 0 then i + (n : Int) else i) < (n : Int))) = true then some (if i < 0 then i + (n : Int) else i).toNat else none) = some i.toNat
  rw [if_neg (show ¬ i < 0 by omega), decide_eq_true h0, decide_eq_true h1]
  rfl
/-! ### data of texts -/
def dStrs (zs : List Str) : PyData := .list (zs.map PyData.str)
theorem eqv_nilS (zs : List Str) : PyData.eqv (dStrs zs) (.list []) = zs.isEmpty := by cases zs <;> rfl
theorem dpAll_strs {K : PySem.W.Frag} {H : Hp} : ∀ zs : List Str, DpAll K H (zs.map V.str) (zs.map PyData.str)
  | [] => .nil
  | z :: zs => .cons (.str z) (dpAll_strs zs)
theorem canLay_strs : ∀ zs : List Str, (∀ z, z ∈ zs → PyData.strOk z = true) → PyData.canLayAll0 (zs.map PyData.str) = true
  | [], _ => rfl
  | z :: zs, h => by
    show (PyData.strOk z && PyData.canLayAll0 (zs.map PyData.str)) = true
    rw [canLay_strs zs fun y hy => h y (List.mem_cons_of_mem _ hy), h z List.mem_cons_self]
    rfl
theorem depth_strs : ∀ zs : List Str, (dStrs zs).depth ≤ 1
  | [] => by decide
  | z :: zs => by
    have ih := depth_strs zs
    simp only [dStrs, List.map_cons, PyData.depth, PyData.depthAll] at ih ⊢
    omega
theorem shaped_strs (zs : List Str) (h : ∀ z, z ∈ zs → PyData.strOk z = true) : SeqAt.shaped (dStrs zs) = true := by
  have h1 : (dStrs zs).canLay0 = true := canLay_strs zs h
  have h2 := depth_strs zs
  unfold SeqAt.shaped
  rw [h1, decide_eq_true (by omega)]
  rfl
theorem ev_strsD {K : PySem.W.Frag} {R : Res} {σ : L2.St} {H : Hp} {te : TE} {zs : List Str} (h : EvP R te σ H (LstN R (zs.map V.str))) : EvP R te σ H (Rp K R (dStrs zs)) := ev_imp h fun u H' g ⟨p, e, hp, hd⟩ => e ▸ fun H2 g2 => .lst (.inl (.inl (g2.2 p _ hp hd.1 hd.2))) (dpAll_strs zs)
end Fk

/-! Forkpolls: for over range without a heap of facts; lists of things of which something is known. -/
namespace Fk
open PySem PySem.Spec PyProof.Rows L2
section
variable {K : PySem.W.Frag} {R : Res} {σ : L2.St} {H Hc H' : Hp} {ta tb te : TE} {t : TA} {P : VP} {Ps : List VP} {xs : List V}
theorem s_rng {tu : TS} {D : Ends} {g : TG} {m : Int} (h : EvA R t σ H [Is (.int m)]) (hm : 0 ≤ m ∧ m ≤ 100000) (gc : Gr R H Hc) (Pv : Nat → L2.St → Hp → Prop) (h0 : ∀ H1, Gr R H H1 → Gv R Hc H1 → Pv 0 σ H1)
    (hs : ∀ (i : Nat) σ' H', i < m.toNat → Pv i σ' H' → g (.int (i : Int)) σ' H' fun σ2 H3 => tu { D with nx := Pv (i + 1), ct := Pv (i + 1), bk := D.nx } σ2 H3) (he : ∀ σ' H', Pv m.toNat σ' H' → D.nx σ' H') :
    tFor (iRng1 t) g tu D σ Hc := h Hc gc _ fun vs H2 a2 ps => by
  have e := psOk1 ps
  refine ⟨m, e, by omega, by omega, ?_⟩
  refine for_it (walk_range (lo := 0) (n := m.toNat)) Pv (h0 H2 (gc.trans a2) a2) (fun _ _ _ _ _ => True.intro) (fun i x σ' H' H'' hi p y => ?_) he
  obtain ⟨y1, y2⟩ := y
  subst y1
  have y3 : x = .int (i : Int) := y2.trans (congrArg V.int (Int.zero_add _))
  subst y3
  exact hs i σ' _ hi p
theorem psOk_stb : ∀ {Ps : List VP} {xs : List V}, (∀ P, P ∈ Ps → Stb R P) → Gr R H H' → PsOk Ps xs H → PsOk Ps xs H'
  | [], [], _, _, _ => True.intro
  | P :: Ps, x :: xs, h, g, ⟨h1, h2⟩ => ⟨h P List.mem_cons_self x H H' g h1, psOk_stb (fun Q hQ => h Q (List.mem_cons_of_mem _ hQ)) g h2⟩
theorem psOk_get : ∀ {Ps : List VP} {xs : List V} {i : Nat} {P : VP}, PsOk Ps xs H → Ps[i]? = some P → ∃ x, xs[i]? = some x ∧ P x H
  | P :: Ps, x :: xs, 0, _, ⟨h1, _⟩, e => by
    cases e
    exact ⟨x, rfl, h1⟩
  | P :: Ps, x :: xs, i + 1, Q, ⟨_, h2⟩, e => psOk_get (Ps := Ps) (xs := xs) (i := i) h2 e
  | [], _, _, _, _, e => by simp at e
theorem psOk_ex {α β : Type} {φ : β → Prop} {S : β → VP} : ∀ {l : List α} {xs : List V}, PsOk (l.map fun _ => (fun u H => ∃ r, φ r ∧ S r u H)) xs H → ∃ rs : List β, rs.length = l.length ∧ (∀ r, r ∈ rs → φ r) ∧ PsOk (rs.map S) xs H
  | [], [], _ => ⟨[], rfl, fun _ h => absurd h List.not_mem_nil, True.intro⟩
  | _ :: l, x :: xs, ⟨⟨r, f, h1⟩, h2⟩ => by
    obtain ⟨rs, e, k, h⟩ := psOk_ex (l := l) h2
    refine ⟨r :: rs, congrArg Nat.succ e, fun s hs => ?_, h1, h⟩
    rcases List.mem_cons.mp hs with q | q
    · rw [q]; exact f
    · exact k s q
theorem psOk_tup_upd {α : Type} {S : α → List V} {p : Addr} {ys : List V} {o : HO} (hp : H p = some (.lst ys)) : ∀ {rs : List α} {xs : List V}, PsOk (rs.map fun r => TupN R (S r)) xs H → PsOk (rs.map fun r => TupN R (S r)) xs (upd H p o)
  | [], [], _ => True.intro
  | r :: rs, x :: xs, ⟨⟨q, e, h, hd⟩, h2⟩ => ⟨⟨q, e, by
      have : q ≠ p := fun z => by rw [z, hp] at h; cases h
      rw [upd_ne this]
      exact h, hd⟩, psOk_tup_upd hp h2⟩
theorem gl_map {β : Type} (d : β) (S : β → VP) : ∀ rs : List β, gl rs.length (fun _ => true) (fun i => S (rs.getD i d)) = rs.map S := fun rs => by
  unfold gl
  rw [filter_yes]
  apply List.ext_getElem?
  intro i
  rw [List.getElem?_map, List.getElem?_map]
  by_cases hi : i < rs.length
  · rw [List.getElem?_range hi, List.getElem?_eq_getElem hi]
    show some (S (rs.getD i d)) = some (S rs[i])
    rw [List.getD_eq_getElem?_getD, List.getElem?_eq_getElem hi]
    rfl
  · rw [List.getElem?_eq_none (by rw [List.length_range]; omega), List.getElem?_eq_none (by omega)]
    rfl
/-- an item of a list of one's own -/
theorem ev_item {k : Nat} {p : Addr} {x : V} {i : Nat} (hv : σ[k]? = some (some (.ref p))) (hp : H p = some (.lst xs)) (hd : p ∉ R.D ∧ p ∉ R.h) (hx : xs[i]? = some x) (hi : EvP R tb σ H (Is (.int (i : Int)))) (s : Stb R P) (h : P x H) : EvP R (tOp (rIxL K) (tVar k) tb) σ H P :=
  ev_imp (ev_ixL (ev_L (ev_varLN hv hp hd)) hi (atI_nat hx)) fun u H' g e => by
    cases e
    exact s x H H' g h
theorem ev_varP {k : Nat} {x : V} (hv : σ[k]? = some (some x)) (s : Stb R P) (h : P x H) : EvP R (tVar k) σ H P := ev_var hv fun H' g => s x H H' g h
theorem tupN_add {p : Addr} {vs : List V} {u : V} (h : TupN (R.add p) vs u H) : TupN R vs u H := let ⟨q, e, hq, hd⟩ := h; ⟨q, e, hq, hd.1, fun z => hd.2 (List.mem_cons_of_mem _ z)⟩
theorem tupN_into {p : Addr} {vs : List V} {u : V} (hn : H p = none) (h : TupN R vs u H) : TupN (R.add p) vs u H := let ⟨q, e, hq, hd⟩ := h; ⟨q, e, hq, hd.1, fun z => by
  rcases List.mem_cons.mp z with z | z
  · rw [z, hn] at hq; cases hq
  · exact hd.2 z⟩
end
end Fk

/-! Forkpolls: exceptions of the text's own classes as values. -/
namespace FkE
open PySem
section
variable {M : Model} {prog : Program} {w : World} {A : Around} {E : Value → Shared → Prop} {R : Result → Shared → Prop} {h : Heap} {g : Array GenState} {d : Drawn} {t : Nat} {os : OsState}
variable {nm q : Str} {C N : Addr} {bs bm bmB : List Value} {hdct : Bool} {sn : List Str} {sub : List Value} {ab : Bool} {col : Option Bool} {dd : Option Addr} {k0 k1 k2 k3 k5 : Option Value} {B newId initId : String}
theorem look_new (F : ExcBaseFacts B newId initId bmB) (hT : bm.contains (.type B) = true) {us : List Value} {kws : List (Str × Value)} {Q : Unit → Shared → Prop} (hk : kws = [] ∨ ∃ k v, kws = [(k, v)])
    (c : h.get? C = some (excClassObj nm q C N bs bm hdct sn sub ab col dd k0 k1 k2 k3 k5 newId)) (q : Q () ⟨h, g, d, t, os⟩) : wpAny M A (checkBuiltinCall newId ⟨.ref C :: us, kws⟩) Q E ⟨h, g, d, t, os⟩ := by
  have hB : (Value.ref C :: bm).contains (.type B) = true := by rw [List.contains_cons, hT, Bool.or_true]
  have s := F.noStar
  rcases hk with rfl | ⟨k, v, rfl⟩
  · simp only [checkBuiltinCall, F.newKind, F.newSplit, F.newRow]
    repeat (first | refine wpAny_loadPart_at c ?_ | (refine wpAny_isSubtype_exc c ?_; rw [hB]) | refine wpAny_staticBase_exc c ?_ | refine wpAny_madeBy_exc c ?_ | simp only [bne_self_eq_false, Bool.false_eq_true, if_false] | wp_step)
    exact q
  · simp only [checkBuiltinCall, F.newKind, F.newSplit, F.newRow]
    repeat (first | refine wpAny_loadPart_at c ?_ | (refine wpAny_isSubtype_exc c ?_; rw [hB]) | refine wpAny_staticBase_exc c ?_ | refine wpAny_madeBy_exc c ?_ | simp only [bne_self_eq_false, Bool.false_eq_true, if_false] | wp_step)
    exact q
theorem made_new (F : ExcBaseFacts B newId initId bmB) (hT : bm.contains (.type B) = true) (hA : bm.contains (.type "AttributeError") = false) (hN : bm.contains (.type "NameError") = false) {us : List Value} {kws : List (Str × Value)}
    (c : h.get? C = some (excClassObj nm q C N bs bm hdct sn sub ab col dd k0 k1 k2 k3 k5 newId)) (hl : us.length ≤ sizeLine)
    (r : R (.ok (.ret (.ref (h.objs.size + 1)))) ⟨(h.push { cls := .type "tuple", data := .seq us.toArray }).push { cls := .ref C, data := .fields #[.ref h.objs.size, .none, .none, .none, .bool false, .none] }, g, d, t, os⟩) :
    codeAny (model prog w) A (.builtin newId ⟨.ref C :: us, kws⟩) R ⟨h, g, d, t, os⟩ := by
  have en := F.ends
  have cB : (Value.ref C :: bm).contains (.type B) = true := by rw [List.contains_cons, hT, Bool.or_true]
  have cA : (Value.ref C :: bm).contains (.type "AttributeError") = false := by rw [List.contains_cons, hA] <;> rfl
  have cN : (Value.ref C :: bm).contains (.type "NameError") = false := by rw [List.contains_cons, hN] <;> rfl
  refine codeAny_builtinAt F.entry ?_
  unfold Builtin.«BaseException.__new__»
  refine wpAt_bind ?_
  show wpAt _ _ _ (stack >>= _) _ _ _
  refine wpAt_bind (wpAt_stack fun p below => wpAt_of_wpAny ?_)
  wp_walk
  refine wpAt_of_wpAny ?_
  rw [F.owner]
  repeat (first | with_reducible refine wpAny_madeHere_exc F.canon c ?_ | with_reducible refine wpAny_loadPart_at c ?_ | (with_reducible refine wpAny_isSubtype_exc c ?_; first | rw [cB] | rw [cA] | rw [cN]) | wp_step)
  show R _ _
  rw [Heap.size_push]
  exact r
abbrev exN (C t : Addr) : Obj := { cls := .ref C, data := .fields #[.ref t, .none, .none, .none, .bool false, .none] }
theorem made_init (F : ExcBaseFacts B newId initId bmB) (hT : bm.contains (.type B) = true) (hA : bm.contains (.type "AttributeError") = false) (hN : bm.contains (.type "NameError") = false) {us : List Value} {kws : List (Str × Value)} {fI : Addr} {Q : PySem.Fin → Shared → Prop} (hk : kws = [] ∨ ∃ k v, kws = [(k, v)])
    (c : h.get? C = some (excClassObj nm q C N bs bm hdct sn sub ab col dd k0 k1 k2 k3 k5 newId)) (i : W.Looks (model prog w) h (typeLookup (.ref C) "__init__") (some (.ref fI))) (b : ∀ x, W.Looks (model prog w) h (bindSpecial (.ref fI) x) (.ref fI, [x])) (hl : us.length ≤ sizeLine)
    (r : codeAny (model prog w) A (.call (.ref fI) ⟨.ref (h.objs.size + 1) :: us, kws⟩) (fun r s' => match r with | .ok (.ret v) => v = .none ∧ Q (.done (.ret (.ref (h.objs.size + 1)))) s' | .ok _ => False | .error e => E e s') ⟨(h.push (W.kdv_tup us)).push (exN C h.objs.size), g, d, t, os⟩) :
    wpAny (model prog w) A (Builtin.«type.__call__» ⟨.ref C :: us, kws⟩) Q E ⟨h, g, d, t, os⟩ := by
  repeat (first | with_reducible refine wpAny_loadPart_at c ?_ | with_reducible refine wpAny_madeBy_exc c ?_ | wp_step)
  refine codeAny_call_builtin_code (Code.quiet_builtin _ F.quiet) (look_new F hT hk c ?_)
  refine made_new F hT hA hN c hl ?_
  show wpAny _ _ _ _ _ _
  have kp : ∀ b o, h.get? b = some o → ((h.push (W.kdv_tup us)).push (exN C h.objs.size)).get? b = some o := fun b o e => Heap.get?_push_of_some _ (Heap.get?_push_of_some _ e)
  have c1 := kp _ _ c
  have own : ((h.push (W.kdv_tup us)).push (exN C h.objs.size)).get? (h.objs.size + 1) = some (exN C h.objs.size) := by heap_get
  have cC : (Value.ref C :: bm).contains (.ref C) = true := by simp
  have i1 := i.keeps kp
  have b1 := (b (.ref (h.objs.size + 1))).keeps kp
  unfold isInstance
  repeat (first | with_reducible refine wpAny_loadPart_at own ?_ | (with_reducible refine wpAny_isSubtype_exc c1 ?_; rw [cC]) | wp_step)
  show wpAny _ _ (typeLookup (.ref C) _) _ _ _
  refine i1.at (wpAny_holding (wpAny_bind (b1.at (wpAny_bind (wpAny_call (codeAny_mono r fun r s' z => ?_))))))
  rcases r with e | (v | _ | _ | _) <;> first | exact z | exact z.elim | skip
  obtain ⟨rfl, z⟩ := z
  first
    | exact wpAny_pure (wpAny_pure z)
    | (wp_walk; exact z)
theorem made_call (F : ExcBaseFacts B newId initId bmB) (hT : bm.contains (.type B) = true) (hA : bm.contains (.type "AttributeError") = false) (hN : bm.contains (.type "NameError") = false) {us : List Value} {kws : List (Str × Value)} {fI : Addr} (hk : kws = [] ∨ ∃ k v, kws = [(k, v)])
    (c : h.get? C = some (excClassObj nm q C N bs bm hdct sn sub ab col dd k0 k1 k2 k3 k5 newId)) (i : W.Looks (model prog w) h (typeLookup (.ref C) "__init__") (some (.ref fI))) (b : ∀ x, W.Looks (model prog w) h (bindSpecial (.ref fI) x) (.ref fI, [x])) (hl : us.length ≤ sizeLine)
    (r : codeAny (model prog w) (A.under (.builtin "type.__call__" ⟨.ref C :: us, kws⟩)) (.call (.ref fI) ⟨.ref (h.objs.size + 1) :: us, kws⟩) (W.InitBack (h.objs.size + 1) R) ⟨(h.push (W.kdv_tup us)).push (exN C h.objs.size), g, d, t, os⟩) :
    codeAny (model prog w) A (.call (.ref C) ⟨us, kws⟩) R ⟨h, g, d, t, os⟩ := by
  have f1 := tc_lookup
  have f2 := tc_bind (.ref C)
  have ty : (⟨h, g, d, t, os⟩ : Shared).TypeIs (.ref C) "type" := ⟨_, c, rfl⟩
  refine codeAny_of_tree ?_
  show wpAny _ _ (callAny (.ref C) _) _ _ _
  repeat (any_goals (first | assumption | with_reducible refine wpAny_loadPart_at c ?_ | wp_step))
  refine ⟨rfl, codeAny_call_builtin_at (Code.quiet_builtin _ (by decide +kernel)) entry_typeCall (wpAny_check_type_call_sub c (made_init F hT hA hN hk c i b hl ?_))⟩
  refine codeAny_mono r fun r s' z => ?_
  rcases r with e | (v | _ | _ | _) <;> exact z
end
end FkE

/-! Forkpolls: exceptions as values, the rules. -/
namespace FkE
open PySem PySem.W PySem.Calls PyProof.Rows PySem.HandSPX Builtin Builtin.ObjectAttr
section
variable {prog : Program} {w : World} {A : Around} {R : Result → Shared → Prop} {hp : Heap} {g : Array GenState} {d : Drawn} {t : Nat} {os : OsState}
/-- the first field of an exception, whatever its bases -/
theorem first_field {K : W.Frag} {z : Str} {tk : Tok} {v : Value} {x C : Addr} {fv : Array Value} {cd : ClassData} (X : K.In hp) (hx : hp.get? x = some { cls := .ref C, data := .fields fv }) (hcd : W.clsIn K C = some cd)
    (pass : refuseLoop (.ref x) "__setattr__" cd.mro = pure ()) (ne : cd.mro.isEmpty = false) (ob : cd.mro.contains (.type "object") = true) (hh : cd.hasDict = true) (ha : W.findIn K (.ref C) z = some none)
    (r : ∀ h' tk' dx, (∀ b o, b ≠ x → hp.get? b = some o → h'.get? b = some o) → hp.objs.size ≤ dx → dx ≠ x → h'.get? x = some { cls := .ref C, dict := some dx, data := .fields fv } → h'.Ns1 dx (fun y => if y = z then some v else none) → R (.ok (.ret .none)) ⟨h', g, d, tk', os⟩) :
    codeAny (model prog w) A (.call (.builtin "object.__setattr__") ⟨[.ref x, .str z tk, v], []⟩) R ⟨hp, g, d, t, os⟩ := by
  have I : W.InstAt hp x { cls := .ref C, data := .fields fv } C none := ⟨hx, rfl, rfl, trivial⟩
  have S := F.store_object
  have xs : x ≠ hp.objs.size := Nat.ne_of_lt (Heap.lt_size hx)
  have sb : W.Looks (model prog w) hp (isInstance (.ref x) (.type "object")) true := I.type.andThen (W.looks_mroIn X (by unfold W.mroIn; rw [hcd, Option.bind_some, if_neg (by rw [ne]; decide), ob]))
  refine codeAny_call_builtin S.slot.plain S.entry (@W.check_slot (model prog w) _ _ ⟨hp, g, d, t, os⟩ "object.__setattr__" "object" "__setattr__" (.ref x) [.str z tk, v] [] _ S.kind S.split sb (S.args (.ref x) (.str z tk) v) ?_)
  have l1 : W.Looks (model prog w) hp (mroOf (.ref C)) cd.mro := (W.looks_clsIn X hcd).andThen .now
  have l2 : W.Looks (model prog w) hp (storeTaker? none) none := .now
  have l3 : W.Looks (model prog w) hp (classData C) cd := W.looks_clsIn X hcd
  rw [W.osa_eq, refuse_eq]
  refine wpAny_bind (wpAny_bind (I.type.at (wpAny_bind (l1.at ?_))))
  rw [pass]
  refine wpAny_pure (wpAny_bind (I.type.at (wpAny_bind ((W.looks_findIn X ha).at (wpAny_bind (l2.at ?_))))))
  show wpAny _ _ (storeInOwnDict (.ref x) (.ref C) (.str z tk) z v false) _ _ _
  obtain ⟨n1, n2, n3, n4, n5, n6, n7, n8, n9, n10, n11⟩ := cd
  dsimp only at hh
  subst hh
  unfold storeInOwnDict ownDictForStores
  repeat (first | with_reducible refine store_in_new ?_ ?_ | with_reducible refine wpAny_loadPart_at hx ?_ | with_reducible refine l3.at ?_ | wp_step)
  · exact ⟨_, #[], _, (Heap.get?_update_ne _ _ _ _ xs.symm).trans (Heap.get?_push_at rfl rfl), rfl, fun e he => absurd he (by simp), fun _ => rfl⟩
  · intro h' tk' n s
    have x1 : (hp.push { cls := .type "dict", data := .dict #[] }).get? x = some { cls := .ref C, data := .fields fv } := Heap.get?_push_of_some _ hx
    exact r h' tk' hp.objs.size (fun b o hb ho => (s.2 b (Nat.ne_of_lt (Heap.lt_size ho))).trans ((Heap.get?_update_ne _ _ _ _ hb).trans (Heap.get?_push_of_some _ ho))) (Nat.le_refl _) xs.symm ((s.2 x xs).trans (Heap.get?_update_self _ x1 rfl)) n
end
end FkE
namespace Fk
open PySem PySem.Spec PyProof.Rows L2
/-- an own exception class, over any built-in one -/
structure XcC (K : PySem.W.Frag) (C : Addr) : Prop where
  cls : ∃ nm q N bs bm sn sub ab col dd k0 k1 k2 k3 k5 B newId initId bmB, K.lookup C = some (excClassObj nm q C N bs bm true sn sub ab col dd k0 k1 k2 k3 k5 newId) ∧ ExcBaseFacts B newId initId bmB ∧ bm.contains (.type B) = true ∧ bm.contains (.type "AttributeError") = false ∧ bm.contains (.type "NameError") = false ∧
    (∀ x, refuseLoop x "__setattr__" (.ref C :: bm) = pure ()) ∧ bm.contains (.type "object") = true
  sa : PySem.W.findIn K (.ref C) "__setattr__" = some (some (.builtin "object.__setattr__"))
  kC : PySem.W.keepIn K (.ref C) = true
  ec : ExcC K C
section
variable {X : Cx} {pins : List (Addr × Obj)} {σ : L2.St} {H : Hp} {s : Shared} {a C dx : Addr} {f x : Str} {y : V} {u : Value} {fs : List (Str × V)} {e o : Expr} {es : List Expr} {kws : List Keyword} {ta te to : TE} {ts tk : TA} {p p' pos : Pos} {CX : CXT} {k : Nat} {fI : Addr} {fd : FuncData} {ps : List Str} {sp : Sp}
/-- C(..) as a value, C's own __init__ keeping sp -/
def tMkX (C : Addr) (sp : Sp) (ts : TA) : TE := fun σ H Q => ts σ H fun vs H1 => vs.length ≤ 1000 ∧ ∀ a, H1 a = none → sp (.ref a :: vs) (upd H1 a (exo a C none)) (fun v H2 => v = .non ∧ Q (.ref a) H2) (fun _ _ _ => False)
theorem run_mkX {us : List Value} {ws : List Value} {vs : List V} {ks : List Str} {Q : VK} (T : XcC X.K C) (iC : PySem.W.findIn X.K (.ref C) "__init__" = some (some (.ref fI))) (tI : PySem.W.typeIn X.K (.ref fI) = some (.type "function")) (F : FnOk X.prog X.w X.K X.mg X.base CX k fI fd ps sp) (hr : Room (k + 1) X.A) (hx : Passes CX X (fun _ _ _ => False))
    (hk : ks.zip ws = [] ∨ ∃ k v, ks.zip ws = [(k, v)]) (hb : ∀ (s : Shared) (z : Value), X.K.In s.heap → BindsTo s fd ⟨z :: us, ks.zip ws⟩ (ps.zip (z :: (us ++ ws)))) (I : Inv X pins σ H s) (r : Vals vs (us ++ ws)) (hl : vs.length ≤ 1000)
    (h : ∀ a, H a = none → sp (.ref a :: vs) (upd H a (exo a C none)) (fun v H2 => v = .non ∧ Q (.ref a) H2) (fun _ _ _ => False)) :
    wpAny (model X.prog X.w) X.A (call (.ref C) us (ks.zip ws)) (EP X pins σ Q) X.xe s := by
  obtain ⟨nm, q, N, bs, bm, sn, sub, ab, col, dd, k0, k1, k2, k3, k5, B, n1, n2, bmB, hC, G, c1, c2, c3, c4, c5⟩ := T.cls
  obtain ⟨hp, g, dr, tk, os⟩ := s
  have sz : hp.objs.size ≤ hp.objs.size + 1 := Nat.le_succ _
  have hn : H (hp.objs.size + 1) = none := I.hok.fresh sz
  have kk : ∀ b o, hp.get? b = some o → ((hp.push (PySem.W.kdv_tup us)).push (FkE.exN C hp.objs.size)).get? b = some o := fun b o e => Heap.get?_push_of_some _ (Heap.get?_push_of_some _ e)
  have own : ((hp.push (PySem.W.kdv_tup us)).push (FkE.exN C hp.objs.size)).get? (hp.objs.size + 1) = some (FkE.exN C hp.objs.size) := by heap_get
  have I2 : Inv X pins σ (upd H (hp.objs.size + 1) (exo (hp.objs.size + 1) C none)) ⟨(hp.push (PySem.W.kdv_tup us)).push (FkE.exN C hp.objs.size), g, dr, tk, os⟩ :=
    I.laid (t' := tk) (a := hp.objs.size + 1) (o := exo (hp.objs.size + 1) C none) (h' := (hp.push (PySem.W.kdv_tup us)).push (FkE.exN C hp.objs.size)) kk sz (exo_ok own)
  have r2 : Vals (V.ref (hp.objs.size + 1) :: vs) (Value.ref (hp.objs.size + 1) :: (us ++ ws)) := .cons rfl r
  have lu : us.length ≤ sizeLine := by
    have := Paired.length r
    rw [List.length_append] at this
    rw [sizeLine_eq]
    omega
  refine wpAny_call (FkE.made_call G c1 c2 c3 hk (I.kIn _ _ hC) (PySem.W.looks_findIn I.kIn iC) (fun z => PySem.W.bind_fn I.kIn z tI) lu
    (codeAny_mono (F.run _ X.stack _ _ ⟨Value.ref (hp.objs.size + 1) :: us, ks.zip ws⟩ (Value.ref (hp.objs.size + 1) :: (us ++ ws)) _ _ (fun _ _ _ => False) (hr.make C us (ks.zip ws)) (I2.env0.make C us (ks.zip ws)) (hb _ _ I2.kIn) r2 (h _ hn)) fun r s' z => ?_))
  cases r with
  | error er => exact hx pins σ _ _ er s' I2 z
  | ok fl =>
    cases fl with
    | ret u =>
      obtain ⟨v, H2, os2, bare2, un2, hok2, rv, ev, q2⟩ := z
      subst ev
      exact ⟨rv, .ref (hp.objs.size + 1), H2, I2.call' (ch := []) os2 un2 hok2 bare2 (fun b z => absurd z (by simp)), rfl, q2⟩
    | next => exact False.elim z
    | brk => exact False.elim z
    | cont => exact False.elim z
end
end Fk

/-! Forkpolls: exceptions as values, readings. -/
namespace Fk
open PySem PySem.Spec PyProof.Rows L2
section
variable {X : Cx} {pins : List (Addr × Obj)} {σ : L2.St} {H : Hp} {s : Shared} {a C dx : Addr} {f x : Str} {y : V} {u : Value} {fs : List (Str × V)} {e o : Expr} {es : List Expr} {kws : List Keyword} {ta te to : TE} {ts tk : TA} {p p' pos : Pos} {CX : CXT} {k : Nat} {fI : Addr} {fd : FuncData} {ps : List Str} {sp : Sp}
theorem pe_mkX (T : XcC X.K C) (iC : PySem.W.findIn X.K (.ref C) "__init__" = some (some (.ref fI))) (tI : PySem.W.typeIn X.K (.ref fI) = some (.type "function")) (F : FnOk X.prog X.w X.K X.mg X.base CX k fI fd ps sp) (hr : Room (k + 1) X.A) (hx : Passes CX X (fun _ _ _ => False))
    (hb : Binds X.K fd ps []) (hm : X.mg x = some (.ref C)) (ha : PA X (e :: es) ts) (hg : Gl X x := by rfl) (hdb : (x == ("__debug__" : Str)) = false := by decide) (he : starEach (e :: es) X.env = (false, eval e X.env) :: starEach es X.env := by rfl) (hpl : (backTo pos (starEach es X.env)).any (·.1) = false := by rfl) :
    PE X (.Call (.Name x p) (e :: es) [] pos) (tMkX C sp ts) := by
  refine ⟨fun pins s σ H Q I h => ?_⟩
  refine wpAny_Call_Name_kw (ld_glob I hg hm ?_ hdb)
  refine PySem.W.callWith_K (h₀ := X.base) I.ok.mod.kin T.kC (thn (ha.run pos pins s σ H _ I h) fun us s1 ⟨vs, H1, I1, r1, hz, q1⟩ => ⟨I1.kIn, ?_⟩) he hpl
  have hlen : ∀ a, H1 a = none → vs.length + 1 = ps.length := fun a ha => F.len _ _ _ _ (q1 a ha)
  exact run_mkX (ks := []) (ws := []) T iC tI F hr hx (.inl rfl) (fun s z kin => by
    have l : (z :: us ++ []).length = ps.length := by
      rw [List.append_nil, List.length_cons, ← Paired.length r1]
      exact hlen _ (I1.hok.fresh (Nat.le_refl _))
    have := hb s (z :: us) kin l
    rw [List.append_nil] at this
    rw [List.append_nil]
    exact this) I1 (by rw [List.append_nil]; exact r1) hz q1
theorem pe_mkXk {k1 : Str} (T : XcC X.K C) (iC : PySem.W.findIn X.K (.ref C) "__init__" = some (some (.ref fI))) (tI : PySem.W.typeIn X.K (.ref fI) = some (.type "function")) (F : FnOk X.prog X.w X.K X.mg X.base CX k fI fd ps sp) (hr : Room (k + 1) X.A) (hx : Passes CX X (fun _ _ _ => False))
    (hb : ∀ (s : Shared) (z v : Value), X.K.In s.heap → BindsTo s fd ⟨[z], [(k1, v)]⟩ (ps.zip [z, v])) (hm : X.mg x = some (.ref C)) (hkw : PK X kws tk) (hp2 : ps.length = 2) (hg : Gl X x := by rfl) (hdb : (x == ("__debug__" : Str)) = false := by decide)
    (hall : (backToKw pos (keywordEach kws X.env)).all (·.1.isSome) = true := by rfl) (hks : (backToKw pos (keywordEach kws X.env)).filterMap (·.1) = [k1] := by rfl) (hpl : ((backTo pos (starEach [] X.env)).any (·.1) || (backToKw pos (keywordEach kws X.env)).any (·.1.isNone)) = false := by rfl) :
    PE X (.Call (.Name x p) [] kws pos) (tMkX C sp tk) := by
  refine ⟨fun pins s σ H Q I h => ?_⟩
  refine wpAny_Call_Name_kw (ld_glob I hg hm ?_ hdb)
  refine PySem.W.callWith_KW0 (h₀ := X.base) I.ok.mod.kin T.kC hall ?_ hpl
  refine thn (hkw.run pos pins s σ H _ I h) fun ws s2 ⟨zs, H2, I2, rz, l1, q2⟩ => ⟨I2.kIn, ?_⟩
  rw [hks]
  have l : zs.length = 1 := by
    have := F.len _ _ _ _ (q2 _ (I2.hok.fresh (Nat.le_refl _)))
    rw [hp2] at this
    simpa using this
  have lw : ws.length = 1 := by rw [← Paired.length rz]; exact l
  match ws, lw with
  | [v], _ => exact run_mkX (us := []) (ws := [v]) (ks := [k1]) T iC tI F hr hx (.inr ⟨k1, v, rfl⟩) (fun s z kin => hb s z v kin) I2 rz l1 q2
/-- self.f = e, the first field -/
def tStX (K : PySem.W.Frag) (f : Str) (to te : TE) : TS := fun D σ H => te σ H fun y H1 => to σ H1 fun x H2 => ∃ a C : Addr, x = .ref a ∧ XcC K C ∧ PySem.W.findIn K (.ref C) f = some none ∧ H2 a = some (exo a C none) ∧ ∀ dx, H2 dx = none → dx ≠ a → D.nx σ (upd (upd H2 dx (exd dx [(f, y)])) a (exo a C (some dx)))
theorem stX_ok {A : Around} {E : Value → Shared → Prop} {Q : Unit → Shared → Prop} (T : XcC X.K C) (I : Inv X pins σ H s) (e : H a = some (exo a C none)) (hno : PySem.W.findIn X.K (.ref C) f = some none) (ry : RelV y u)
    (h : ∀ dx s', H dx = none → dx ≠ a → Inv X pins σ (upd (upd H dx (exd dx [(f, y)])) a (exo a C (some dx))) s' → Q () s') : wpAny (model X.prog X.w) A (setAttr (.ref a) f u) Q E s := by
  obtain ⟨nm, q, N, bs, bm, sn, sub, ab, col, dd, k0, k1, k2, k3, k5, B, n1, n2, bmB, hC, G, c1, c2, c3, c4, c5⟩ := T.cls
  have cl : PySem.W.clsIn X.K C = some { name := nm, bases := bs, mro := .ref C :: bm, ns := N, qualname := q, hasDict := true, slotNames := sn, subclasses := sub, abstract := ab, collection := col, hasDel := false } := by unfold PySem.W.clsIn; rw [hC] <;> rfl
  obtain ⟨t1, ho⟩ := exo_at I.hok e
  obtain ⟨hp, g, d, t, os⟩ := s
  refine PySem.W.set_plain I.kIn (ox := { cls := .ref C, dict := none, data := .fields #[.ref t1, .none, .none, .none, .bool false, .none] }) (od := none) ⟨ho, rfl, rfl, trivial⟩ T.sa ?_
  refine FkE.first_field I.kIn ho cl (c4 _) rfl (by rw [List.contains_cons, c5, Bool.or_true]) rfl hno (fun h' tk' dx k dn dne hx hn => ?_)
  have nd0 : H dx = none := I.hok.fresh dn
  have nd : ∀ {b : Addr} {o : Obj}, hp.get? b = some o → b ≠ dx := fun {b o} q => Nat.ne_of_lt (Nat.lt_of_lt_of_le (Heap.lt_size q) dn)
  have na : ∀ {b : Addr}, H b = none → b ≠ a := fun {b} n z => by
    rw [z, e] at n
    cases n
  have U : Un X.fs [] H (upd (upd H dx (exd dx [(f, y)])) a (exo a C (some dx))) hp h' := {
    keep := fun b o q n _ _ => k b o (na n) q
    slot := fun b o q n _ _ => ⟨o.slots, k b o (na n) q⟩
    free := fun b o q n _ => by rw [upd_ne (na n), upd_ne (nd q), n]
    there := fun b o q _ => by
      by_cases hb : b = a
      · rw [hb]
        exact ⟨_, hx⟩
      · exact ⟨o, k b o hb q⟩
    tups := fun b xs q => by rw [upd_ne (at_ne e q exo_tup), upd_ne (ne_of_none q nd0), q]
    frzs := fun b o v q => by rw [upd_ne (at_ne e q exo_frz), upd_ne (ne_of_none q nd0), q]
    tbls := fun b ps q => ⟨#[], by rw [upd_ne (at_ne e q exo_tbl), upd_ne (ne_of_none q nd0), q] <;> simp⟩ }
  refine h dx _ nd0 dne (I.un (t' := tk') U fun b o q => ?_)
  by_cases hb : b = a
  · subst hb
    rw [upd_same] at q
    cases q
    exact exo_ok hx
  · rw [upd_ne hb] at q
    by_cases hd : b = dx
    · subst hd
      rw [upd_same] at q
      cases q
      exact exd_ok hn (relO_put (fs := []) ry fun g => True.intro)
    · rw [upd_ne hd] at q
      refine (I.hok b o q).stay (fun c v hc z => k c v ?_ z) (fun c hc => by rw [upd_ne (at_ne e hc exo_own), upd_ne (ne_of_none hc nd0), hc]) (fun c xs hc => by rw [upd_ne (at_ne e hc exo_tup), upd_ne (ne_of_none hc nd0), hc])
      rcases hc with hc | hc
      · rw [hc]
        exact hb
      · exact at_ne e hc exo_own
theorem ps_stX (ho : PE X o to) (he : PE X e te) (hs : swapsWith e (some (.Attribute o f p')) pos.line X.env = pure false := by rfl) : PS X (.Assign [.Attribute o f p'] e pos) (tStX X.K f to te) := by
  refine ⟨fun pins s σ H D I h => ?_⟩
  refine plainObj_wpAny_Assign_Attribute (thn (he.run pins s σ H _ I h) fun v s1 ⟨y, H1, I1, r1, q1⟩ => thn (ho.run pins s1 σ H1 _ I1 q1) fun u s2 ⟨x, H2, I2, r2, a, C, ex, T, hno, ea, q⟩ => ?_) hs
  subst ex
  obtain rfl : u = Value.ref a := r2
  exact stX_ok T I2 ea hno r1 fun dx s' n ne J => ⟨σ, _, J, q dx n ne⟩
/-- e.f, e an exception with this field -/
def tFlX (K : PySem.W.Frag) (f : Str) (te : TE) : TE := fun σ H Q => te σ H fun x H1 => ∃ (a C dx : Addr) (fs : List (Str × V)) (v : V), x = .ref a ∧ XcC K C ∧ PySem.W.findIn K (.ref C) f = some none ∧ H1 a = some (exo a C (some dx)) ∧ H1 dx = some (exd dx fs) ∧ fs.lookup f = some v ∧ Q v H1
theorem pe_flX (he : PE X e te) (hb : attributeBase e f X.env (eval e X.env) = eval e X.env := by rfl) : PE X (.Attribute e f pos) (tFlX X.K f te) := by
  refine ⟨fun pins s σ H Q I h => ?_⟩
  refine attr_of hb (thn (he.run pins s σ H _ I h) fun u s1 ⟨x, H1, I1, rx, a, C, dx, fs, v, ex, T, hno, ea, ed, l, q⟩ => ?_)
  subst ex
  obtain rfl : u = Value.ref a := rx
  obtain ⟨t1, ho⟩ := exo_at I1.hok ea
  obtain ⟨mA, hns, rel⟩ := exd_at I1.hok ed
  have hw := within_of rel
  obtain ⟨od, hod, hl⟩ := lookIn_ns (by
    obtain ⟨o, es, ep, h1, h2⟩ := hns
    exact ⟨o, es, ep, h1, h2.1, h2.2⟩)
  obtain ⟨u, hu, ru⟩ := RelO.some_of (v := v) (o := mA f) (by rw [← l]; exact rel f)
  have J : PySem.W.InstAt s1.heap a { cls := .ref C, dict := some dx, data := .fields #[.ref t1, .none, .none, .none, .bool false, .none] } C (some od) := ⟨ho, rfl, rfl, hod⟩
  exact HandSPX.exc_get I1.kIn J T.ec.hg T.ec.hk T.ec.hs (PySem.W.findObj_own T.ec.hd hno rfl (by rw [hl, hu])) (handed_of ru) ⟨v, H1, I1.tok _, ru, q⟩
end
end Fk

/-! Forkpolls: exceptions as values: made without arguments, asked for their class. -/
namespace Fk
open PySem PySem.Spec PyProof.Rows L2
section
variable {X : Cx} {C : Addr} {x : Str} {p pos : Pos}
/-- C(), C without an own __init__ -/
def tMkE (C : Addr) : TE := fun σ H Q => ∀ a, H a = none → Q (.ref a) (upd H a (ExO (.ref C) a))
theorem pe_mkE {bmB : List Value} {B newId initId : String} (F : ExcBaseFacts B newId initId bmB) (q : PySem.W.excIn X.K C bmB newId = true) (gC : X.mg x = some (.ref C)) (kC : PySem.W.keepIn X.K (.ref C) = true) (hg : Gl X x := by rfl) (hdb : (x == ("__debug__" : Str)) = false := by decide) :
    PE X (.Call (.Name x p) [] [] pos) (tMkE C) := by
  refine ⟨fun pins s σ H Q I h => ?_⟩
  refine wpAny_Call_Name_kw (ld_glob I hg gC ?_ hdb)
  refine PySem.W.callWith_K0 I.kIn kC ?_
  show wpAny _ _ (call (.ref C) []) _ _ _
  obtain ⟨bm, N, nm, qn, bs, hdct, sn, sub, ab, col, dd, k0, k1, k2, k3, k5, mN, hC, hN, hni, T⟩ := exc_obj I.kIn q
  refine wpAny_call_exc_subT F T hC hN hni (fun h' a hm => ?_) (Nat.zero_le _)
  have hn : H a = none := I.hok.gone hm.new
  obtain ⟨t, ht, _, _⟩ := hm.there
  exact ⟨.ref a, upd H a (ExO (.ref C) a), I.laidN hm.keeps hm.new hn (exO_ok ht ⟨rfl, rfl⟩ rfl rfl rfl (show 4 < 6 by decide)), rfl, h a hn⟩
/-- an exception of the class at C stands at a -/
def XAt (H : Hp) (a C : Addr) : Prop := (∃ dx fs, H a = some (exo a C (some dx)) ∧ H dx = some (exd dx fs)) ∨ H a = some (ExO (.ref C) a)
def rIsX (K : PySem.W.Frag) : List V → Hp → VK → Prop := fun xs H Q => ∃ (a C : Addr) (c : V) (cv : Value) (b : Bool), xs = [.ref a, c] ∧ XAt H a C ∧ ExcC K C ∧ ClsV c cv ∧ PySem.W.kitOne K (.ref C) cv = some b ∧ Q (.bl b) H
theorem call_isX : CallR X (.builtin "isinstance") (rIsX X.K) := by
  intro pins s σ H xs us Q I r h
  obtain ⟨a, C, c, cv, b, rfl, hx, T, hc, e, q⟩ := h
  obtain ⟨u1, u2, rfl, r1, r2⟩ := vals2 r
  cases r1
  have ec := hc.eq r2
  subst ec
  have cl : (PySem.W.clsIn X.K C).isSome = true := by
    obtain ⟨cd, h, _⟩ := PySem.W.any_some T.hd
    rw [h]
    rfl
  have fin : ∀ {o : Obj} {od : Option Obj}, PySem.W.InstAt s.heap a o C od → wpAny (model X.prog X.w) X.A (call (.builtin "isinstance") [.ref a, u2]) (EP X pins σ Q) X.xe s := fun {o od} J =>
    PySem.W.kia_one (PySem.W.kitx_exc cl T.hg T.hk T.hs T.ha T.hn T.ht T.hm) I.kIn J e (fun z => nomatch z) fun tk => ⟨.bl b, H, I.kept (t' := tk) fun _ _ z => z, rfl, q⟩
  rcases hx with ⟨dx, fs, h1, h2⟩ | h1
  · obtain ⟨t1, ho⟩ := exo_at I.hok h1
    obtain ⟨mA, hns, rel⟩ := exd_at I.hok h2
    obtain ⟨oD, _, _, hoD, _, _⟩ := hns.count (within_of rel)
    exact fin (o := { cls := .ref C, dict := some dx, data := .fields #[.ref t1, .none, .none, .none, .bool false, .none] }) (od := some oD) ⟨ho, rfl, rfl, hoD⟩
  · obtain ⟨⟨oe, vs, ho, hz, hd, _⟩, _⟩ := I.hok a _ h1
    obtain ⟨oc, od, oda, osl⟩ := oe
    obtain ⟨z1, z2⟩ := hz
    dsimp only at z1 z2 hd
    subst z1 z2 hd
    exact fin (od := none) ⟨ho, rfl, rfl, trivial⟩
end
end Fk

/-! Forkpolls: the facts of own exception classes. -/
namespace Fk
open PySem PySem.Spec PyProof.Rows L2
def ieTail : List Value := [.type "IndexError", .type "LookupError", .type "Exception", .type "BaseException", .type "object"]
def keTail : List Value := [.type "KeyError", .type "LookupError", .type "Exception", .type "BaseException", .type "object"]
def xpassVE (bm : List Value) : Bool := PySem.HandSPX.refsVE bm
def xpassIE (bm : List Value) : Bool := bm == ieTail
def xpassKE (bm : List Value) : Bool := bm == keTail
theorem ie_pass (x : Value) : refuseLoop x "__setattr__" ieTail = pure () := by kernel_rfl
theorem ke_pass (x : Value) : refuseLoop x "__setattr__" keTail = pure () := by kernel_rfl
section
variable {K : PySem.W.Frag} {nm q : Str} {C N : Addr} {bs bm : List Value} {sn : List Str} {sub : List Value} {ab : Bool} {col : Option Bool} {dd : Option Addr} {k0 k1 k2 k3 k5 : Option Value}
theorem xcVE (l : K.lookup C = some (excClassObj nm q C N bs bm true sn sub ab col dd k0 k1 k2 k3 k5 "ValueError.__new__")) (p : xpassVE bm = true) (sa : PySem.W.findIn K (.ref C) "__setattr__" = some (some (.builtin "object.__setattr__"))) (kC : PySem.W.keepIn K (.ref C) = true) (ec : ExcC K C) : XcC K C :=
  ⟨⟨nm, q, N, bs, bm, sn, sub, ab, col, dd, k0, k1, k2, k3, k5, _, _, _, _, l, PySem.F.excBase_ValueError, (PySem.HandSPX.refsVE_contains _ bm p).trans (by decide +kernel), (PySem.HandSPX.refsVE_contains _ bm p).trans (by decide +kernel), (PySem.HandSPX.refsVE_contains _ bm p).trans (by decide +kernel),
    fun x => PySem.HandSPX.refsVE_pass x (.ref C :: bm) p, (PySem.HandSPX.refsVE_contains _ bm p).trans (by decide +kernel)⟩, sa, kC, ec⟩
theorem xcIE (l : K.lookup C = some (excClassObj nm q C N bs bm true sn sub ab col dd k0 k1 k2 k3 k5 "IndexError.__new__")) (p : xpassIE bm = true) (sa : PySem.W.findIn K (.ref C) "__setattr__" = some (some (.builtin "object.__setattr__"))) (kC : PySem.W.keepIn K (.ref C) = true) (ec : ExcC K C) : XcC K C := by
  have e : bm = ieTail := beq_iff_eq.mp p
  subst e
  exact ⟨⟨nm, q, N, bs, ieTail, sn, sub, ab, col, dd, k0, k1, k2, k3, k5, _, _, _, _, l, PySem.F.excBase_IndexError, by decide +kernel, by decide +kernel, by decide +kernel, fun x => by rw [refuseLoop_ref]; exact ie_pass x, by decide +kernel⟩, sa, kC, ec⟩
theorem xcKE (l : K.lookup C = some (excClassObj nm q C N bs bm true sn sub ab col dd k0 k1 k2 k3 k5 "LookupError.__new__")) (p : xpassKE bm = true) (sa : PySem.W.findIn K (.ref C) "__setattr__" = some (some (.builtin "object.__setattr__"))) (kC : PySem.W.keepIn K (.ref C) = true) (ec : ExcC K C) : XcC K C := by
  have e : bm = keTail := beq_iff_eq.mp p
  subst e
  exact ⟨⟨nm, q, N, bs, keTail, sn, sub, ab, col, dd, k0, k1, k2, k3, k5, _, _, _, _, l, PySem.F.excBase_LookupError, by decide +kernel, by decide +kernel, by decide +kernel, fun x => by rw [refuseLoop_ref]; exact ke_pass x, by decide +kernel⟩, sa, kC, ec⟩
end
/-- a class of the text that isinstance is asked about -/
structure KitC (K : PySem.W.Frag) (C : Addr) : Prop where
  ic : PySem.W.isClsIn K C = true
  ty : PySem.W.typeIn K (.ref C) = some (.type "type")
  me : PySem.W.subIn K (.ref C) (.ref C) = some true
theorem KitC.kit {K : PySem.W.Frag} {C : Addr} {t : Value} {b : Bool} (c : KitC K C) (h : PySem.W.subIn K t (.ref C) = some b) : PySem.W.kitOne K t (.ref C) = some b := by
  unfold PySem.W.kitOne
  by_cases e : (t == Value.ref C) = true
  · rw [if_pos e]
    have e' : t = .ref C := beq_iff_eq.mp e
    subst e'
    rw [c.me] at h
    exact h
  · rw [if_neg e]
    have z : ((PySem.W.clsIn K C).isSome && PySem.W.typeIn K (.ref C) == some (.type "type")) = true := by
      have z1 : (PySem.W.clsIn K C).isSome = true := c.ic
      rw [z1, c.ty]
      rfl
    show (if ((PySem.W.clsIn K C).isSome && PySem.W.typeIn K (.ref C) == some (.type "type")) = true then PySem.W.subIn K t (.ref C) else none) = some b
    rw [if_pos z]
    exact h
end Fk

/-! Forkpolls: exceptions as values, evaluated. -/
namespace Fk
open PySem PySem.Spec PyProof.Rows L2
def spXi (K : PySem.W.Frag) (f : Str) : Sp := fun vs H Q _ => ∃ (a C : Addr) (v : V), vs = [.ref a, v] ∧ XcC K C ∧ PySem.W.findIn K (.ref C) f = some none ∧ H a = some (exo a C none) ∧ ∀ dx, H dx = none → dx ≠ a → Q .non (upd (upd H dx (exd dx [(f, v)])) a (exo a C (some dx)))
/-- an __init__ that keeps its one argument -/
def InitX (P : Program) (w : World) (K : PySem.W.Frag) (mg : Str → Option Value) (base : Heap) (f : Addr) (z : Str) : Prop :=
  ∃ fd, FnOk P w K mg base CX0 1 f fd ["self", z] (spXi K z) ∧ Binds K fd ["self", z] [] ∧ ∀ (s : Shared) (a v : Value), K.In s.heap → BindsTo s fd ⟨[a], [(z, v)]⟩ ((["self", z] : List Str).zip [a, v])
section
variable {X : Cx} {C fI : Addr} {x z : Str} {e : Expr} {es : List Expr} {kws : List Keyword} {ts : TA} {p pos : Pos} {k : Nat}
theorem pe_mkXI (T : XcC X.K C) (iC : PySem.W.findIn X.K (.ref C) "__init__" = some (some (.ref fI))) (tI : PySem.W.typeIn X.K (.ref fI) = some (.type "function")) (c : InitX X.prog X.w X.K X.mg X.base fI z) (hr : Room 2 X.A) (hm : X.mg x = some (.ref C)) (ha : PA X (e :: es) ts)
    (hg : Gl X x := by rfl) (hdb : (x == ("__debug__" : Str)) = false := by decide) (he : starEach (e :: es) X.env = (false, eval e X.env) :: starEach es X.env := by rfl) (hpl : (backTo pos (starEach es X.env)).any (·.1) = false := by rfl) : PE X (.Call (.Name x p) (e :: es) [] pos) (tMkX C (spXi X.K z) ts) := by
  obtain ⟨fd, F, b, _⟩ := c
  exact pe_mkX T iC tI F hr pass0 b hm ha hg hdb he hpl
theorem pe_mkXkI (T : XcC X.K C) (iC : PySem.W.findIn X.K (.ref C) "__init__" = some (some (.ref fI))) (tI : PySem.W.typeIn X.K (.ref fI) = some (.type "function")) (c : InitX X.prog X.w X.K X.mg X.base fI z) (hr : Room 2 X.A) (hm : X.mg x = some (.ref C)) (hkw : PK X kws ts)
    (hg : Gl X x := by rfl) (hdb : (x == ("__debug__" : Str)) = false := by decide) (hall : (backToKw pos (keywordEach kws X.env)).all (·.1.isSome) = true := by rfl) (hks : (backToKw pos (keywordEach kws X.env)).filterMap (·.1) = [z] := by rfl)
    (hpl : ((backTo pos (starEach [] X.env)).any (·.1) || (backToKw pos (keywordEach kws X.env)).any (·.1.isNone)) = false := by rfl) : PE X (.Call (.Name x p) [] kws pos) (tMkX C (spXi X.K z) ts) := by
  obtain ⟨fd, F, _, b⟩ := c
  exact pe_mkXk T iC tI F hr pass0 b hm hkw rfl hg hdb hall hks hpl
end
/-- a new exception that keeps v under z -/
def XN (R : Res) (C : Addr) (z : Str) (v : V) : VP := fun u H => ∃ a dx, u = .ref a ∧ H a = some (exo a C (some dx)) ∧ H dx = some (exd dx [(z, v)]) ∧ (a ∉ R.D ∧ a ∉ R.h) ∧ (dx ∉ R.D ∧ dx ∉ R.h)
section
variable {K : PySem.W.Frag} {R : Res} {σ : L2.St} {H Hc H0 H1 H' : Hp} {ta tb te tl : TE} {ts : TA} {C a : Addr} {z : Str} {v u : V} {Ps Qs : List VP} {P : VP}
theorem stb_xn : Stb R (XN R C z v) := fun _ _ _ g ⟨a, dx, e, h1, h2, d1, d2⟩ => ⟨a, dx, e, g.2 a _ h1 d1.1 d1.2, g.2 dx _ h2 d2.1 d2.2, d1, d2⟩
theorem ev_mkX (T : XcC K C) (hn : PySem.W.findIn K (.ref C) z = some none) (h : EvA R ts σ H [Is v]) : EvP R (tMkX C (spXi K z) ts) σ H (XN R C z v) := fun H1 g1 Q q =>
  h H1 g1 _ fun vs H2 g2 ps => by
    cases psOk1 ps
    refine ⟨(show 1 ≤ 1000 by decide), fun a ha => ⟨a, C, v, rfl, T, hn, upd_same, fun dx hdx ne => ⟨rfl, ?_⟩⟩⟩
    rw [upd_ne ne] at hdx
    refine q _ _ (g2.trans (Gv.same g2.1.1 fun y o e => ?_)) ⟨a, dx, rfl, upd_same, by rw [upd_ne ne, upd_same], off g2.1.1 ha, off g2.1.1 hdx⟩
    rw [upd_ne (ne_of_none e ha), upd_ne (ne_of_none e hdx), upd_ne (ne_of_none e ha)]
    exact e
theorem stb_lsOk (s : ∀ P, P ∈ Ps → Stb R P) : Stb R (LsOk R Ps) := fun _ _ _ g ⟨p, xs, e, h, hd, ps⟩ => ⟨p, xs, e, g.2 p _ h hd.1 hd.2, hd, psOk_stb s g ps⟩
theorem ev_lstE (s : ∀ P, P ∈ Ps → Stb R P) (h : EvA R ts σ H Ps) (hl : Ps.length ≤ 1000) : EvP R (tLst ts) σ H (LsOk R Ps) := fun H1 g Q q =>
  h H1 g _ fun vs H2 g2 ps => ⟨by rw [psOk_len ps]; exact small hl, fun p hp => q _ _ (g2.trans (Gv.new g2.1.1 hp)) ⟨p, vs, rfl, upd_same, off g2.1.1 hp, psOk_stb s (Gv.new g2.1.1 hp).1 ps⟩⟩
theorem psOk_app : ∀ {Ps Qs : List VP} {xs ys : List V}, PsOk Ps xs H → PsOk Qs ys H → PsOk (Ps ++ Qs) (xs ++ ys) H
  | [], _, [], _, _, h => h
  | _ :: _, _, _ :: _, _, ⟨h1, h2⟩, h => ⟨h1, psOk_app h2 h⟩
theorem ev_catE2 (sP : ∀ P, P ∈ Ps → Stb R P) (sQ : ∀ P, P ∈ Qs → Stb R P) (ha : EvP R ta σ H (LsOk R Ps)) (hb : EvP R tb σ H (LsOk R Qs)) (hl : Ps.length + Qs.length ≤ 1000) : EvP R (tOp rCat ta tb) σ H (LsOk R (Ps ++ Qs)) :=
  ev_op (stb_lsOk sP) ha hb fun x y H1 g ⟨p, xs, e1, h1, _, ps⟩ ⟨p2, ys, e2, h2, _, qs⟩ Q q => ⟨p, p2, xs, ys, e1, e2, h1, h2, by rw [psOk_len ps, psOk_len qs]; exact small hl, fun l hl' =>
    q _ _ (Gv.new g.1 hl') ⟨l, xs ++ ys, rfl, upd_same, off g.1 hl', psOk_app (psOk_stb sP (Gv.new g.1 hl').1 ps) (psOk_stb sQ (Gv.new g.1 hl').1 qs)⟩⟩
theorem XAt.same (h : XAt H a C) (e : Same H H') : XAt H' a C := by
  rcases h with ⟨dx, fs, h1, h2⟩ | h
  · exact .inl ⟨dx, fs, e _ _ h1, e _ _ h2⟩
  · exact .inr (e _ _ h)
theorem ev_isX {c : V} {cv : Value} {b : Bool} (h : EvP R ta σ H (Is (.ref a))) (hb : EvP R tb σ H (Is c)) (k : ClsV c cv) (hx : Al R (fun H' => XAt H' a C) H) (T : ExcC K C) (e : PySem.W.kitOne K (.ref C) cv = some b) : EvP R (tCB (rIsX K) (tCons ta (tCons tb tNil))) σ H (Is (.bl b)) :=
  ev_cb (ea_is h (ea_is hb ea_nil)) fun vs H1 g ps Q q => by
    cases psOk2 ps
    exact ⟨a, C, c, cv, b, rfl, hx H1 g, T, k, e, q _ H1 g.at rfl⟩
theorem ev_flX {dx : Addr} {fs : List (Str × V)} (h : EvP R te σ H (Is (.ref a))) (T : XcC K C) (hn : PySem.W.findIn K (.ref C) z = some none) (h1 : Al R (fun H' => H' a = some (exo a C (some dx)) ∧ H' dx = some (exd dx fs)) H) (l : fs.lookup z = some v) : EvP R (tFlX K z te) σ H (Is v) := fun H1 g Q q =>
  h H1 g _ fun u H2 g2 e => ⟨a, C, dx, fs, v, e, T, hn, (h1 H2 (g.trans g2)).1, (h1 H2 (g.trans g2)).2, l, q v H2 g2 rfl⟩
theorem ev_sum {ns : List Int} (h : EvP R ta σ H (LstN R (ns.map V.int))) : EvP R (tCB (rSum K) (tCons ta tNil)) σ H (Is (.int ns.sum)) := fun H1 g Q q =>
  h H1 g _ fun u H2 g2 ⟨p, e, hp, _⟩ => ⟨p, ns, by rw [e], .inl (.inl hp), q _ H2 g2 rfl⟩
/-- a for over a list of which something is known -/
theorem s_forL {tu : TS} {D : Ends} {g : TG} {P : List V → VP} (h : EvP R tl σ H (fun u H => ∃ p xs, u = .ref p ∧ P xs u H ∧ H p = some (.lst xs) ∧ (p ∉ R.D ∧ p ∉ R.h))) (gc : Gr R H Hc)
    (k : ∀ p xs H1, Gr R H H1 → Gv R Hc H1 → P xs (.ref p) H1 → ∃ Pv : Nat → L2.St → Hp → Prop, Pv 0 σ H1 ∧ (∀ i σ' H', i ≤ xs.length → Pv i σ' H' → Gr R H1 H') ∧
      (∀ i x σ' H', i < xs.length → Pv i σ' H' → xs[i]? = some x → g x σ' H' fun σ2 H3 => tu { D with nx := Pv (i + 1), ct := Pv (i + 1), bk := D.nx } σ2 H3) ∧ ∀ σ' H', Pv xs.length σ' H' → D.nx σ' H') :
    tFor (iList K tl) g tu D σ Hc := h Hc gc _ fun u H1 a1 ⟨p, xs, e, hP, hp, hd⟩ => by
  subst e
  refine ⟨p, rfl, ⟨xs, .inl (.inl hp)⟩, ?_⟩
  obtain ⟨Pv, h0, h1, h2, h3⟩ := k p xs H1 (gc.trans a1) a1 hP
  refine for_it walk_list Pv h0 (fun i σ' H' hi pv => .inl (.inl ((h1 i σ' H' hi pv).2 p _ hp hd.1 hd.2))) (fun i x σ' H' H'' hi pv y => ?_) h3
  obtain ⟨y1, y2⟩ := y
  subst y1
  exact h2 i x σ' _ hi pv y2
end
end Fk

/-! Forkpolls: data that is shown; lists of bools. -/
namespace Fk
open PySem PySem.Spec PyProof.Rows L2
section
variable {K : PySem.W.Frag} {R : Res} {σ : L2.St} {H Hc : Hp} {t : TT} {D : Ends} {tu : TS}
theorem s_ifK {b : Bool} (J : Hp → Prop) (k : ∀ H5, J H5 → D.nx σ H5) (h : EvT R t σ H b) (g : Gr R H Hc) (h1 : b = true → ∀ H1, Gr R H H1 → Gv R Hc H1 → (∀ H5, J H5 → D.nx σ H5) → tu D σ H1) (h2 : b = false → ∀ H1, Gr R H H1 → Gv R Hc H1 → J H1) : tIfS t tu tNext D σ Hc :=
  s_if1 h g (fun hb H1 a b => h1 hb H1 a b k) fun hb H1 a b => k H1 (h2 hb H1 a b)
end
def dBools (bs : List Bool) : PyData := .list (bs.map PyData.bool)
theorem dpAll_bools {K : PySem.W.Frag} {H : Hp} : ∀ bs : List Bool, DpAll K H (bs.map V.bl) (bs.map PyData.bool)
  | [] => .nil
  | b :: bs => .cons (.bl b) (dpAll_bools bs)
theorem ev_boolsD {K : PySem.W.Frag} {R : Res} {σ : L2.St} {H : Hp} {te : TE} {bs : List Bool} (h : EvP R te σ H (LstN R (bs.map V.bl))) : EvP R te σ H (Rp K R (dBools bs)) := ev_imp h fun u H' g ⟨p, e, hp, hd⟩ => e ▸ fun H2 g2 => .lst (.inl (.inl (g2.2 p _ hp hd.1 hd.2))) (dpAll_bools bs)
/-- it can be shown -/
structure OkD (d : PyData) : Prop where
  s : d.showable = true
  n : d.hasDict = false
  l : d.shown.length ≤ sizeLine
  p : d.depth ≤ 50
theorem okD_of {d : PyData} (l : PyData.layable0 d = true) (i : PyData.intsShort 13 d = true) (s : d.showable = true) (n : d.hasDict = false) (h : d.depth ≤ 50) : OkD d := ⟨s, n, PyData.shown_fits_of_layable0 (B := 13) (by decide) (by decide) l i, h⟩
theorem ev_reprD {K : PySem.W.Frag} {R : Res} {σ : L2.St} {H : Hp} {te : TE} {d : PyData} (ok : OkD d) (h : EvP R te σ H (Rp K R d)) : EvP R (tCB (rReprD K) (tCons te tNil)) σ H (Is (.str d.shown)) := ev_cb (ea_cons stb_rp h ea_nil) fun vs H1 g ps Q q => by
  match vs, ps with
  | [u], ⟨hu, _⟩ => exact ⟨u, d, rfl, hu.now g.1, ok.s, ok.n, ok.p, ok.l, q _ H1 g.at rfl⟩
theorem log_lt {i : Int} (h : i.natAbs < 2 ^ 30) : i.natAbs.log2 < 30 := by
  by_cases z : i.natAbs = 0
  · rw [z]; decide
  · exact (Nat.log2_lt z).mpr h
theorem int_ok {i : Int} (h : i.natAbs < 2 ^ 30) : (PyData.int i).showable = true ∧ PyData.weight (.int i) ≤ 31 ∧ (PyData.shown (.int i)).length ≤ 13 := by
  have l := log_lt h
  refine ⟨decide_eq_true (by omega), ?_, PyData.shown_int_le (by omega)⟩
  show (if i == 0 then 0 else i.natAbs.log2 + 1) ≤ 31
  split <;> omega
theorem lay_of {d : PyData} (c : d.canLay0 = true) (h : d.depth ≤ 64) (w : d.weight ≤ 2 ^ 20) : PyData.layable0 d = true := by
  show (d.canLay0 && decide (d.depth ≤ 64) && decide (d.weight ≤ 2 ^ 20)) = true
  rw [c, decide_eq_true h, decide_eq_true w]
  rfl
theorem okD_int {i : Int} (h : i.natAbs < 2 ^ 30) : OkD (.int i) := by
  obtain ⟨a, b, c⟩ := int_ok h
  exact okD_of (lay_of rfl (Nat.zero_le 64) (by omega)) (decide_eq_true c) a rfl (Nat.zero_le 50)
theorem okD_tup {i : Int} (h : i.natAbs < 2 ^ 30) : OkD (.tuple [.int i, .none]) := by
  obtain ⟨a, b, c⟩ := int_ok h
  refine okD_of (lay_of rfl (show 1 ≤ 64 by decide) ?_) ?_ ?_ rfl (show 1 ≤ 50 by decide)
  · show PyData.weight (.int i) + 1 + (0 + 1 + 0) ≤ 2 ^ 20
    omega
  · show (decide ((PyData.shown (.int i)).length ≤ 13) && (true && true)) = true
    rw [decide_eq_true c]
    rfl
  · show (PyData.showable (.int i) && (true && true)) = true
    rw [a]
    rfl
theorem okD_lst {i : Int} (h : i.natAbs < 2 ^ 30) : OkD (.list [.int i, .list [.int 1], .int 7]) := by
  obtain ⟨a, b, c⟩ := int_ok h
  have w1 := (int_ok (i := 1) (by decide)).2.1
  have w7 := (int_ok (i := 7) (by decide)).2.1
  refine okD_of (lay_of rfl (show 2 ≤ 64 by decide) ?_) ?_ ?_ rfl (show 2 ≤ 50 by decide)
  · show PyData.weight (.int i) + 1 + ((PyData.weight (.int 1) + 1 + 0) + 1 + (PyData.weight (.int 7) + 1 + 0)) ≤ 2 ^ 20
    omega
  · show (decide ((PyData.shown (.int i)).length ≤ 13) && ((decide ((PyData.shown (.int 1)).length ≤ 13) && true) && (decide ((PyData.shown (.int 7)).length ≤ 13) && true))) = true
    rw [decide_eq_true c, decide_eq_true (int_ok (i := 1) (by decide)).2.2, decide_eq_true (int_ok (i := 7) (by decide)).2.2]
    rfl
  · show (PyData.showable (.int i) && ((PyData.showable (.int 1) && true) && (PyData.showable (.int 7) && true))) = true
    rw [a]
    decide
theorem okD_7 : OkD (.list [.int 7]) := ⟨by decide, rfl, by decide +kernel, by decide⟩
theorem okD_non : OkD .none := ⟨rfl, rfl, by decide +kernel, by decide⟩
theorem okD_true : OkD (.bool true) := ⟨rfl, rfl, by decide +kernel, by decide⟩
theorem okD_empty : OkD (.str "") := ⟨rfl, rfl, by decide +kernel, by decide⟩
theorem okD_mark : OkD (.str "mark") := ⟨rfl, rfl, by decide +kernel, by decide⟩
end Fk

/-! Forkpolls: raising and catching. -/
namespace Fk
open PySem PySem.Spec PyProof.Rows L2
section
variable {P : Program} {w : World} {K : PySem.W.Frag} {mg : Str → Option Value} {base : Heap} {CX : CXT} {k : Nat} {f : Addr} {fd : FuncData} {ps : List Str} {sp : Sp}
/-- what lets nothing out may be called anywhere -/
theorem fn_any (F : FnOk P w K mg base CX0 k f fd ps sp) : FnOk P w K mg base CX k f fd ps sp := by
  refine ⟨F.len, fun A outer s H args us vs Q E hr e0 hb r h => codeAny_mono (F.run A outer s H args us vs Q E hr e0 hb r h) fun r s' z => ?_⟩
  cases r with
  | error e => exact False.elim z
  | ok fl => cases fl <;> exact z
/-- either promise -/
theorem fn_or {sp2 : Sp} (F : FnOk P w K mg base CX k f fd ps sp) (G : FnOk P w K mg base CX k f fd ps sp2) : FnOk P w K mg base CX k f fd ps (fun vs H Q E => sp vs H Q E ∨ sp2 vs H Q E) :=
  ⟨fun vs H Q E h => h.elim (F.len vs H Q E) (G.len vs H Q E), fun A outer s H args us vs Q E hr e0 hb r h => h.elim (F.run A outer s H args us vs Q E hr e0 hb r) (G.run A outer s H args us vs Q E hr e0 hb r)⟩
end
section
variable {X : Cx} {CX : CXT} {k : Nat} {f C : Addr} {fd : FuncData} {ps : List Str} {sp : Sp} {E : L2.St → XK} {x : Str} {p pos : Pos} {e : Expr} {es : List Expr} {t : TA}
/-- C(..), its __init__ may raise; what is let out may hang on the names as they stand -/
def tMakeS (C : Addr) (sp : Sp) (E : L2.St → XK) (t : TA) : TE := fun σ H Q => t σ H fun vs H1 => ∀ x dx, H1 x = none → H1 dx = none → dx ≠ x → sp (.ref x :: vs) (upd (upd H1 dx (.own x)) x (.ins C dx [])) (fun v H2 => v = .non ∧ Q (.ref x) H2) (E σ)
theorem pe_makeS (M : Mk X.K C f) (F : FnOk X.prog X.w X.K X.mg X.base CX k f fd ps sp) (hr : Room (k + 1) X.A) (hm : X.mg x = some (.ref C)) (hb : Binds X.K fd ps []) (hx : ∀ σ, PassesAt CX X σ (E σ)) (ha : PA X (e :: es) t) (hg : Gl X x := by rfl)
    (hdb : (x == ("__debug__" : Str)) = false := by decide) (he : starEach (e :: es) X.env = (false, eval e X.env) :: starEach es X.env := by rfl) (hpl : (backTo pos (starEach es X.env)).any (·.1) = false := by rfl) : PE X (.Call (.Name x p) (e :: es) [] pos) (tMakeS C sp E t) := by
  refine ⟨fun pins s σ H Q I h => ?_⟩
  refine wpAny_Call_Name_kw (ld_glob I hg hm ?_ hdb)
  refine PySem.W.callWith_K (h₀ := X.base) I.ok.mod.kin M.kp (thn (ha.run pos pins s σ H _ I h) fun us s1 ⟨vs, H1, I1, r, q⟩ => ⟨I1.kIn, ?_⟩) he hpl
  have hq := q (s1.heap.objs.size + 1) s1.heap.objs.size (I1.hok.fresh (Nat.le_succ _)) (I1.hok.fresh (Nat.le_refl _)) (Nat.ne_of_lt (Nat.lt_succ_self _))
  have I2 := Inv.made (C := C) I1
  have r2 : Vals (V.ref (s1.heap.objs.size + 1) :: vs) (Value.ref (s1.heap.objs.size + 1) :: us) := .cons rfl r
  have hl : (Value.ref (s1.heap.objs.size + 1) :: us ++ []).length = ps.length := by
    have z := r2.length
    rw [F.len _ _ _ _ hq] at z
    rw [List.append_nil]
    exact z.symm
  have b := hb _ (Value.ref (s1.heap.objs.size + 1) :: us) I2.kIn hl
  rw [List.append_nil] at b
  refine wpAny_call (make_map (f := f) I1.kIn M.makes M.init (beq_iff_eq.mp M.fn) (codeAny_mono (F.run _ X.stack _ _ ⟨Value.ref (s1.heap.objs.size + 1) :: us, []⟩ (Value.ref (s1.heap.objs.size + 1) :: us) _ _ (E σ) (hr.make C us []) (I2.env0.make C us []) b r2 hq) fun r s' z => ?_))
  cases r with
  | error er => exact hx σ pins _ _ er s' I2 z
  | ok fl =>
    cases fl with
    | ret u =>
      obtain ⟨v, H', I3, rv, ev, q3⟩ := I2.after z
      subst ev
      exact ⟨rv, ⟨V.ref (s1.heap.objs.size + 1), H', I3, rfl, q3⟩⟩
    | next => exact False.elim z
    | brk => exact False.elim z
    | cont => exact False.elim z
end
/-! ### the exception that a suite holds -/
section
variable {X : Cx} {a C : Addr} {oe : Obj} {cls : Value} {d : Option Addr} {pn : List (Addr × Obj)}
/-- isinstance(e, c), e with its dict -/
def rIsH (K : PySem.W.Frag) (a : Addr) (cls : Value) (d : Option Addr) : List V → Hp → VK → Prop := fun xs H Q => ∃ (C dd : Addr) (fs : List (Str × V)) (c : V) (cv : Value) (b : Bool), xs = [.ref a, c] ∧ cls = .ref C ∧ d = some dd ∧ H dd = some (.xd fs) ∧ ExcC K C ∧ ClsV c cv ∧ PySem.W.kitOne K (.ref C) cv = some b ∧ Q (.bl b) H
theorem call_isH (hz : Zc cls d oe) (hf : ∃ vs, oe.data = .fields vs) : CallR (X.suite a ((a, oe) :: pn)) (.builtin "isinstance") (rIsH X.K a cls d) := by
  intro pins s σ H xs us Q I r h
  obtain ⟨C, dd, fs, c, cv, b, rfl, rfl, rfl, hx, T, hc, e, q⟩ := h
  obtain ⟨u1, u2, rfl, r1, r2⟩ := vals2 r
  cases r1
  have ec := hc.eq r2
  subst ec
  obtain ⟨hget, _⟩ := I.pin (a, oe) (List.mem_append.mpr (.inl List.mem_cons_self))
  obtain ⟨vs, hv⟩ := hf
  obtain ⟨mA, hns, hr⟩ : ObjOk X.prog X.w H s.heap dd (.xd fs) := I.hok dd _ hx
  obtain ⟨od, ho, _⟩ := lookIn_ns hns
  have J : PySem.W.InstAt s.heap a oe C (some od) := ⟨hget, hz.1, by unfold PySem.W.notCls; rw [hv] <;> rfl, by rw [hz.2]; exact ho⟩
  have cl : (PySem.W.clsIn X.K C).isSome = true := by
    obtain ⟨cd, h, _⟩ := PySem.W.any_some T.hd
    rw [h]
    rfl
  exact PySem.W.kia_one (PySem.W.kitx_exc cl T.hg T.hk T.hs T.ha T.hn T.ht T.hm) I.kIn J e (fun z => nomatch z) fun tk => ⟨.bl b, H, I.kept (t' := tk) fun _ _ z => z, rfl, q⟩
end
end Fk

/-! Forkpolls: data of any kind as arguments. -/
namespace Fk
open PySem PySem.Spec PyProof.Rows L2
def tyD : PyData → String
  | .none => "NoneType"
  | .bool _ => "bool"
  | .int _ => "int"
  | .str _ => "str"
  | .list _ => "list"
  | .tuple _ => "tuple"
  | .dict _ => "dict"
section
variable {K : PySem.W.Frag} {R : Res} {H : Hp} {v : V} {d : PyData}
theorem ty_dp (h : Dp K H v d) : TyX K H v (.type (tyD d)) := by
  cases h with
  | non => exact .base .non
  | bl b => exact .base (.bl b)
  | int i => exact .base (.int i)
  | str z => exact .base (.str z)
  | lst h _ =>
    rcases h with (h | ⟨o, h⟩) | ⟨o, its, n, h, c, _⟩
    · exact .base (.lst h)
    · exact .base (.frz h)
    · exact .kList h c
  | tup h _ =>
    rcases h with (h | ⟨o, h⟩) | ⟨o, its, n, h, c, _⟩
    · exact .base (.tup h)
    · exact .fTuple h
    · exact .kTuple h c
theorem ty_rp (h : Rp K R d v H) : Al R (fun H' => TyX K H' v (.type (tyD d))) H := fun H' g => ty_dp (h H' g)
def isID : PyData → Bool
  | .int _ => true
  | _ => false
def isBD : PyData → Bool
  | .bool _ => true
  | _ => false
def isSD : PyData → Bool
  | .str _ => true
  | _ => false
theorem kitD_int : ∀ d : PyData, PySem.W.kitOne K (.type (tyD d)) (.type "int") = some (isID d || isBD d)
  | .none => kit_ty (show kitB "NoneType" "int" = some false by decide +kernel)
  | .bool _ => kit_ty (show kitB "bool" "int" = some true by decide +kernel)
  | .int _ => kit_ty (show kitB "int" "int" = some true by decide +kernel)
  | .str _ => kit_ty (show kitB "str" "int" = some false by decide +kernel)
  | .list _ => kit_ty (show kitB "list" "int" = some false by decide +kernel)
  | .tuple _ => kit_ty (show kitB "tuple" "int" = some false by decide +kernel)
  | .dict _ => kit_ty (show kitB "dict" "int" = some false by decide +kernel)
theorem kitD_bool : ∀ d : PyData, PySem.W.kitOne K (.type (tyD d)) (.type "bool") = some (isBD d)
  | .none => kit_ty (show kitB "NoneType" "bool" = some false by decide +kernel)
  | .bool _ => kit_ty (show kitB "bool" "bool" = some true by decide +kernel)
  | .int _ => kit_ty (show kitB "int" "bool" = some false by decide +kernel)
  | .str _ => kit_ty (show kitB "str" "bool" = some false by decide +kernel)
  | .list _ => kit_ty (show kitB "list" "bool" = some false by decide +kernel)
  | .tuple _ => kit_ty (show kitB "tuple" "bool" = some false by decide +kernel)
  | .dict _ => kit_ty (show kitB "dict" "bool" = some false by decide +kernel)
theorem kitD_str : ∀ d : PyData, PySem.W.kitOne K (.type (tyD d)) (.type "str") = some (isSD d)
  | .none => kit_ty (show kitB "NoneType" "str" = some false by decide +kernel)
  | .bool _ => kit_ty (show kitB "bool" "str" = some false by decide +kernel)
  | .int _ => kit_ty (show kitB "int" "str" = some false by decide +kernel)
  | .str _ => kit_ty (show kitB "str" "str" = some true by decide +kernel)
  | .list _ => kit_ty (show kitB "list" "str" = some false by decide +kernel)
  | .tuple _ => kit_ty (show kitB "tuple" "str" = some false by decide +kernel)
  | .dict _ => kit_ty (show kitB "dict" "str" = some false by decide +kernel)
/-- isinstance(data, a built-in class) -/
theorem ev_isD {σ : L2.St} {ta tb : TE} {n : String} {b : Bool} (h : EvP R ta σ H (Rp K R d)) (hb : EvP R tb σ H (Is (.ty n))) (k : PySem.W.kitOne K (.type (tyD d)) (.type n) = some b) : EvP R (tCB (rIsi K) (tCons ta (tCons tb tNil))) σ H (Is (.bl b)) :=
  ev_cb (ea_cons stb_rp h (ea_is hb ea_nil)) fun vs H1 g ps Q q => by
    match vs, ps with
    | [u, c], ⟨hu, e, _⟩ =>
      cases e
      exact ⟨u, .ty n, _, _, b, rfl, .ty n, ty_dp (hu.now g.1), k, q _ H1 g.at rfl⟩
end
/-! ### in a tuple, over data -/
section
variable {X : Cx}
def rInDT (K : PySem.W.Frag) : R2 := fun x y H Q => ∃ d ds, Dp K H x d ∧ Dp K H y (.tuple ds) ∧ SeqAt.shaped d = true ∧ SeqAt.shaped (.tuple ds) = true ∧ Q (.bl (ds.any fun z => PyData.eqv z d)) H
theorem op_inDT (hu : X.A.units + 65 < cLine) : OpR X (compareOp .In) (rInDT X.K) := by
  intro pins s σ H x y v u Q I rx ry h
  obtain ⟨d, ds, hd, he, sd, se, q⟩ := h
  obtain ⟨as, r1⟩ := Dp.reads I d x v hd rx
  obtain ⟨bs, r2⟩ := Dp.reads I (.tuple ds) y u he ry
  exact SeqAt.in_tuple_reads r2 r1 (SeqAt.canLay_of_shaped se) (SeqAt.canLay_of_shaped sd) (PyProof.Rows.room_in_shaped sd hu) ⟨.bl _, H, I, rfl, q⟩
end
section
variable {K : PySem.W.Frag} {R : Res} {σ : L2.St} {H : Hp} {ta tb : TE} {d : PyData} {ds : List PyData}
theorem ev_inDT (sd : SeqAt.shaped d = true) (se : SeqAt.shaped (.tuple ds) = true) (ha : EvP R ta σ H (Rp K R d)) (hb : EvP R tb σ H (Rp K R (.tuple ds))) : EvP R (tOp (rInDT K) ta tb) σ H (Is (.bl (ds.any fun z => PyData.eqv z d))) :=
  ev_op stb_rp ha hb fun x y H1 g hx hy Q q => ⟨d, ds, hx.now g.1, hy.now g.1, sd, se, q _ H1 (Gv.refl g.1) rfl⟩
theorem ev_inDL (sd : SeqAt.shaped d = true) (se : SeqAt.shaped (.list ds) = true) (ha : EvP R ta σ H (Rp K R d)) (hb : EvP R tb σ H (Rp K R (.list ds))) : EvP R (tOp (rInD K) ta tb) σ H (Is (.bl (ds.any fun z => PyData.eqv z d))) :=
  ev_op stb_rp ha hb fun x y H1 g hx hy Q q => ⟨d, ds, hx.now g.1, hy.now g.1, sd, se, q _ H1 (Gv.refl g.1) rfl⟩
end
/-- strings of it are short, and it can be compared -/
structure ArgD (d : PyData) : Prop where
  sh : SeqAt.shaped d = true
  st : ∀ z, d = .str z → z.length ≤ 1000
def nameD : PyData → Bool
  | .str z => nameS z
  | _ => false
def addD : PyData → Bool
  | .int i => addOk i
  | _ => false
def inS (ws : List Str) (d : PyData) : Bool := ws.any fun z => PyData.eqv (.str z) d
theorem shapedT_strs (zs : List Str) (h : ∀ z, z ∈ zs → PyData.strOk z = true) : SeqAt.shaped (.tuple (zs.map PyData.str)) = true := by
  have h1 : PyData.canLayAll0 (zs.map PyData.str) = true := canLay_strs zs h
  have h2 : (PyData.tuple (zs.map PyData.str)).depth ≤ 1 := depth_strs zs
  show (PyData.canLayAll0 (zs.map PyData.str) && decide ((PyData.tuple (zs.map PyData.str)).depth ≤ 64)) = true
  rw [h1, decide_eq_true (by omega)]
  rfl
theorem any_strs (zs : List Str) (d : PyData) : ((zs.map PyData.str).any fun z => PyData.eqv z d) = inS zs d := by
  unfold inS
  rw [List.any_map]
  rfl
theorem ev_tupStrs {K : PySem.W.Frag} {R : Res} {σ : L2.St} {H : Hp} {te : TE} {zs : List Str} (h : EvP R te σ H (IsU K R (zs.map V.str))) : EvP R te σ H (Rp K R (.tuple (zs.map PyData.str))) := ev_imp h fun u H' g ⟨p, e, hp⟩ => e ▸ fun H2 g2 => .tup (hp H2 g2) (dpAll_strs zs)
end Fk

/-! Forkpolls: an own exception class over ValueError that is raised. -/
namespace Fk
open PySem PySem.Spec PyProof.Rows L2
theorem oexVE {K : PySem.W.Frag} {nm q : Str} {C N : Addr} {bs bm : List Value} {sn : List Str} {sub : List Value} {ab : Bool} {col : Option Bool} {dd : Option Addr} {k0 k1 k2 k3 k5 : Option Value} (l : K.lookup C = some (excClassObj nm q C N bs bm true sn sub ab col dd k0 k1 k2 k3 k5 "ValueError.__new__")) (p : xpassVE bm = true)
    (sa : PySem.W.findIn K (.ref C) "__setattr__" = some (some (.builtin "object.__setattr__"))) (ex : PySem.W.subIn K (.ref C) (.type "BaseException") = some true) (ty : PySem.W.typeIn K (.ref C) = some (.type "type")) (kC : PySem.W.keepIn K (.ref C) = true) : OexC K C := ⟨⟨nm, q, N, bs, bm, sn, sub, ab, col, dd, k0, k1, k2, k3, k5, l, p⟩, sa, ex, ty, kC⟩
theorem room65 {k : Nat} {A : Around} (r : Room k A) : A.units + 65 < cLine := by
  have := r.un
  omega
end Fk

/-! Forkpolls: calls that may raise. -/
namespace Fk
open PySem PySem.Spec PyProof.Rows L2
section
variable {X : Cx} {CX : CXT} {k j : Nat} {x : Str} {sp : Sp} {E : L2.St → XK} {p pos : Pos} {e : Expr} {es : List Expr} {t : TA}
theorem pe_calS (c : CalX X.prog X.w X.K X.mg X.base CX k x sp) (hr : Room j X.A) (hk : k ≤ j) (hx : ∀ σ, PassesAt CX X σ (E σ)) (ha : PA X (e :: es) t) (hg : Gl X x := by rfl) (hdb : (x == ("__debug__" : Str)) = false := by decide)
    (he : starEach (e :: es) X.env = (false, eval e X.env) :: starEach es X.env := by rfl) (hpl : (backTo pos (starEach es X.env)).any (·.1) = false := by rfl) : PE X (.Call (.Name x p) (e :: es) [] pos) (tCallS sp E t) := by
  obtain ⟨f, fd, ps, F, g, kp, b⟩ := c
  exact pe_callS F (hr.mono hk) hg g kp b hx ha hdb he hpl
end
theorem s_dropS {R : Res} {σ : L2.St} {H Hc : Hp} {D : Ends} {sp : Sp} {E : L2.St → XK} {t : TA} {Ps : List VP} (h : EvA R t σ H Ps) (g : Gr R H Hc) (k : ∀ vs H1, Gr R H H1 → Gv R Hc H1 → PsOk Ps vs H1 → sp vs H1 (fun _ H2 => D.nx σ H2) (E σ)) : tDrop (tCallS sp E t) D σ Hc := h Hc g _ fun vs H1 g1 ps => k vs H1 (g.trans g1) g1 ps
/-- data stand while one instance changes -/
theorem dpq_add {K : PySem.W.Frag} {H : Hp} {a C dx : Addr} {fs : List (Str × V)} {v : V} {d : PyData} (ha : H a = some (.ins C dx fs)) (h : Dp K H v d) : Rp K (Free.add a) d v H := by
  have sq : ∀ {p : Addr} {o : HO}, H p = some o → (∀ C dx fs, o ≠ .ins C dx fs) → ∀ H', Gr (Free.add a) H H' → H' p = some o := fun {p o} hp ho H' g => g.2 p o hp List.not_mem_nil (fun z => by
    have e : p = a := by simpa [Res.add, Free] using z
    rw [e, ha] at hp
    exact ho _ _ _ (Option.some.inj hp).symm)
  have key : ∀ (d : PyData) (v : V), Dp K H v d → ∀ H', Gr (Free.add a) H H' → Dp K H' v d := by
    intro d
    refine PyData.rec (motive_1 := fun d => ∀ v, Dp K H v d → ∀ H', Gr (Free.add a) H H' → Dp K H' v d) (motive_2 := fun ds => ∀ vs, DpAll K H vs ds → ∀ H', Gr (Free.add a) H H' → DpAll K H' vs ds) (motive_3 := fun _ => True) (motive_4 := fun _ => True) ?_ ?_ ?_ ?_ ?_ ?_ ?_ ?_ ?_ ?_ ?_ ?_ d
    all_goals first
      | exact True.intro
      | (intros; exact True.intro)
      | skip
    · intro v h H' g; cases h; exact .non
    · intro b v h H' g; cases h; exact .bl b
    · intro i v h H' g; cases h; exact .int i
    · intro z v h H' g; cases h; exact .str z
    · intro ds ih v h H' g
      cases h with
      | lst h1 h2 =>
        refine .lst ?_ (ih _ h2 H' g)
        rcases h1 with (h1 | ⟨o, h1⟩) | h1
        · exact .inl (.inl (sq h1 (fun _ _ _ z => nomatch z) H' g))
        · exact .inl (.inr ⟨o, sq h1 (fun _ _ _ z => nomatch z) H' g⟩)
        · exact .inr h1
    · intro ds ih v h H' g
      cases h with
      | tup h1 h2 =>
        refine .tup ?_ (ih _ h2 H' g)
        rcases h1 with (h1 | ⟨o, h1⟩) | h1
        · exact .inl (.inl (sq h1 (fun _ _ _ z => nomatch z) H' g))
        · exact .inl (.inr ⟨o, sq h1 (fun _ _ _ z => nomatch z) H' g⟩)
        · exact .inr h1
    · intro kvs _ v h H' g; cases h
    · intro vs h H' g; cases h; exact .nil
    · intro d ds i1 i2 vs h H' g
      cases h with
      | cons h1 h2 => exact .cons (i1 _ h1 H' g) (i2 _ h2 H' g)
  exact fun H' g => key d v h H' g
end Fk

/-! Forkpolls: data that is drawn; a comprehension of a drawn number of turns. -/
namespace Fk
open PySem PySem.Spec PyProof.Rows L2
theorem ev_intsD {K : PySem.W.Frag} {R : Res} {σ : L2.St} {H : Hp} {te : TE} {zs : List Int} (h : EvP R te σ H (LstN R (zs.map V.int))) : EvP R te σ H (Rp K R (dInts zs)) := ev_imp h fun u H' g ⟨p, e, hp, hd⟩ => e ▸ fun H2 g2 => .lst (.inl (.inl (g2.2 p _ hp hd.1 hd.2))) (dpAll_ints zs)
theorem call_isiK {X : Cx} {K : PySem.W.Frag} (h : X.K = K) : CallR X (.builtin "isinstance") (rIsi K) := h ▸ call_isi
/-- a test of which nothing is known -/
def EvB (R : Res) (t : TT) (σ : L2.St) (H : Hp) : Prop := ∀ H1, Gr R H H1 → ∀ Q : Bool → Hp → Prop, (∀ b H2, Gv R H1 H2 → Q b H2) → t σ H1 Q
section
variable {R : Res} {σ : L2.St} {H Hc : Hp} {t u : TT} {te ta tb : TE} {D : Ends} {tu tw : TS} {P : VP}
theorem eb_of {b : Bool} (h : EvT R t σ H b) : EvB R t σ H := fun H1 g Q q => h H1 g Q fun H2 g2 => q b H2 g2
theorem eb_test (h : EvP R te σ H fun v _ => ∃ b, v = .bl b) : EvB R (tTest te) σ H := fun H1 g Q q => h H1 g _ fun v H2 g2 ⟨b, e⟩ => ⟨b, e, q b H2 g2⟩
theorem eb_and (h1 : EvB R t σ H) (h2 : EvB R u σ H) : EvB R (tAnd t u) σ H := fun H1 g Q q => h1 H1 g _ fun b H2 g2 => by
  cases b with
  | true => exact (if_pos rfl).mpr (h2 H2 (g.trans g2) Q fun b H3 g3 => q b H3 (g2.trans g3))
  | false => exact (if_neg Bool.false_ne_true).mpr (q false H2 g2)
theorem s_ifB (h : EvB R t σ H) (g : Gr R H Hc) (h1 : ∀ H1, Gr R H H1 → Gv R Hc H1 → tu D σ H1) (h2 : ∀ H1, Gr R H H1 → Gv R Hc H1 → tw D σ H1) : tIfS t tu tw D σ Hc := h Hc g _ fun b H1 g1 => by
  cases b with
  | true => exact (if_pos rfl).mpr (h1 H1 (g.trans g1) g1)
  | false => exact (if_neg Bool.false_ne_true).mpr (h2 H1 (g.trans g1) g1)
theorem ev_ifB (h : EvB R t σ H) (h1 : EvP R ta σ H P) (h2 : EvP R tb σ H P) : EvP R (tIf t ta tb) σ H P := fun H1 g Q q => h H1 g _ fun b H2 g2 => by
  cases b with
  | true => exact (if_pos rfl).mpr (h1 H2 (g.trans g2) Q fun v H3 g3 => q v H3 (g2.trans g3))
  | false => exact (if_neg Bool.false_ne_true).mpr (h2 H2 (g.trans g2) Q fun v H3 g3 => q v H3 (g2.trans g3))
end
/-- of this depth, to be compared, its texts short -/
structure TD (n : Nat) (d : PyData) : Prop where
  c : d.canLay0 = true
  p : d.depth ≤ n
  s : ∀ z, d = .str z → z.length ≤ 1000
theorem TD.arg {n : Nat} {d : PyData} (h : TD n d) (hn : n ≤ 64) : ArgD d := by
  refine ⟨?_, h.s⟩
  show (d.canLay0 && decide (d.depth ≤ 64)) = true
  rw [h.c, decide_eq_true (Nat.le_trans h.p hn)]
  rfl
theorem td_all {n : Nat} : ∀ {ds : List PyData}, (∀ d, d ∈ ds → TD n d) → PyData.canLayAll0 ds = true ∧ PyData.depthAll ds ≤ n
  | [], _ => ⟨rfl, Nat.zero_le _⟩
  | d :: ds, h => by
    obtain ⟨i1, i2⟩ := td_all fun e he => h e (List.mem_cons_of_mem _ he)
    have hd := h d List.mem_cons_self
    refine ⟨?_, ?_⟩
    · show (d.canLay0 && PyData.canLayAll0 ds) = true
      rw [hd.c, i1]
      rfl
    · have := hd.p
      simp only [PyData.depthAll]
      omega
theorem td_list {n : Nat} {ds : List PyData} (h : ∀ d, d ∈ ds → TD n d) : TD (n + 1) (.list ds) ∧ TD (n + 1) (.tuple ds) := by
  obtain ⟨a, b⟩ := td_all h
  refine ⟨⟨a, ?_, fun z e => nomatch e⟩, ⟨a, ?_, fun z e => nomatch e⟩⟩ <;> (simp only [PyData.depth]; omega)
def tdB (v : V) : Bool := flatV v && (PyData.canLay0 (toD v) && decide ((toD v).depth ≤ 0) && (match v with | .str z => decide (z.length ≤ 1000) | _ => true))
theorem td_flat {xs : List V} (h : xs.all tdB = true) {v : V} (hv : v ∈ xs) : flatV v = true ∧ TD 0 (toD v) := by
  obtain ⟨a, b⟩ := Bool.and_eq_true_iff.mp (List.all_eq_true.mp h v hv)
  obtain ⟨b, c⟩ := Bool.and_eq_true_iff.mp b
  obtain ⟨b1, b2⟩ := Bool.and_eq_true_iff.mp b
  refine ⟨a, b1, of_decide_eq_true b2, fun z e => ?_⟩
  cases v with
  | str y => cases e; exact of_decide_eq_true c
  | _ => simp [toD] at e
theorem TD.mono {n m : Nat} {d : PyData} (h : TD n d) (k : n ≤ m) : TD m d := ⟨h.c, Nat.le_trans h.p k, h.s⟩
/-- a list that is new since H -/
theorem ev_lstW {R : Res} {σ : L2.St} {H : Hp} {ts : TA} {Ps : List VP} (s : ∀ P, P ∈ Ps → Stb R P) (h : EvA R ts σ H Ps) (hl : Ps.length ≤ 1000) : EvP R (tLst ts) σ H (fun u H' => ∃ p xs, u = .ref p ∧ H' p = some (.lst xs) ∧ PsOk Ps xs H' ∧ H p = none) := fun H1 g Q q =>
  h H1 g _ fun vs H2 g2 ps => ⟨by rw [psOk_len ps]; exact small hl, fun p hp => q _ _ (g2.trans (Gv.new g2.1.1 hp)) ⟨p, vs, rfl, upd_same, psOk_stb s (Gv.new g2.1.1 hp).1 ps, (g.trans g2).back hp⟩⟩
/-- v shows d by what is new since H0 -/
def RpN (K : PySem.W.Frag) (H0 : Hp) (d : PyData) (v : V) (H' : Hp) : Prop := ∀ H2, (∀ x o, H0 x = none → H' x = some o → H2 x = some o) → Dp K H2 v d
theorem rpN_rp {K : PySem.W.Frag} {R : Res} {H0 H' : Hp} {d : PyData} {v : V} (j : R.J H0) (h : RpN K H0 d v H') : Rp K R d v H' := fun H2 g => h H2 fun x o n e => g.2 x o e (off j n).1 (off j n).2
/-- a source of at most N turns -/
def EvU (R : Res) (wi : TI) (σ : L2.St) (H : Hp) (N : Nat) (Y : Nat → Hp → V → Hp → Prop) : Prop :=
  ∀ H1, Gr R H H1 → ∀ Z : It → Hp → Prop, (∀ J n H2 G, n ≤ N → Gv R H1 H2 → Walk J n G Y → Al R G H2 → Z J H2) → wi σ H1 Z
section
variable {K : PySem.W.Frag} {R : Res} {σ : L2.St} {H : Hp} {te : TE} {tt : TT} {wi : TI} {N : Nat} {Y : Nat → Hp → V → Hp → Prop} {vs : List Nat} {ta : TE}
theorem eu_range {m : Int} (h : EvP R ta σ H (fun u _ => ∃ i : Int, u = .int i ∧ 0 ≤ i ∧ i < m)) (hm : m ≤ 100000) : EvU R (iRng1 (tCons ta tNil)) σ H m.toNat (YFn fun i => .int (i : Int)) := fun H1 a Z k =>
  (ea_cons (P := fun u _ => ∃ i : Int, u = .int i ∧ 0 ≤ i ∧ i < m) (fun _ _ _ _ h => h) h ea_nil) H1 a _ fun us H2 a2 ps => by
    match us, ps with
    | [u], ⟨⟨i, e, i0, i1⟩, _⟩ =>
      cases e
      exact ⟨i, rfl, by omega, by omega, k _ i.toNat H2 _ (by omega) a2 (walk_range.mono (fun _ _ => True.intro) fun j H x H' _ _ y => ⟨y.1, y.2.trans (congrArg V.int (Int.zero_add _))⟩) fun _ _ => True.intro⟩
theorem ev_lcU {j : Nat} {Z : Nat → V → Prop} (Pe : Res → VP) (hw : EvU R wi σ H N Y) (hn : N ≤ 1000) (hY : ∀ R' i H x H', Res.J R' H → i < N → Y i H x H' → Gv R' H H' ∧ Z i x)
    (hσ : ∀ x, wipe ((wipe σ vs).set j (some x)) vs = wipe σ vs) (st : ∀ R', Stb R' (Pe R')) (out : ∀ D v H' xs, H' D = some (.lst xs) → (D ∉ R.D ∧ D ∉ R.h) → Pe (R.add D) v H' → Pe R v H')
    (he : ∀ D, H D = none → ∀ i x, i < N → Z i x → EvP (R.add D) te ((wipe σ vs).set j (some x)) H (Pe (R.add D))) :
    EvP R (tLc wi (gName j) tYes te vs) σ H (fun u H => ∃ n, n ≤ N ∧ LsOk R (gl n (fun _ => true) fun _ => Pe R) u H) := fun H0 a0 Q q => hw H0 a0 _ fun J n H1 G hnN a1 W hG => fun D hD => by
  have hd := off a1.1.1 hD
  have hD0 : H D = none := (a0.trans a1).back hD
  have ne : ∀ x, x ∈ R.h → x ≠ D := fun x hx z => hd.2 (by rw [← z]; exact hx)
  have base : ∀ {H2 : Hp}, Gr (R.add D) H1 H2 → Gr (R.add D) H H2 := fun {H2} g => ⟨g.1, fun x o e m k => g.2 x o ((a0.trans a1).2 x o e m fun z => k (List.mem_cons_of_mem _ z)) m k⟩
  refine lc_it W (fun i H' => (Gr (R.add D) H1 H' ∧ ∀ x, x ∈ R.h → H' x = H1 x) ∧ ∃ xs, H' D = some (.lst xs) ∧ PsOk (gl i (fun _ => true) fun _ => Pe (R.add D)) xs H') ⟨⟨add_new a1.1.1 hD, fun x hx => upd_ne (ne x hx)⟩, [], upd_same, True.intro⟩ (fun i H' hi p => hG H' (add_into hD p.1.1)) (fun i x H2 H3 hi p y => ?_) fun H' p => ?_
  · obtain ⟨⟨g2, k2⟩, xs, hx, ps⟩ := p
    obtain ⟨g3, z⟩ := hY (R.add D) i H2 x H3 g2.1 (by omega) y
    refine ⟨hσ x, (et_yes (R := R.add D) (H := H3)) H3 (Gr.refl g3.1.1) _ fun H4 g4 => ?_⟩
    have g34 := g3.trans g4
    have keep : ∀ {A B : Hp}, Gr (R.add D) A B → PsOk (gl i (fun _ => true) fun _ => Pe (R.add D)) xs A → PsOk (gl i (fun _ => true) fun _ => Pe (R.add D)) xs B := fun {A B} g h => psOk_imp (fun k _ v pv => st (R.add D) v A B g pv) h
    have inh : ∀ x, x ∈ R.h → x ∈ (R.add D).h := fun x hx => List.mem_cons_of_mem _ hx
    refine (if_pos rfl).mpr (he D hD0 i x (by omega) z H4 (base (g2.trans g34)) _ fun v H5 g5 pv => ?_)
    have g25 := g34.trans g5
    have hD5 : H5 D = some (.lst xs) := (g25.2 D List.mem_cons_self).trans hx
    have ps5 := keep g25.1 ps
    have gm : Gr (R.add D) H5 (upd H5 D (.lst (xs ++ [v]))) := add_mut hd g5.at.1
    refine ⟨xs, hD5, ?_, ⟨(g2.trans g25).tr gm, fun x hx => (upd_ne (ne x hx)).trans ((g25.2 x (inh x hx)).trans (k2 x hx))⟩, _, upd_same, ?_⟩
    · have := psOk_len ps5
      have := gl_len (n := i) (fun _ => true) (fun _ => Pe (R.add D))
      exact small1000 (by omega)
    · rw [gl_yes rfl]
      exact psOk_snoc (keep gm ps5) (st _ v _ _ gm pv)
  · obtain ⟨⟨g2, k2⟩, xs, hx, ps⟩ := p
    have gr : Gv R H1 H' := ⟨add_into hD g2, k2⟩
    exact q _ _ (a1.trans gr) ⟨n, hnN, D, xs, rfl, hx, hd, psOk_imp (fun i _ v pv => out D v H' xs hx hd pv) ps⟩
end
end Fk

/-! Forkpolls: a caught exception asked and read; list(range(n)); a for over a new list. -/
namespace Fk
open PySem PySem.Spec PyProof.Rows L2
section
variable {X : Cx} {a C : Addr} {oe : Obj} {cls : Value} {d : Option Addr} {pn : List (Addr × Obj)}
/-- isinstance(e, (c1, c2, ..)) -/
def rIsHT (K : PySem.W.Frag) (a : Addr) (cls : Value) (d : Option Addr) : List V → Hp → VK → Prop := fun xs H Q => ∃ (C dd : Addr) (fs : List (Str × V)) (tp : Addr) (cs : List V) (us : List Value) (b : Bool), xs = [.ref a, .ref tp] ∧ cls = .ref C ∧ d = some dd ∧ H dd = some (.xd fs) ∧ ExcC K C ∧ H tp = some (.tup cs) ∧ Paired ClsV cs us ∧ PySem.W.kitAny K (.ref C) us = some b ∧ Q (.bl b) H
theorem call_isHT (hz : Zc cls d oe) (hf : ∃ vs, oe.data = .fields vs) : CallR (X.suite a ((a, oe) :: pn)) (.builtin "isinstance") (rIsHT X.K a cls d) := by
  intro pins s σ H xs us Q I r h
  obtain ⟨C, dd, fs, tp, cs, ws, b, rfl, rfl, rfl, hx, T, hT, k, e, q⟩ := h
  obtain ⟨u1, u2, rfl, r1, r2⟩ := vals2 r
  cases r1
  cases r2
  obtain ⟨hget, _⟩ := I.pin (a, oe) (List.mem_append.mpr (.inl List.mem_cons_self))
  obtain ⟨vs, hv⟩ := hf
  obtain ⟨mA, hns, hr⟩ : ObjOk X.prog X.w H s.heap dd (.xd fs) := I.hok dd _ hx
  obtain ⟨od, ho, _⟩ := lookIn_ns hns
  have J : PySem.W.InstAt s.heap a oe C (some od) := ⟨hget, hz.1, by unfold PySem.W.notCls; rw [hv] <;> rfl, by rw [hz.2]; exact ho⟩
  have cl : (PySem.W.clsIn X.K C).isSome = true := by
    obtain ⟨cd, h, _⟩ := PySem.W.any_some T.hd
    rw [h]
    rfl
  obtain ⟨_, its, rv, o, h1, h2, n, h3⟩ : ObjOk X.prog X.w H s.heap tp (.tup cs) := I.hok tp _ hT
  have e3 := ClsV.all k rv
  subst e3
  obtain ⟨oc, od2, dt, sl⟩ := o
  simp only at h2 h3
  subst h2 h3
  exact PySem.W.kia_tup (PySem.W.kitx_exc cl T.hg T.hk T.hs T.ha T.hn T.ht T.hm) I.kIn J h1 e (fun z => nomatch z) fun tk => ⟨.bl b, H, I.kept (t' := tk) fun _ _ z => z, rfl, q⟩
end
section
variable {K : PySem.W.Frag} {R : Res} {σ : L2.St} {H Hc : Hp} {ta tb te tl : TE} {a C dd : Addr} {fs : List (Str × V)} {cls : Value} {d : Option Addr}
theorem ev_isH {c : V} {cv : Value} {b : Bool} (h : EvP Free ta σ H (Is (.ref a))) (hb : EvP Free tb σ H (Is c)) (k : ClsV c cv) (hx : H dd = some (.xd fs)) (T : ExcC K C) (e : PySem.W.kitOne K (.ref C) cv = some b) : EvP Free (tCB (rIsH K a (.ref C) (some dd)) (tCons ta (tCons tb tNil))) σ H (Is (.bl b)) :=
  ev_cb (ea_is h (ea_is hb ea_nil)) fun vs H1 g ps Q q => by
    cases psOk2 ps
    exact ⟨C, dd, fs, c, cv, b, rfl, rfl, rfl, g.free _ _ hx, T, k, e, q _ H1 g.at rfl⟩
theorem ev_isHT {cs : List V} {us : List Value} {b : Bool} (h : EvP Free ta σ H (Is (.ref a))) (hb : EvP Free tb σ H (TupN Free cs)) (k : Paired ClsV cs us) (hx : H dd = some (.xd fs)) (T : ExcC K C) (e : PySem.W.kitAny K (.ref C) us = some b) : EvP Free (tCB (rIsHT K a (.ref C) (some dd)) (tCons ta (tCons tb tNil))) σ H (Is (.bl b)) :=
  ev_cb (ea_is h (ea_cons stb_tupN hb ea_nil)) fun vs H1 g ps Q q => by
    obtain ⟨u, rfl, p, rfl, hp, _⟩ := psOk_2 ps
    exact ⟨C, dd, fs, p, cs, us, b, rfl, rfl, rfl, g.free _ _ hx, T, hp, k, e, q _ H1 g.at rfl⟩
theorem ev_xf {f : Str} {v : V} (h : EvP Free te σ H (Is (.ref a))) (hx : H dd = some (.xd fs)) (l : fs.lookup f = some v) : EvP Free (tXf a (.ref C) (some dd) C f te) σ H (Is v) := fun H1 g Q q =>
  h H1 g _ fun u H2 g2 e => ⟨e, rfl, dd, fs, v, rfl, (g.trans g2).free _ _ hx, l, q v H2 g2 rfl⟩
/-- an error of the class at C is what «except C» names -/
theorem exm_own (h1 : PySem.W.subIn K (.ref C) (.type "BaseException") = some true) (c : KitC K C) : PySem.W.exmOne K (.ref C) (.ref C) = some true := by
  have e1 : (PySem.W.subIn K (.ref C) (.type "BaseException") == some true) = true := by rw [h1] <;> rfl
  have e2 : ((PySem.W.clsIn K C).isSome && PySem.W.typeIn K (.ref C) == some (.type "type")) = true := by
    have h2' : (PySem.W.clsIn K C).isSome = true := c.ic
    rw [h2', c.ty] <;> rfl
  show (if (PySem.W.subIn K (.ref C) (.type "BaseException") == some true) = true then (if ((PySem.W.clsIn K C).isSome && PySem.W.typeIn K (.ref C) == some (.type "type")) = true then PySem.W.subIn K (.ref C) (.ref C) else none) else none) = some true
  rw [if_pos e1, if_pos e2]
  exact c.me
theorem ev_notN {x : V} (ha : EvP R ta σ H (Is x)) (hb : EvP R tb σ H (Is .non)) : EvP R (tOp (fun x y H Q => y = .non ∧ Q (.bl (!decide (x = .non))) H) ta tb) σ H (Is (.bl (!decide (x = .non)))) := ev_opS ha hb fun H1 g Q q => ⟨rfl, q _ H1 g.at rfl⟩
theorem ev_isN {x : V} (ha : EvP R ta σ H (Is x)) (hb : EvP R tb σ H (Is .non)) : EvP R (tOp (fun x y H Q => y = .non ∧ Q (.bl (decide (x = .non))) H) ta tb) σ H (Is (.bl (decide (x = .non)))) := ev_opS ha hb fun H1 g Q q => ⟨rfl, q _ H1 g.at rfl⟩
/-- xs.index(y) -/
theorem ev_index {ys : List V} {y z : V} {j : Nat} (fy : flatV y = true) (fa : ys.all flatV = true) (hj : ys[j]? = some z) (e : eqV z y = true) (nb : ∀ (m : Nat) (z' : V), m < j → ys[m]? = some z' → eqV z' y = false) (ho : EvP R te σ H (LstN R ys)) (ha : EvP R ta σ H (Is y)) : EvP R (tBM K "list" (rIndex K) te (tCons ta tNil)) σ H (Is (.int (j : Nat))) := fun H0 g0 Q q =>
  ho H0 g0 _ fun x H1 g1 hx => by
    obtain ⟨p, e2, h, hd⟩ := hx
    cases e2
    refine ⟨.inl ⟨rfl, _, .inl (.inl h)⟩, ha H1 (g0.trans g1) _ fun u H2 g2 ek => ?_⟩
    cases ek
    exact ⟨p, ys, y, j, z, rfl, rfl, .inl (.inl (g2.1.2 p _ h hd.1 hd.2)), fy, fa, hj, e, nb, q _ H2 (g1.trans g2) rfl⟩
end
/-! ### list(range(n)) -/
section
variable {X : Cx}
theorem cr_range1 : CallR X (.type "range") (fun vs H Q => ∃ j, vs = [V.int j] ∧ ∀ p, H p = none → Q (.ref p) (upd H p (.rng 0 j))) := by
  intro pins s σ H vs us Q I r h
  obtain ⟨j, rfl, q⟩ := h
  obtain ⟨u1, rfl, rj⟩ := vals1 r
  obtain ⟨t, rfl⟩ := rj
  refine call_range_1 ⟨.ref s.heap.objs.size, upd H s.heap.objs.size (.rng 0 j), I.laid (fun b o e => Heap.get?_push_of_some _ e) (Nat.le_refl _) ?_, rfl, q _ (I.hok.fresh (Nat.le_refl _))⟩
  exact ⟨_, _, _, Heap.get?_push_size _ rfl⟩
def rangeV (n : Nat) : List Int := (List.range n).map fun (i : Nat) => (i : Int)
theorem vals_range {acc : Array Value} {n : Nat} (h : ItemsOf (fun (i : Nat) (v : Value) => ∃ t, v = Value.int (0 + (i : Int) * 1) t) acc n) : Vals ((rangeV n).map V.int) acc.toList := by
  obtain ⟨h1, h2⟩ := h
  have key : ∀ (k : Nat) (xs : List V) (vs : List Value), xs.length = vs.length → (∀ (j : Nat) (v : Value), vs[j]? = some v → ∃ t, v = Value.int (((k + j : Nat) : Int)) t) → (∀ (j : Nat) (x : V), xs[j]? = some x → x = V.int ((k + j : Nat) : Int)) → Vals xs vs := by
    intro k xs
    induction xs generalizing k with
    | nil =>
      intro vs hl _ _
      match vs, hl with
      | [], _ => exact .nil
    | cons x xs ih =>
      intro vs hl hv hx
      match vs, hl with
      | v :: vs, hl =>
        refine .cons ?_ (ih (k + 1) vs (Nat.succ.inj hl) (fun j w e => ?_) fun j y e => ?_)
        · have e1 := hx 0 x rfl
          obtain ⟨t, e2⟩ := hv 0 v rfl
          subst e1 e2
          exact ⟨t, rfl⟩
        · have := hv (j + 1) w (by simpa using e)
          rw [show k + (j + 1) = k + 1 + j by omega] at this
          exact this
        · have := hx (j + 1) y (by simpa using e)
          rw [show k + (j + 1) = k + 1 + j by omega] at this
          exact this
  refine key 0 _ _ ?_ (fun j v e => ?_) fun j x e => ?_
  · unfold rangeV
    simp [h1]
  · rw [Array.getElem?_toList] at e
    obtain ⟨t, rfl⟩ := h2 j v e
    exact ⟨t, by congr 1; omega⟩
  · unfold rangeV at e
    rw [List.getElem?_map, List.getElem?_map] at e
    cases hj : (List.range n)[j]? with
    | none => rw [hj] at e; cases e
    | some m =>
      rw [hj] at e
      have : m = j := by
        obtain ⟨q1, q2⟩ := List.getElem?_eq_some_iff.mp hj
        rw [List.getElem_range] at q2
        exact q2.symm
      cases e
      rw [this, Nat.zero_add]
def rListRng : List V → Hp → VK → Prop := fun xs H Q => ∃ (r : Addr) (n : Nat), xs = [.ref r] ∧ H r = some (.rng 0 (n : Int)) ∧ n ≤ 1000 ∧ ∀ l, H l = none → Q (.ref l) (upd H l (.lst ((rangeV n).map V.int)))
theorem call_list_rng (hc : X.calm = true) : CallR X (.type "list") rListRng := by
  intro pins s σ H xs us Q I r h
  obtain ⟨a, n, rfl, hr, hn, q⟩ := h
  obtain ⟨u, rfl, ru⟩ := vals1 r
  cases ru
  obtain ⟨t, u, v, e⟩ : ObjOk X.prog X.w H s.heap a (.rng 0 (n : Int)) := I.hok a _ hr
  have hsz : Builtin.Range.rangeSize 0 (n : Int) 1 = (n : Int) := by rw [rangeSize_one]; split <;> omega
  refine call_list_range (n := n) (I.ok.hd hc) e ?_ hsz (by omega) fun h' tk acc' c' kp e' it => ?_
  · unfold Builtin.Range.small
    simp [Builtin.Range.rangeFitsLong]
    omega
  · exact ⟨.ref s.heap.objs.size, _, I.laid (t' := tk) kp (Nat.le_refl _) (show ObjOk X.prog X.w _ h' _ (.lst ((rangeV n).map V.int)) from ⟨by rw [List.length_map]; unfold rangeV; rw [List.length_map, List.length_range]; exact small hn, acc'.toList, c', vals_range it, by simpa using e'⟩), rfl, q _ (I.hok.fresh (Nat.le_refl _))⟩
end
section
variable {K : PySem.W.Frag} {R : Res} {σ : L2.St} {H Hc : Hp} {ta tb te tl : TE}
theorem ev_rng1 {n : Int} (ha : EvP R ta σ H (Is (.int n))) : EvP R (tCB (fun vs H Q => ∃ j, vs = [V.int j] ∧ ∀ p, H p = none → Q (.ref p) (upd H p (.rng 0 j))) (tCons ta tNil)) σ H (fun u H' => ∃ p, u = .ref p ∧ H' p = some (.rng 0 n) ∧ (p ∉ R.D ∧ p ∉ R.h)) := ev_cb (ea_is ha ea_nil) fun vs H1 g ps Q q => by
  cases psOk1 ps
  exact ⟨_, rfl, fun p hp => q _ _ (Gv.new g.1 hp) ⟨p, rfl, upd_same, off g.1 hp⟩⟩
theorem ev_rangeV {n : Nat} (hn : n ≤ 1000) (ha : EvP R ta σ H (Is (.int (n : Int)))) : EvP R (tCB rListRng (tCons (tCB (fun vs H Q => ∃ j, vs = [V.int j] ∧ ∀ p, H p = none → Q (.ref p) (upd H p (.rng 0 j))) (tCons ta tNil)) tNil)) σ H (LstN R ((rangeV n).map V.int)) :=
  ev_cb (ea_cons (P := fun u H' => ∃ p, u = .ref p ∧ H' p = some (.rng 0 (n : Int)) ∧ (p ∉ R.D ∧ p ∉ R.h)) (fun _ _ _ g ⟨p, e, h, hd⟩ => ⟨p, e, g.2 p _ h hd.1 hd.2, hd⟩) (ev_rng1 ha) ea_nil) fun vs H1 g ps Q q => by
    match vs, ps with
    | [u], ⟨⟨p, e, h, hd⟩, _⟩ =>
      cases e
      exact ⟨p, n, rfl, h, hn, fun l hl => q _ _ (Gv.new g.1 hl) ⟨l, rfl, upd_same, off g.1 hl⟩⟩
theorem rangeV_mem {n : Nat} {y : Int} (h : y ∈ rangeV n) : ∃ j : Nat, y = (j : Int) ∧ j < n := by
  obtain ⟨j, hj, rfl⟩ := List.mem_map.mp h
  exact ⟨j, rfl, List.mem_range.mp hj⟩
theorem cutV_map {α : Type} (f : α → V) (zs : List α) (lo hi : Option Int) : ∃ ys : List α, cutV (zs.map f) lo hi = ys.map f ∧ (∀ y, y ∈ ys → y ∈ zs) ∧ ys.length ≤ zs.length := by
  refine ⟨(zs.drop (HT.sIx (zs.map f).length 0 lo)).take (HT.sIx (zs.map f).length (zs.map f).length hi - HT.sIx (zs.map f).length 0 lo), ?_, fun y hy => List.mem_of_mem_drop (List.mem_of_mem_take hy), ?_⟩
  · unfold cutV
    rw [List.map_take, List.map_drop]
  · rw [List.length_take, List.length_drop]
    omega
/-- xs[:k], k drawn, of ints: a new list -/
theorem ev_slDraw {φ : Int → Prop} {n : Int} {M : Nat} (ha : EvP R ta σ H (fun u H => ∃ zs : List Int, zs.length ≤ M ∧ (∀ y, y ∈ zs → φ y) ∧ LstN R (zs.map V.int) u H)) (hb : EvP R tb σ H (fun u _ => ∃ i : Int, u = .int i ∧ 0 ≤ i ∧ i < n)) :
    EvP R (tSl (rSlL K) ta tNoPart (tPart tb)) σ H (fun u H' => ∃ l xs, u = .ref l ∧ (∃ ys : List Int, ys.length ≤ M ∧ (∀ y, y ∈ ys → φ y) ∧ xs = ys.map V.int ∧ H l = none) ∧ H' l = some (.lst xs) ∧ (l ∉ R.D ∧ l ∉ R.h)) := fun H0 g0 Q q =>
  ha H0 g0 _ fun x H1 g1 ⟨zs, lz, hz, p, e, h, hd⟩ => hb H1 (g0.trans g1) _ fun y H2 g2 ⟨i, ei, _, _⟩ => ⟨i, ei, p, zs.map V.int, e, .inl (.inl (g2.1.2 p _ h hd.1 hd.2)), fun l hl => by
    obtain ⟨ys, e1, e2, e3⟩ := cutV_map V.int zs none (some i)
    rw [e1]
    exact q _ _ ((g1.trans g2).trans (Gv.new g2.1.1 hl)) ⟨l, _, rfl, ⟨ys, by omega, fun y hy => hz y (e2 y hy), rfl, (g0.trans (g1.trans g2)).back hl⟩, upd_same, off g2.1.1 hl⟩⟩
/-- a for over a list, of which only is said that it stands -/
theorem s_forP {tu : TS} {D : Ends} {g : TG} {P : List V → VP} (h : EvP R tl σ H (fun u H => ∃ p xs, u = .ref p ∧ P xs u H ∧ H p = some (.lst xs) ∧ (p ∉ R.D ∧ p ∉ R.h))) (gc : Gr R H Hc)
    (k : ∀ p xs H1, Gr R H H1 → Gv R Hc H1 → P xs (.ref p) H1 → H1 p = some (.lst xs) → (p ∉ R.D ∧ p ∉ R.h) → ∃ Pv : Nat → L2.St → Hp → Prop, Pv 0 σ H1 ∧ (∀ i σ' H', i ≤ xs.length → Pv i σ' H' → H' p = some (.lst xs)) ∧
      (∀ i x σ' H', i < xs.length → Pv i σ' H' → xs[i]? = some x → g x σ' H' fun σ2 H3 => tu { D with nx := Pv (i + 1), ct := Pv (i + 1), bk := D.nx } σ2 H3) ∧ ∀ σ' H', Pv xs.length σ' H' → D.nx σ' H') :
    tFor (iList K tl) g tu D σ Hc := h Hc gc _ fun u H1 a1 ⟨p, xs, e, hP, hp, hd⟩ => by
  subst e
  refine ⟨p, rfl, ⟨xs, .inl (.inl hp)⟩, ?_⟩
  obtain ⟨Pv, h0, h1, h2, h3⟩ := k p xs H1 (gc.trans a1) a1 hP hp hd
  refine for_it walk_list Pv h0 (fun i σ' H' hi pv => .inl (.inl (h1 i σ' H' hi pv))) (fun i x σ' H' H'' hi pv y => ?_) h3
  obtain ⟨y1, y2⟩ := y
  subst y1
  exact h2 i x σ' _ hi pv y2
theorem psOk_set {f : PyData → VP} {d : PyData} {v : V} : ∀ {ds : List PyData} {xs : List V} (j : Nat), PsOk (ds.map f) xs H → f d v H → PsOk ((ds.set j d).map f) (xs.set j v) H
  | [], [], _, _, _ => True.intro
  | _ :: _, _ :: _, 0, ⟨_, h2⟩, h => ⟨h, h2⟩
  | _ :: _, _ :: _, j + 1, ⟨h1, h2⟩, h => ⟨h1, psOk_set j h2 h⟩
end
theorem okD_word {z : Str} (h : z ∈ (["kind", "old", "then", "add", "here", "there", "left", "right", "more"] : List Str)) : OkD (.str z) := by
  simp only [List.mem_cons, List.not_mem_nil, or_false] at h
  rcases h with rfl | rfl | rfl | rfl | rfl | rfl | rfl | rfl | rfl <;> exact ⟨rfl, rfl, by decide +kernel, by decide⟩
end Fk
namespace Fk
open PySem PySem.Spec PyProof.Rows L2
section
variable {K : PySem.W.Frag} {R : Res} {H H' : Hp}
theorem psOk_imp' {Ps : List VP} {xs : List V} (s : ∀ P, P ∈ Ps → Stb R P) (g : Gr R H H') (h : PsOk Ps xs H) : PsOk Ps xs H' := psOk_stb s g h
theorem psOk_out {p : Addr} {o : HO} (hp : H p = some o) (hd : p ∉ R.D ∧ p ∉ R.h) : ∀ {ds : List PyData} {xs : List V}, PsOk (ds.map (Rp K (R.add p))) xs H → PsOk (ds.map (Rp K R)) xs H
  | [], [], _ => True.intro
  | _ :: _, _ :: _, ⟨h1, h2⟩ => ⟨al_out hp hd h1, psOk_out hp hd h2⟩
theorem psOk_flat : ∀ {vs : List V}, vs.all flatV = true → PsOk ((vs.map toD).map (Rp K R)) vs H
  | [], _ => True.intro
  | v :: vs, h => by
    obtain ⟨h1, h2⟩ := Bool.and_eq_true_iff.mp h
    exact ⟨rp_flat h1, psOk_flat h2⟩
end
end Fk
namespace Fk
open PySem PySem.Spec PyProof.Rows L2
theorem s_dropM {R : Res} {σ : L2.St} {H Hc : Hp} {D : Ends} {t : TA} {C : Addr} {sp : Sp} {E : L2.St → XK} {Ps : List VP} (h : EvA R t σ H Ps) (g : Gr R H Hc) (k : ∀ vs H1, Gr R H H1 → Gv R Hc H1 → PsOk Ps vs H1 → ∀ x dx, H1 x = none → H1 dx = none → dx ≠ x → sp (.ref x :: vs) (upd (upd H1 dx (.own x)) x (.ins C dx [])) (fun v H2 => v = .non ∧ D.nx σ H2) (E σ)) : tDrop (tMakeS C sp E t) D σ Hc := h Hc g _ fun vs H1 g1 ps => k vs H1 (g.trans g1) g1 ps
end Fk

namespace Fk
open PySem PySem.Spec PyProof.Rows L2
def topS (i : Nat) : Stmt := PySem.Challenge.pw_forkpolls_k03_rows_refused.main.body.getD i (.Pass ⟨0, 0, 0, 0⟩)
abbrev s_law_deal : Stmt := (topS 24)
theorem sc_law_deal : FnScope ["_law_script", "_law_base", "_law_cells", "_law_mixed_here", "_law_cell"] ["_law_script", "_law_base"] (defScope s_law_deal) := ⟨rfl, rfl, rfl, by decide +kernel, rfl, by decide +kernel, by decide +kernel⟩
abbrev s_law_draw : Stmt := (topS 25)
theorem sc_law_draw : FnScope ["_law_deal_here", "_law_many", "_law_left"] ["_law_deal_here", "_law_many"] (defScope s_law_draw) := ⟨rfl, rfl, rfl, by decide +kernel, rfl, by decide +kernel, by decide +kernel⟩
abbrev s_law_pick : Stmt := (topS 26)
theorem sc_law_pick : FnScope ["_law_deal_here", "_law_some"] ["_law_deal_here", "_law_some"] (defScope s_law_pick) := ⟨rfl, rfl, rfl, by decide +kernel, rfl, by decide +kernel, by decide +kernel⟩
abbrev s_law_mixed : Stmt := (topS 27)
theorem sc_law_mixed : FnScope ["_law_deal_here", "_law_some", "_law_left", "_law_found"] ["_law_deal_here", "_law_some"] (defScope s_law_mixed) := ⟨rfl, rfl, rfl, by decide +kernel, rfl, by decide +kernel, by decide +kernel⟩
abbrev s_law_names : Stmt := (topS 28)
theorem sc_law_names : FnScope ["_law_deal_here", "_law_many", "_law_some"] ["_law_deal_here", "_law_many"] (defScope s_law_names) := ⟨rfl, rfl, rfl, by decide +kernel, rfl, by decide +kernel, by decide +kernel⟩
abbrev s_law_kinds : Stmt := (topS 29)
theorem sc_law_kinds : FnScope [] [] (defScope s_law_kinds) := ⟨rfl, rfl, rfl, by decide +kernel, rfl, by decide +kernel, by decide +kernel⟩
abbrev s_law_any_row : Stmt := (topS 30)
theorem sc_law_any_row : FnScope ["_law_deal_here", "_law_marks", "_law_form", "_law_add", "_law_some", "_law_left", "_law_right"] ["_law_deal_here", "_law_marks"] (defScope s_law_any_row) := ⟨rfl, rfl, rfl, by decide +kernel, rfl, by decide +kernel, by decide +kernel⟩
abbrev s_law_thing : Stmt := (topS 31)
theorem sc_law_thing : FnScope ["_law_deal_here", "_law_deep", "_law_some", "_law_turn"] ["_law_deal_here", "_law_deep"] (defScope s_law_thing) := ⟨rfl, rfl, rfl, by decide +kernel, rfl, by decide +kernel, by decide +kernel⟩
abbrev s_law_is_name : Stmt := (topS 32)
theorem sc_law_is_name : FnScope ["_law_thing_here", "_law_sign"] ["_law_thing_here"] (defScope s_law_is_name) := ⟨rfl, rfl, rfl, by decide +kernel, rfl, by decide +kernel, by decide +kernel⟩
abbrev s_law_is_add : Stmt := (topS 33)
theorem sc_law_is_add : FnScope ["_law_thing_here"] ["_law_thing_here"] (defScope s_law_is_add) := ⟨rfl, rfl, rfl, by decide +kernel, rfl, by decide +kernel, by decide +kernel⟩
abbrev s_law_strange : Stmt := (topS 34)
theorem sc_law_strange : FnScope ["_law_deal_here", "_law_some"] ["_law_deal_here"] (defScope s_law_strange) := ⟨rfl, rfl, rfl, by decide +kernel, rfl, by decide +kernel, by decide +kernel⟩
abbrev s_law_wrong : Stmt := (topS 35)
theorem sc_law_wrong : FnScope ["_law_form", "_law_some", "_law_old", "_law_then", "_law_is_kind", "_law_told", "_law_is_then", "_law_bad", "_law_one", "_law_word", "_law_is_right"] ["_law_form", "_law_some"] (defScope s_law_wrong) := ⟨rfl, rfl, rfl, by decide +kernel, rfl, by decide +kernel, by decide +kernel⟩
abbrev s_law_heard : Stmt := (topS 36)
theorem sc_law_heard : FnScope ["_law_form", "_law_some", "_law_found", "e"] ["_law_form", "_law_some"] (defScope s_law_heard) := ⟨rfl, rfl, rfl, by decide +kernel, rfl, by decide +kernel, by decide +kernel⟩
abbrev s_law : Stmt := (topS 37)
theorem sc_law : FnScope ["_law_script", "_law_deal_here", "_law_turn", "_law_row", "_law_form", "_law_some", "_law_at"] ["_law_script"] (defScope s_law) := ⟨rfl, rfl, rfl, by decide +kernel, rfl, by decide +kernel, by decide +kernel⟩
abbrev s_InvalidRow_init : Stmt := (inClass (topS 8) 0)
theorem sc_InvalidRow_init : FnScope ["self", "word"] ["self", "word"] (defScope s_InvalidRow_init) := ⟨rfl, rfl, rfl, by decide +kernel, rfl, by decide +kernel, by decide +kernel⟩
abbrev s_is_integer : Stmt := (topS 3)
theorem sc_is_integer : FnScope ["value"] ["value"] (defScope s_is_integer) := ⟨rfl, rfl, rfl, by decide +kernel, rfl, by decide +kernel, by decide +kernel⟩
abbrev s_is_name : Stmt := (topS 4)
theorem sc_is_name : FnScope ["value", "letter"] ["value"] (defScope s_is_name) := ⟨rfl, rfl, rfl, by decide +kernel, rfl, by decide +kernel, by decide +kernel⟩
abbrev s_is_mark_or : Stmt := (topS 19)
theorem sc_is_mark_or : FnScope ["value", "words"] ["value", "words"] (defScope s_is_mark_or) := ⟨rfl, rfl, rfl, by decide +kernel, rfl, by decide +kernel, by decide +kernel⟩
abbrev s_is_added : Stmt := (topS 20)
theorem sc_is_added : FnScope ["value"] ["value"] (defScope s_is_added) := ⟨rfl, rfl, rfl, by decide +kernel, rfl, by decide +kernel, by decide +kernel⟩
abbrev s_refuse_wrong : Stmt := (topS 18)
theorem sc_refuse_wrong : FnScope ["judged", "word", "right"] ["judged"] (defScope s_refuse_wrong) := ⟨rfl, rfl, rfl, by decide +kernel, rfl, by decide +kernel, by decide +kernel⟩
abbrev s_Row_init : Stmt := (inClass (topS 14) 0)
theorem sc_Row_init : FnScope ["self", "words"] ["self", "words"] (defScope s_Row_init) := ⟨rfl, rfl, rfl, by decide +kernel, rfl, by decide +kernel, by decide +kernel⟩
abbrev s_Row_eq : Stmt := (inClass (topS 14) 1)
theorem sc_Row_eq : FnScope ["self", "other"] ["self", "other"] (defScope s_Row_eq) := ⟨rfl, rfl, rfl, by decide +kernel, rfl, by decide +kernel, by decide +kernel⟩
abbrev s_Row_str : Stmt := (inClass (topS 14) 2)
theorem sc_Row_str : FnScope ["self"] ["self"] (defScope s_Row_str) := ⟨rfl, rfl, rfl, by decide +kernel, rfl, by decide +kernel, by decide +kernel⟩
abbrev s_Step_init : Stmt := (inClass (topS 15) 0)
theorem sc_Step_init : FnScope ["self", "kind", "old", "then", "add"] ["self", "kind", "old", "then", "add"] (defScope s_Step_init) := ⟨rfl, rfl, rfl, by decide +kernel, rfl, by decide +kernel, by decide +kernel⟩
abbrev s_Join_init : Stmt := (inClass (topS 16) 0)
theorem sc_Join_init : FnScope ["self", "here", "there", "then", "add"] ["self", "here", "there", "then", "add"] (defScope s_Join_init) := ⟨rfl, rfl, rfl, by decide +kernel, rfl, by decide +kernel, by decide +kernel⟩
abbrev s_Part_init : Stmt := (inClass (topS 17) 0)
theorem sc_Part_init : FnScope ["self", "old", "left", "right", "add", "more"] ["self", "old", "left", "right", "add", "more"] (defScope s_Part_init) := ⟨rfl, rfl, rfl, by decide +kernel, rfl, by decide +kernel, by decide +kernel⟩
structure Ads where
  f_is_integer : Addr
  f_is_name : Addr
  f_refuse_wrong : Addr
  f_is_mark_or : Addr
  f_is_added : Addr
  Row : Addr
  Step : Addr
  Join : Addr
  Part : Addr
  PollError : Addr
  InvalidRow : Addr
  InvalidBook : Addr
  InvalidText : Addr
  f_Step_init : Addr
  f_Join_init : Addr
  f_Part_init : Addr
  f_Row_init : Addr
  KEYWORDS : Addr
  KINDS : Addr
  f_InvalidRow_init : Addr
  f_law_deal : Addr
  f_law_draw : Addr
  f_law_pick : Addr
  f_law_mixed : Addr
  f_law_names : Addr
  f_law_kinds : Addr
  f_law_any_row : Addr
  f_law_thing : Addr
  f_law_is_name : Addr
  f_law_is_add : Addr
  f_law_strange : Addr
  f_law_wrong : Addr
  f_law_heard : Addr
  f_law : Addr
structure Tx (A : Ads) (K : PySem.W.Frag) (mg : Str → Option Value) : Prop where
  z_isinstance : mg "isinstance" = none
  z_int : mg "int" = none
  z_bool : mg "bool" = none
  z_str : mg "str" = none
  z_len : mg "len" = none
  z_all : mg "all" = none
  z_tuple : mg "tuple" = none
  z_range : mg "range" = none
  z_list : mg "list" = none
  z_abs : mg "abs" = none
  z_repr : mg "repr" = none
  d_is_integer : mg "is_integer" = some (.ref A.f_is_integer) ∧ ∃ fd, Fun K "is_integer" "is_integer" s_is_integer A.f_is_integer fd
  d_is_name : mg "is_name" = some (.ref A.f_is_name) ∧ ∃ fd, Fun K "is_name" "is_name" s_is_name A.f_is_name fd
  d_refuse_wrong : mg "_refuse_wrong" = some (.ref A.f_refuse_wrong) ∧ ∃ fd, Fun K "_refuse_wrong" "_refuse_wrong" s_refuse_wrong A.f_refuse_wrong fd
  d_is_mark_or : mg "_is_mark_or" = some (.ref A.f_is_mark_or) ∧ ∃ fd, Fun K "_is_mark_or" "_is_mark_or" s_is_mark_or A.f_is_mark_or fd
  d_is_added : mg "_is_added" = some (.ref A.f_is_added) ∧ ∃ fd, Fun K "_is_added" "_is_added" s_is_added A.f_is_added fd
  g_Row : mg "Row" = some (.ref A.Row)
  g_Step : mg "Step" = some (.ref A.Step)
  g_Join : mg "Join" = some (.ref A.Join)
  g_Part : mg "Part" = some (.ref A.Part)
  g_PollError : mg "PollError" = some (.ref A.PollError)
  g_InvalidRow : mg "InvalidRow" = some (.ref A.InvalidRow)
  g_InvalidBook : mg "InvalidBook" = some (.ref A.InvalidBook)
  g_InvalidText : mg "InvalidText" = some (.ref A.InvalidText)
  m_Step_init : PySem.W.findIn K (.ref A.Step) "__init__" = some (some (.ref A.f_Step_init))
  i_f_Step_init : PySem.W.isFn K (.ref A.f_Step_init) = true
  d_Step_init : ∃ fd, Fun K "__init__" "Step.__init__" s_Step_init A.f_Step_init fd
  m_Join_init : PySem.W.findIn K (.ref A.Join) "__init__" = some (some (.ref A.f_Join_init))
  i_f_Join_init : PySem.W.isFn K (.ref A.f_Join_init) = true
  d_Join_init : ∃ fd, Fun K "__init__" "Join.__init__" s_Join_init A.f_Join_init fd
  m_Part_init : PySem.W.findIn K (.ref A.Part) "__init__" = some (some (.ref A.f_Part_init))
  i_f_Part_init : PySem.W.isFn K (.ref A.f_Part_init) = true
  d_Part_init : ∃ fd, Fun K "__init__" "Part.__init__" s_Part_init A.f_Part_init fd
  m_Row_init : PySem.W.findIn K (.ref A.Row) "__init__" = some (some (.ref A.f_Row_init))
  i_f_Row_init : PySem.W.isFn K (.ref A.f_Row_init) = true
  d_Row_init : ∃ fd, Fun K "__init__" "Row.__init__" s_Row_init A.f_Row_init fd
  g_KEYWORDS : mg "KEYWORDS" = some (.ref A.KEYWORDS)
  t_KEYWORDS : ∀ H, SqT K H A.KEYWORDS [.str "any", .str "by", .str "one", .str "same", .str "to"]
  g_KINDS : mg "KINDS" = some (.ref A.KINDS)
  t_KINDS : ∀ H, SqT K H A.KINDS [.str "yes", .str "no", .str "late yes", .str "late no", .str "word", .str "strike", .str "back", .str "cut"]
  o_Row : OwnC K A.Row
  o_Step : OwnC K A.Step
  o_Join : OwnC K A.Join
  o_Part : OwnC K A.Part
  rowOff : PySem.W.findCls K (.ref A.Row) (.type "type") "__init__" = some (.val (.ref A.f_Row_init))
  rowRd : PySem.W.readsIn K A.Row (.type "type") = true
  rowGa : PySem.W.specialIn K (.ref A.Row) "__getattribute__" = some (some (.builtin "type.__getattribute__"))
  rowKeep : PySem.W.keepIn K (.ref A.f_Row_init) = true
  ogt : PySem.W.specialIn K (.builtin "object.__class__") "__get__" = some (some (.builtin "getset_descriptor.__get__"))
  otk : PySem.W.takesIn K (.builtin "object.__class__") = some true
  na_Step_words : NoAttr K A.Step "words"
  na_Step_kind : NoAttr K A.Step "kind"
  na_Step_old : NoAttr K A.Step "old"
  na_Step_then : NoAttr K A.Step "then"
  na_Step_add : NoAttr K A.Step "add"
  na_Join_words : NoAttr K A.Join "words"
  na_Join_here : NoAttr K A.Join "here"
  na_Join_there : NoAttr K A.Join "there"
  na_Join_then : NoAttr K A.Join "then"
  na_Join_add : NoAttr K A.Join "add"
  na_Part_words : NoAttr K A.Part "words"
  na_Part_old : NoAttr K A.Part "old"
  na_Part_left : NoAttr K A.Part "left"
  na_Part_right : NoAttr K A.Part "right"
  na_Part_add : NoAttr K A.Part "add"
  na_Part_more : NoAttr K A.Part "more"
  m_InvalidRow_init : PySem.W.findIn K (.ref A.InvalidRow) "__init__" = some (some (.ref A.f_InvalidRow_init))
  i_f_InvalidRow_init : PySem.W.isFn K (.ref A.f_InvalidRow_init) = true
  d_InvalidRow_init : ∃ fd, Fun K "__init__" "InvalidRow.__init__" s_InvalidRow_init A.f_InvalidRow_init fd
  ft_f_InvalidRow_init : PySem.W.typeIn K (.ref A.f_InvalidRow_init) = some (.type "function")
  x_InvalidRow : XcC K A.InvalidRow
  q_InvalidRow : OexC K A.InvalidRow
  na_InvalidRow_word : NoAttr K A.InvalidRow "word"
  k_PollError : KitC K A.PollError
  k_InvalidBook : KitC K A.InvalidBook
  k_InvalidText : KitC K A.InvalidText
  k_InvalidRow : KitC K A.InvalidRow
  eP : PySem.W.subIn K (.ref A.InvalidRow) (.ref A.PollError) = some true
  eB : PySem.W.subIn K (.ref A.InvalidRow) (.ref A.InvalidBook) = some false
  eT : PySem.W.subIn K (.ref A.InvalidRow) (.ref A.InvalidText) = some false
  eR : PySem.W.subIn K (.ref A.InvalidRow) (.ref A.InvalidRow) = some true
  d_law_deal : mg "_law_deal" = some (.ref A.f_law_deal) ∧ ∃ fd, Fun K "_law_deal" "_law_deal" s_law_deal A.f_law_deal fd
  d_law_draw : mg "_law_draw" = some (.ref A.f_law_draw) ∧ ∃ fd, Fun K "_law_draw" "_law_draw" s_law_draw A.f_law_draw fd
  d_law_pick : mg "_law_pick" = some (.ref A.f_law_pick) ∧ ∃ fd, Fun K "_law_pick" "_law_pick" s_law_pick A.f_law_pick fd
  d_law_mixed : mg "_law_mixed" = some (.ref A.f_law_mixed) ∧ ∃ fd, Fun K "_law_mixed" "_law_mixed" s_law_mixed A.f_law_mixed fd
  d_law_names : mg "_law_names" = some (.ref A.f_law_names) ∧ ∃ fd, Fun K "_law_names" "_law_names" s_law_names A.f_law_names fd
  d_law_kinds : mg "_law_kinds" = some (.ref A.f_law_kinds) ∧ ∃ fd, Fun K "_law_kinds" "_law_kinds" s_law_kinds A.f_law_kinds fd
  d_law_any_row : mg "_law_any_row" = some (.ref A.f_law_any_row) ∧ ∃ fd, Fun K "_law_any_row" "_law_any_row" s_law_any_row A.f_law_any_row fd
  d_law_thing : mg "_law_thing" = some (.ref A.f_law_thing) ∧ ∃ fd, Fun K "_law_thing" "_law_thing" s_law_thing A.f_law_thing fd
  d_law_is_name : mg "_law_is_name" = some (.ref A.f_law_is_name) ∧ ∃ fd, Fun K "_law_is_name" "_law_is_name" s_law_is_name A.f_law_is_name fd
  d_law_is_add : mg "_law_is_add" = some (.ref A.f_law_is_add) ∧ ∃ fd, Fun K "_law_is_add" "_law_is_add" s_law_is_add A.f_law_is_add fd
  d_law_strange : mg "_law_strange" = some (.ref A.f_law_strange) ∧ ∃ fd, Fun K "_law_strange" "_law_strange" s_law_strange A.f_law_strange fd
  d_law_wrong : mg "_law_wrong" = some (.ref A.f_law_wrong) ∧ ∃ fd, Fun K "_law_wrong" "_law_wrong" s_law_wrong A.f_law_wrong fd
  d_law_heard : mg "_law_heard" = some (.ref A.f_law_heard) ∧ ∃ fd, Fun K "_law_heard" "_law_heard" s_law_heard A.f_law_heard fd
  d_law : mg "law" = some (.ref A.f_law) ∧ ∃ fd, Fun K "law" "law" s_law A.f_law fd

section
variable {P : Program} {w : World} {A : Ads} {K : PySem.W.Frag} {mg : Str → Option Value} {base : Heap}
/-! ### checks -/
def spIsInt : Sp := fun vs H Q _ => ∃ v, vs = [v] ∧ flatV v = true ∧ ∀ H', Same H H' → Q (.bl (isI v)) H'
theorem ok_is_integer (T : Tx A K mg) {f : Addr} {fd : FuncData} (F : Fun K "is_integer" "is_integer" s_is_integer f fd) : FnOk P w K mg base CX0 1 f fd ["value"] spIsInt := by
  refine F.ok sc_is_integer (fun vs H Q E h => ?_) (fun cdv A' outer s H vs Q E hr h => ?_)
  · obtain ⟨v, rfl, _⟩ := h; rfl
  · obtain ⟨v, rfl, fv, q⟩ := h
    refine ⟨_, (pss_one (ps_ret (pe_and (pe_callB call_isi (by rfl) T.z_isinstance (by decide +kernel) (pa_cons (pv 0) (pa_cons (pe_bltn (v := .ty "int") (by rfl) T.z_int (by decide +kernel) rfl) pa_nil))) (pe_one (pe_not (pe_callB call_isi (by rfl) T.z_isinstance (by decide +kernel) (pa_cons (pv 0) (pa_cons (pe_bltn (v := .ty "bool") (by rfl) T.z_bool (by decide +kernel) rfl) pa_nil)))))))), ?_⟩
    refine s_ret (R := Free) (ev_val (ev_and (ev_isi (ev_is rfl) ev_c (.ty _) (fun _ _ => ty_flat fv) (kit_int fv)) fun _ => ev_not (ev_isi (ev_is rfl) ev_c (.ty _) (fun _ _ => ty_flat fv) (kit_bool fv))) rfl) (Gr.refl free_j) fun u H1 g _ e => ?_
    cases e
    have z : ((isI v || isB v) && !isB v) = isI v := by cases v <;> rfl
    show Q (.bl ((isI v || isB v) && !isB v)) H1
    rw [z]
    exact q H1 g.free
end
section
variable {P : Program} {w : World} {A : Ads} {K : PySem.W.Frag} {mg : Str → Option Value} {base : Heap}
def spIsName : Sp := fun vs H Q _ => ∃ v, vs = [v] ∧ flatV v = true ∧ (∀ z, v = .str z → z.length ≤ 100000) ∧ ∀ H', Same H H' → Q (.bl (nameV v)) H'
theorem ok_is_name (T : Tx A K mg) {f : Addr} {fd : FuncData} (F : Fun K "is_name" "is_name" s_is_name f fd) : FnOk P w K mg base CX0 1 f fd ["value"] spIsName := by
  refine F.ok sc_is_name (fun vs H Q E h => ?_) (fun cdv A' outer s H vs Q E hr h => ?_)
  · obtain ⟨v, rfl, _⟩ := h; rfl
  · obtain ⟨v, rfl, fv, hz, q⟩ := h
    refine ⟨_, (pss_cons (ps_if (PW.pt (pw_or (pt_not (pt_val (pe_callB call_isi (by rfl) T.z_isinstance (by decide +kernel) (pa_cons (pv 0) (pa_cons (pe_bltn (v := .ty "str") (by rfl) T.z_str (by decide +kernel) rfl) pa_nil))))) (pw_or1 (pt_cmpR op_in_seq (pv 0) (pe_glob (v := .ref A.KEYWORDS) rfl T.g_KEYWORDS rfl) (by rfl))))) (pss_one (ps_ret pe_bl)) pss_nil)
      (pss_one (ps_ret (pe_and (pe_chain op_le op_le pe_int (pe_callB call_len_str (by rfl) T.z_len (by decide +kernel) (pa_cons (pv 0) pa_nil)) pe_int) (pe_one (pe_callB (cr_all rfl) (by rfl) T.z_all (by decide +kernel) (pa_cons (pe_lc (own := [("letter", 1)]) (g := gName 1) rfl sc_is_name.nd (pi_str (pv 0)) (blkOk_by (own := [("letter", 1)]) (N := ["value", "letter"]) (sc := defScope s_is_name) (by decide +kernel)) (fun _ _ _ _ _ => pg_name (i := 1) sc_is_name.nd rfl (Or.inl rfl)) (fun _ _ _ _ _ => pts_nil) (fun _ _ _ _ _ => (pe_chain op_le_str op_le_str pe_str (pv 1) pe_str))) pa_nil))))))), ?_⟩
    have isi : EvP Free (tCB (rIsi K) (tCons (tVar 0) (tCons (tC (.ty "str")) tNil))) [some v, none] H (Is (.bl (isS v))) := ev_isi (ev_is rfl) ev_c (.ty _) (fun _ _ => ty_flat fv) (kit_str fv)
    have kin : EvP Free (tC (.ref A.KEYWORDS)) [some v, none] H (fun u H => ∃ p, u = .ref p ∧ (SqL K H p keyws ∨ SqT K H p keyws)) := ev_cP fun H' _ => ⟨_, rfl, .inr (T.t_KEYWORDS H')⟩
    refine s_if1 (R := Free) (et_or (et_not (et_B isi)) fun _ => et_test (ev_in (neg := false) (xs := keyws) fv rfl (ev_is rfl) kin)) (Gr.refl free_j) (fun hb H1 g gv => ?_) (fun hb H1 g gv => ?_)
    · refine s_ret (R := Free) ev_c g fun u H2 g2 _ e => ?_
      cases e
      have z : nameV v = false := by
        cases v with
        | str z =>
          have hb' : inV (.str z) keyws = true := hb
          show (!inV (.str z) keyws && _) = false
          rw [hb']
          rfl
        | _ => rfl
      show Q (.bl false) H2
      rw [← z]
      exact q H2 g2.free
    · cases v with
      | str z =>
        have hb' : inV (.str z) keyws = false := hb
        have ln := hz z rfl
        have all : z.cps.size ≤ 4 → EvP Free (tCB (rAll K) (tCons (tLc (iStr (tVar 0)) (gName 1) tYes (tChain _ _ (tC (.str "a")) (tVar 1) (tC (.str "z"))) [1]) tNil)) [some (.str z), none] H (Is (.bl (letters z))) := fun h4 => by
          refine ev_val (ev_all (bs := (List.range z.cps.size).map fun i => (decide (97 ≤ z.cps.getD i 0) && decide (z.cps.getD i 0 ≤ 122))) ?_) (congrArg V.bl (letters_is z).symm)
          refine ev_imp (ev_lcV (fun i => .bl (decide (97 ≤ z.cps.getD i 0) && decide (z.cps.getD i 0 ≤ 122))) (fun _ => true) (ew_str (ev_is rfl)) (by omega) yStr_ok (fun _ => rfl) fun D _ i x hi ⟨c, hc, ex⟩ => ⟨et_yes, fun _ => ?_⟩) fun u H' _ ⟨p, e, hp, _⟩ => ⟨p, e, .inl (.inl (by rw [hp, filter_yes, List.map_map]; rfl))⟩
          subst ex
          have ec : z.cps.getD i 0 = c := by simp [Array.getD, hi, Array.getElem?_eq_some_iff.mp hc |>.choose_spec]
          refine ev_val (ev_chain ev_c (ev_is rfl) ev_c (fun H1 g => rv_le g.1) (fun H1 g => rv_le g.1)) ?_
          rw [ec, az_lo, az_hi]
        dsimp only
        refine s_ret (R := Free) (P := Is (.bl (nameV (.str z)))) ?_ g fun u H2 g2 _ e => e ▸ q H2 g2.free
        refine ev_val (ev_and (ev_chainI ev_c (ev_lenS (ev_is rfl) ln) ev_c) fun h => all ?_) ?_
        · have h2 := (Bool.and_eq_true_iff.mp h).2
          have h3 : (z.length : Int) ≤ 4 := of_decide_eq_true h2
          have h4 : z.length = z.cps.size := rfl
          omega
        · show V.bl (decide ((1 : Int) ≤ (z.length : Int)) && decide ((z.length : Int) ≤ 4) && letters z) = V.bl (!inV (.str z) keyws && (decide (1 ≤ z.length) && decide (z.length ≤ 4) && letters z))
          have e1 : decide ((1 : Int) ≤ (z.length : Int)) = decide (1 ≤ z.length) := decide_eq_decide.mpr (by omega)
          have e2 : decide ((z.length : Int) ≤ 4) = decide (z.length ≤ 4) := decide_eq_decide.mpr (by omega)
          rw [hb', e1, e2]
          rfl
      | _ => exact absurd hb (by intro h; cases h)
end
section
variable {P : Program} {w : World} {A : Ads} {K : PySem.W.Frag} {mg : Str → Option Value} {base : Heap}
/-! ### checks of any data -/
def spInt3 (K : PySem.W.Frag) : Sp := fun vs H Q _ => ∃ v d, vs = [v] ∧ Dp K H v d ∧ ∀ H', Same H H' → Q (.bl (isID d)) H'
theorem ok_int3 (T : Tx A K mg) {f : Addr} {fd : FuncData} (F : Fun K "is_integer" "is_integer" s_is_integer f fd) : FnOk P w K mg base CX0 1 f fd ["value"] (spInt3 K) := by
  refine F.ok sc_is_integer (fun vs H Q E h => ?_) (fun cdv A' outer s H vs Q E hr h => ?_)
  · obtain ⟨v, d, rfl, _⟩ := h; rfl
  · obtain ⟨v, d, rfl, hd, q⟩ := h
    refine ⟨_, (pss_one (ps_ret (pe_and (pe_callB call_isi (by rfl) T.z_isinstance (by decide +kernel) (pa_cons (pv 0) (pa_cons (pe_bltn (v := .ty "int") (by rfl) T.z_int (by decide +kernel) rfl) pa_nil))) (pe_one (pe_not (pe_callB call_isi (by rfl) T.z_isinstance (by decide +kernel) (pa_cons (pv 0) (pa_cons (pe_bltn (v := .ty "bool") (by rfl) T.z_bool (by decide +kernel) rfl) pa_nil)))))))), ?_⟩
    have hv : EvP Free (tVar 0) [some v] H (Rp K Free d) := ev_var rfl fun H' g => rp_free (dp_same g.free _ _ hd)
    refine s_ret (R := Free) (P := Is (.bl (isID d))) (ev_val (ev_and (ev_isD hv ev_c (kitD_int d)) fun _ => ev_not (ev_isD hv ev_c (kitD_bool d))) (by cases d <;> rfl)) (Gr.refl free_j) fun u H1 g _ e => e ▸ q H1 g.free
def spNoStr (K : PySem.W.Frag) : Sp := fun vs H Q _ => ∃ v d, vs = [v] ∧ Dp K H v d ∧ isSD d = false ∧ ∀ H', Same H H' → Q (.bl false) H'
theorem ok_nostr (T : Tx A K mg) {f : Addr} {fd : FuncData} (F : Fun K "is_name" "is_name" s_is_name f fd) : FnOk P w K mg base CX0 1 f fd ["value"] (spNoStr K) := by
  refine F.ok sc_is_name (fun vs H Q E h => ?_) (fun cdv A' outer s H vs Q E hr h => ?_)
  · obtain ⟨v, d, rfl, _⟩ := h; rfl
  · obtain ⟨v, d, rfl, hd, ns, q⟩ := h
    refine ⟨_, (pss_cons (ps_if (PW.pt (pw_or (pt_not (pt_val (pe_callB call_isi (by rfl) T.z_isinstance (by decide +kernel) (pa_cons (pv 0) (pa_cons (pe_bltn (v := .ty "str") (by rfl) T.z_str (by decide +kernel) rfl) pa_nil))))) (pw_or1 (pt_cmpR op_in_seq (pv 0) (pe_glob (v := .ref A.KEYWORDS) rfl T.g_KEYWORDS rfl) (by rfl))))) (pss_one (ps_ret pe_bl)) pss_nil)
      (pss_one (ps_ret (pe_and (pe_chain op_le op_le pe_int (pe_callB call_len_str (by rfl) T.z_len (by decide +kernel) (pa_cons (pv 0) pa_nil)) pe_int) (pe_one (pe_callB (cr_all rfl) (by rfl) T.z_all (by decide +kernel) (pa_cons (pe_lc (own := [("letter", 1)]) (g := gName 1) rfl sc_is_name.nd (pi_str (pv 0)) (blkOk_by (own := [("letter", 1)]) (N := ["value", "letter"]) (sc := defScope s_is_name) (by decide +kernel)) (fun _ _ _ _ _ => pg_name (i := 1) sc_is_name.nd rfl (Or.inl rfl)) (fun _ _ _ _ _ => pts_nil) (fun _ _ _ _ _ => (pe_chain op_le_str op_le_str pe_str (pv 1) pe_str))) pa_nil))))))), ?_⟩
    have hv : EvP Free (tVar 0) [some v, none] H (Rp K Free d) := ev_var rfl fun H' g => rp_free (dp_same g.free _ _ hd)
    refine s_if1 (R := Free) (H := H) (b := true) (et_is (et_or (b := false) (et_not (et_B (ev_isD hv ev_c (kitD_str d)))) fun z => ?_) (by rw [ns]; rfl)) (Gr.refl free_j) (fun hb H1 g gv => ?_) (fun hb => Bool.noConfusion hb)
    · rw [ns] at z
      exact Bool.noConfusion z
    · exact s_ret (R := Free) ev_c g fun u H2 g2 _ e => e ▸ q H2 g2.free
theorem nameV_D {v : V} {z : Str} : nameV (.str z) = nameD (.str z) := rfl
abbrev spName3 (K : PySem.W.Frag) : Sp := fun vs H Q E => spIsName vs H Q E ∨ spNoStr K vs H Q E
theorem ev_name3 {R : Res} {σ : L2.St} {H : Hp} {ta : TE} {d : PyData} {E : XK} (hd : ArgD d) (h : EvP R ta σ H (Rp K R d)) : EvP R (tCall (spName3 K) [] E (tCons ta tNil)) σ H (Is (.bl (nameD d))) :=
  ev_call (ea_cons stb_rp h ea_nil) fun vs H1 g ps Q q => by
    match vs, ps with
    | [u], ⟨hu, _⟩ =>
      have hd1 := hu.now g.1
      cases hs : isSD d with
      | false =>
        refine .inr ⟨u, d, rfl, hd1, hs, fun H' e => ?_⟩
        have z : nameD d = false := by cases d <;> first | rfl | exact absurd hs Bool.noConfusion
        rw [← z]
        exact q _ H' (Gv.same g.1 e) rfl
      | true =>
        cases d with
        | str z =>
          cases dp_str hd1
          exact .inl ⟨.str z, rfl, rfl, fun y e => by cases e; exact Nat.le_trans (hd.st z rfl) (by decide), fun H' e => q _ H' (Gv.same g.1 e) rfl⟩
        | _ => exact Bool.noConfusion hs
def spMark3 (K : PySem.W.Frag) : Sp := fun vs H Q _ => ∃ v p d ws, vs = [v, .ref p] ∧ Dp K H v d ∧ ArgD d ∧ SqT K H p (ws.map V.str) ∧ (∀ z, z ∈ ws → PyData.strOk z = true) ∧ ∀ H', Same H H' → Q (.bl (nameD d || inS ws d)) H'
theorem ok_mark3 (T : Tx A K mg) (c_is_name : CalX P w K mg base CX0 1 "is_name" (spName3 K)) {f : Addr} {fd : FuncData} (F : Fun K "_is_mark_or" "_is_mark_or" s_is_mark_or f fd) : FnOk P w K mg base CX0 2 f fd ["value", "words"] (spMark3 K) := by
  refine F.ok sc_is_mark_or (fun vs H Q E h => ?_) (fun cdv A' outer s H vs Q E hr h => ?_)
  · obtain ⟨v, p, d, ws, rfl, _⟩ := h; rfl
  · obtain ⟨v, p, d, ws, rfl, hd, ad, hp, ok, q⟩ := h
    refine ⟨_, (pss_one (ps_ret (pe_or (pe_cal c_is_name hr (by decide) pass0 (pa_cons (pv 0) pa_nil)) (pe_one (pe_cmpR (op_inDT (room65 hr)) (pv 0) (pv 1) (by rfl)))))), ?_⟩
    have hv : EvP Free (tVar 0) [some v, some (.ref p)] H (Rp K Free d) := ev_var rfl fun H' g => rp_free (dp_same g.free _ _ hd)
    refine s_ret (R := Free) (P := Is (.bl (nameD d || inS ws d))) ?_ (Gr.refl free_j) fun u H1 g _ e => e ▸ q H1 g.free
    rw [← any_strs]
    exact ev_or (ev_name3 ad hv) fun _ => ev_inDT ad.sh (shapedT_strs ws ok) hv (ev_tupStrs (ev_var (v := .ref p) rfl fun H' g => ⟨p, rfl, al_free fun H2 e => SqT.ext hp (g.free.trans e)⟩))
def spAdd3 (K : PySem.W.Frag) : Sp := fun vs H Q _ => ∃ v d, vs = [v] ∧ Dp K H v d ∧ ∀ H', Same H H' → Q (.bl (addD d)) H'
theorem ok_add3 (T : Tx A K mg) (c_is_integer : CalX P w K mg base CX0 1 "is_integer" (spInt3 K)) {f : Addr} {fd : FuncData} (F : Fun K "_is_added" "_is_added" s_is_added f fd) : FnOk P w K mg base CX0 2 f fd ["value"] (spAdd3 K) := by
  refine F.ok sc_is_added (fun vs H Q E h => ?_) (fun cdv A' outer s H vs Q E hr h => ?_)
  · obtain ⟨v, d, rfl, _⟩ := h; rfl
  · obtain ⟨v, d, rfl, hd, q⟩ := h
    refine ⟨_, (pss_one (ps_ret (pe_and (pe_cal c_is_integer hr (by decide) pass0 (pa_cons (pv 0) pa_nil)) (pe_one (pe_chain op_le op_le (pe_un un_neg pe_int) (pv 0) pe_int))))), ?_⟩
    refine s_ret (R := Free) (P := Is (.bl (addD d))) ?_ (Gr.refl free_j) fun u H1 g _ e => e ▸ q H1 g.free
    have isi : EvP Free (tCall (spInt3 K) [] E0 (tCons (tVar 0) tNil)) [some v] H (Is (.bl (isID d))) := ev_call (ea_is (ev_is rfl) ea_nil) fun vs H1 g ps Q q => by
      cases psOk1 ps
      exact ⟨v, d, rfl, dp_same g.free _ _ hd, fun H' e => q _ H' (Gv.same g.1 e) rfl⟩
    refine ev_val (ev_and (b := addD d) isi fun h => ?_) (by cases d <;> rfl)
    cases d with
    | int i =>
      cases dp_int hd
      exact ev_chainI (ev_neg ev_c) (ev_is rfl) ev_c
    | _ => exact absurd h Bool.false_ne_true
end
section
variable {P : Program} {w : World} {A : Ads} {K : PySem.W.Frag} {mg : Str → Option Value} {base : Heap}
theorem ok_irow {f : Addr} {fd : FuncData} (F : Fun K "__init__" "InvalidRow.__init__" s_InvalidRow_init f fd) : FnOk P w K mg base CX0 1 f fd ["self", "word"] (spXi K "word") := by
  refine F.ok sc_InvalidRow_init (fun vs H Q E h => ?_) (fun cdv A2 outer s H vs Q E hr h => ?_)
  · obtain ⟨a, C, v, rfl, _⟩ := h; rfl
  · obtain ⟨a, C, v, rfl, hc, hn, ha, q⟩ := h
    exact ⟨_, (pss_one (ps_stX (pv 0) (pv 1))), v, rfl, .ref a, rfl, a, C, rfl, hc, hn, ha, q⟩
def jd (js : List (Str × Bool)) : PyData := .tuple (js.map fun j => .tuple [.str j.1, .bool j.2])
/-- the first that is wrong -/
def firstW : List (Str × Bool) → Option Str
  | [] => none
  | j :: js => if j.2 then firstW js else some j.1
/-- an InvalidRow is let out, that keeps z -/
def OutW (A : Ads) (H : Hp) (z : Str) (E : XK) : Prop := ∀ d H', Same H H' → H d = none → H' d = some (.xd [("word", .str z)]) → E (.ref A.InvalidRow) (some d) H'
def spRef3 (A : Ads) (K : PySem.W.Frag) : Sp := fun vs H Q E => ∃ v js, vs = [v] ∧ Dp K H v (jd js) ∧ (firstW js = none → ∀ H', Same H H' → Q .non H') ∧ ∀ z, firstW js = some z → OutW A H z E
theorem ok_ref3 (T : Tx A K mg) {fdI : FuncData} (FI : FnOk P w K mg base CX0 1 A.f_InvalidRow_init fdI ["self", "word"] (spXi K "word")) (bI : Binds K fdI ["self", "word"] []) {f : Addr} {fd : FuncData} (F : Fun K "_refuse_wrong" "_refuse_wrong" s_refuse_wrong f fd) : FnOk P w K mg base (L2.CX P w) 3 f fd ["judged"] (spRef3 A K) := by
  refine F.okX sc_refuse_wrong (fun vs H Q E h => ?_) (fun cdv A' outer s H vs Q E hr h => ?_)
  · obtain ⟨v, js, rfl, _⟩ := h; rfl
  · obtain ⟨v, js, rfl, hd, q, out⟩ := h
    obtain ⟨a, xs, rfl, hx, hxs⟩ := dp_tup hd
    refine ⟨_, (pss_one (ps_for PassesOwn.leaving rfl (pi_tup (pv 0)) (pg_tup (by rfl) (pgs_cons (pg_name (i := 1) sc_refuse_wrong.nd rfl (by first | exact .inl rfl | exact .inr rfl)) (pgs_cons (pg_name (i := 2) sc_refuse_wrong.nd rfl (by first | exact .inl rfl | exact .inr rfl)) pgs_nil))) (pss_one (ps_if (pt_not (pt_val (pv 2))) (pss_one (ps_raise rfl (takes_of rfl rfl rfl rfl) (pmk_oex T.q_InvalidRow T.m_InvalidRow_init T.ft_f_InvalidRow_init FI (hr.mono (by decide)) bI .nil pass0 (by rfl) T.g_InvalidRow (pa_cons (pv 1) pa_nil)))) pss_nil)))), ?_⟩
    have hlen : xs.length = js.length := by rw [dpAll_len hxs, List.length_map]
    refine s_for (R := Free) (H := H) (n := xs.length) (ew_tup (xs := xs) (ev_var (v := .ref a) rfl fun H' g => ⟨a, rfl, fun H2 g2 => SqT.ext hx (g.free.trans g2.free)⟩)) (Gr.refl free_j) fun H1 g1 _ =>
      ⟨fun i σ' H' => Same H1 H' ∧ firstW (js.drop i) = firstW js ∧ ∃ y z, σ' = [some (.ref a), y, z], ⟨Same.refl H1, rfl, none, none, rfl⟩, fun i σ' H' _ p => (gv_free p.1).1, fun i x σ' H' H2 hi p y => ?_, fun σ' H' p => q (by rw [← p.2.1, hlen, List.drop_length]; rfl) H' (g1.free.trans p.1)⟩
    obtain ⟨e, hf, y1, y2, rfl⟩ := p
    obtain ⟨rfl, hx2⟩ := y
    obtain ⟨d, hd2, dx⟩ := dpAll_get hxs hx2
    rw [List.getElem?_map] at hd2
    obtain ⟨j, hj, ej⟩ := Option.map_eq_some_iff.mp hd2
    subst ej
    have cut : js.drop i = j :: js.drop (i + 1) := by
      obtain ⟨h1, h2⟩ := List.getElem?_eq_some_iff.mp hj
      rw [List.drop_eq_getElem_cons h1, h2]
    obtain ⟨a2, ys, rfl, hy, hys⟩ := dp_tup (dp_same (g1.free.trans e) _ _ dx)
    cases hys with
    | cons h1 h2 =>
      cases h2 with
      | cons h2 h3 =>
        cases h3
        cases dp_str h1
        cases dp_bool h2
        refine ⟨a2, _, rfl, hy, rfl, _, _, rfl, _, _, rfl, rfl, ?_⟩
        refine s_if1 (R := Free) (b := !j.2) (et_not (et_B (ev_is rfl))) (Gr.refl free_j) (fun z H3 g3 _ => ?_) fun z H3 g3 _ => ?_
        · have jf : j.2 = false := by cases hj2 : j.2 <;> rw [hj2] at z <;> first | rfl | exact nomatch z
          have fw : firstW js = some j.1 := by
            rw [← hf, cut]
            show (if j.2 then _ else some j.1) = some j.1
            rw [jf]
            rfl
          have s3 : Same H H3 := fun b o q => g3.free _ _ ((g1.free.trans e) _ _ q)
          refine ⟨.str j.1, rfl, (by decide : 1 ≤ 1000), fun a ha => ⟨a, A.InvalidRow, .str j.1, rfl, T.x_InvalidRow, T.na_InvalidRow_word, upd_same, fun dx hdx ne => ⟨rfl, dx, [("word", .str j.1)], upd_same, ?_, ?_, ?_⟩⟩⟩
          · rw [upd_ne ne, upd_same]
          · rw [upd_ne ne] at hdx
            exact hdx
          · rw [upd_ne ne] at hdx
            refine out j.1 fw dx _ (fun b o q => ?_) ?_ upd_same
            · have b3 := s3 _ _ q
              have nb := ne_of_none b3 ha
              have nd := ne_of_none b3 hdx
              rw [upd_ne nd, del_ne nb, upd_ne nb, upd_ne nd, upd_ne nb]
              exact b3
            · cases hq : H dx with
              | none => rfl
              | some o =>
                have := s3 _ _ hq
                rw [hdx] at this
                cases this
        · have jt : j.2 = true := by cases hj2 : j.2 <;> rw [hj2] at z <;> first | rfl | exact nomatch z
          refine ⟨e.trans g3.free, ?_, _, _, rfl⟩
          rw [← hf, cut]
          show firstW (js.drop (i + 1)) = if j.2 then firstW (js.drop (i + 1)) else some j.1
          rw [jt]
          rfl
end
section
variable {P : Program} {w : World} {A : Ads} {K : PySem.W.Frag} {mg : Str → Option Value} {base : Heap}
def spRowI (K : PySem.W.Frag) : Sp := fun vs H Q _ => ∃ a C dx v, vs = [.ref a, v] ∧ H a = some (.ins C dx []) ∧ Cls K C ∧ NoAttr K C "words" ∧ Q .non (upd H a (.ins C dx [("words", v)]))
theorem ok_rowi (T : Tx A K mg) {f : Addr} {fd : FuncData} (F : Fun K "__init__" "Row.__init__" s_Row_init f fd) : FnOk P w K mg base CX0 1 f fd ["self", "words"] (spRowI K) := by
  refine F.ok sc_Row_init (fun vs H Q E h => ?_) (fun cdv A' outer s H vs Q E hr h => ?_)
  · obtain ⟨a, C, dx, v, rfl, _⟩ := h; rfl
  · obtain ⟨a, C, dx, v, rfl, ha, hc, hn, q⟩ := h
    refine ⟨_, (pss_one (ps_fld (pv 0) (pv 1) rfl)), ?_⟩
    exact ⟨_, rfl, _, rfl, a, C, dx, [], rfl, ha, hc, hn, by decide, q⟩
theorem outW_mono {H H1 : Hp} {z : Str} {E : XK} (h : OutW A H z E) (s : Same H H1) : OutW A H1 z E := fun d H' s2 hd hx => h d H' (fun b o q => s2 b o (s b o q)) (by
  cases q : H d with
  | none => rfl
  | some o =>
    have := s d o q
    rw [hd] at this
    cases this) hx
theorem ev_mark3 {R : Res} {σ : L2.St} {H : Hp} {ta tb : TE} {d : PyData} {ws : List Str} {E : XK} (ad : ArgD d) (ok : ∀ z, z ∈ ws → PyData.strOk z = true) (h : EvP R ta σ H (Rp K R d)) (h2 : EvP R tb σ H (IsU K R (ws.map V.str))) : EvP R (tCall (spMark3 K) [] E (tCons ta (tCons tb tNil))) σ H (Is (.bl (nameD d || inS ws d))) :=
  ev_call (ea_cons stb_rp h (ea_cons stb_isU h2 ea_nil)) fun vs H1 g ps Q q => by
    match vs, ps with
    | [u, x], ⟨hu, ⟨p, e, hp⟩, _⟩ =>
      cases e
      exact ⟨u, p, d, ws, rfl, hu.now g.1, ad, hp.now g.1, ok, fun H' e => q _ H' (Gv.same g.1 e) rfl⟩
theorem ev_add3 {R : Res} {σ : L2.St} {H : Hp} {ta : TE} {d : PyData} {E : XK} (h : EvP R ta σ H (Rp K R d)) : EvP R (tCall (spAdd3 K) [] E (tCons ta tNil)) σ H (Is (.bl (addD d))) :=
  ev_call (ea_cons stb_rp h ea_nil) fun vs H1 g ps Q q => by
    match vs, ps with
    | [u], ⟨hu, _⟩ => exact ⟨u, d, rfl, hu.now g.1, fun H' e => q _ H' (Gv.same g.1 e) rfl⟩
theorem ev_jud {R : Res} {σ : L2.St} {H : Hp} {tb : TE} {z : Str} {b : Bool} (h : EvP R tb σ H (Is (.bl b))) : EvP R (tTup (tCons (tC (.str z)) (tCons tb tNil))) σ H (Rp K R (.tuple [.str z, .bool b])) :=
  ev_tupD (ds := [.str z, .bool b]) (ea_cons stb_rp (ev_D ev_c rfl) (ea_cons stb_rp (ev_D h rfl) ea_nil)) (by decide : 2 ≤ 1000)
theorem inS_str {ws : List Str} {d : PyData} (h : inS ws d = true) : ∃ z, d = .str z := by
  obtain ⟨z, _, e⟩ := List.any_eq_true.mp h
  cases d with
  | str y => exact ⟨y, rfl⟩
  | _ => simp [PyData.eqv] at e
theorem mark_str {ws : List Str} {d : PyData} (h : (nameD d || inS ws d) = true) : ∃ z, d = .str z := by
  rcases Bool.or_eq_true_iff.mp h with h | h
  · cases d with
    | str y => exact ⟨y, rfl⟩
    | _ => exact Bool.noConfusion h
  · exact inS_str h
theorem add_int {d : PyData} (h : addD d = true) : ∃ i, d = .int i ∧ addOk i = true := by
  cases d with
  | int i => exact ⟨i, rfl, h⟩
  | _ => exact Bool.noConfusion h
theorem firstW_cons {z : Str} {b : Bool} {js : List (Str × Bool)} (h : firstW ((z, b) :: js) = none) : b = true ∧ firstW js = none := by
  cases b with
  | true => exact ⟨rfl, h⟩
  | false => exact nomatch (show some z = none from h)
def kindsS : List Str := ["yes", "no", "late yes", "late no", "word", "strike", "back", "cut"]
def jsStep (dk dO dt di : PyData) : List (Str × Bool) := [("kind", inS kindsS dk), ("old", (nameD dO || inS ["any"] dO)), ("then", (nameD dt || inS ["same"] dt)), ("add", addD di)]
def spStep3 (A : Ads) (K : PySem.W.Frag) : Sp := fun vs H Q E => ∃ (a dx : Addr) (k o t i : V) (dk dO dt di : PyData), vs = [.ref a, k, o, t, i] ∧ H a = some (.ins A.Step dx []) ∧ Dp K H k dk ∧ Dp K H o dO ∧ Dp K H t dt ∧ Dp K H i di ∧ ArgD dk ∧ ArgD dO ∧ ArgD dt ∧ ArgD di ∧
  (firstW (jsStep dk dO dt di) = none → ∀ H', (∀ x o, x ≠ a → H x = some o → H' x = some o) → Q .non H') ∧ ∀ z, firstW (jsStep dk dO dt di) = some z → OutW A H z E
theorem ok_Step3 (T : Tx A K mg) (c_refuse_wrong : CalX P w K mg base (L2.CX P w) 3 "_refuse_wrong" (spRef3 A K)) (c_is_mark_or : CalX P w K mg base CX0 2 "_is_mark_or" (spMark3 K)) (c_is_added : CalX P w K mg base CX0 2 "_is_added" (spAdd3 K))
    {fdR : FuncData} (FR : FnOk P w K mg base CX0 1 A.f_Row_init fdR ["self", "words"] (spRowI K)) (bR : Binds K fdR ["self", "words"] []) {f : Addr} {fd : FuncData} (F : Fun K "__init__" "Step.__init__" s_Step_init f fd) : FnOk P w K mg base (L2.CX P w) 4 f fd ["self", "kind", "old", "then", "add"] (spStep3 A K) := by
  refine F.okX sc_Step_init (fun vs H Q E h => ?_) (fun cdv A' outer s H vs Q E hr h => ?_)
  · obtain ⟨a, dx, k, o, t, i, dk, dO, dt, di, rfl, _⟩ := h; rfl
  · obtain ⟨a, dx, k, o, t, i, dk, dO, dt, di, rfl, ha, pk, po, pt, pi, Ak, Ao, At, Ai, q, out⟩ := h
    refine ⟨_, (pss_cons (ps_expr (pe_calS c_refuse_wrong hr (by decide) (fun σ => passAt (takes_of rfl rfl rfl rfl) σ) (pa_cons (pe_tup (pa_cons (pe_tup (pa_cons pe_str (pa_cons (pe_cmpR (op_inDT (room65 hr)) (pv 1) (pe_glob (v := .ref A.KINDS) rfl T.g_KINDS rfl) (by rfl)) pa_nil))) (pa_cons (pe_tup (pa_cons pe_str (pa_cons (pe_cal c_is_mark_or hr (by decide) pass0 (pa_cons (pv 2) (pa_cons (pe_tup (pa_cons pe_str pa_nil)) pa_nil))) pa_nil))) (pa_cons (pe_tup (pa_cons pe_str (pa_cons (pe_cal c_is_mark_or hr (by decide) pass0 (pa_cons (pv 3) (pa_cons (pe_tup (pa_cons pe_str pa_nil)) pa_nil))) pa_nil))) (pa_cons (pe_tup (pa_cons pe_str (pa_cons (pe_cal c_is_added hr (by decide) pass0 (pa_cons (pv 4) pa_nil)) pa_nil))) pa_nil))))) pa_nil)))
      (pss_cons (ps_expr (pe_off (pe_glob (v := .ref A.Row) rfl T.g_Row rfl) ⟨T.rowRd, T.rowGa⟩ ⟨T.rowOff, rfl⟩ FR (hr.mono (by decide)) T.rowKeep bR pass0 (pa_cons (pv 0) (pa_cons (pe_tup (pa_cons (pv 1) (pa_cons (pv 2) (pa_cons pe_str (pa_cons (pv 3) (pa_cons pe_str (pa_cons (pe_callTy call_str_int (by rfl) T.z_str (by decide +kernel) (pa_cons (pv 4) pa_nil)) pa_nil))))))) pa_nil))))
      (pss_cons (ps_fld (pv 0) (pv 1) rfl)
      (pss_cons (ps_fld (pv 0) (pv 2) rfl)
      (pss_cons (ps_fld (pv 0) (pv 3) rfl)
      (pss_one (ps_fld (pv 0) (pv 4) rfl))))))), ?_⟩
    have j0 : (Free.add a).J H := ⟨True.intro, by rw [ha]; exact fun z => nomatch z⟩
    have rp : ∀ {v : V} {d : PyData}, Dp K H v d → Rp K (Free.add a) d v H := fun {v d} h => dpq_add ha h
    refine s_dropS (R := Free.add a) (H := H) (ea_cons (stb_rp (K := K)) (ev_tupD (R := Free.add a) (H := H) (ds := [.tuple [.str "kind", .bool (inS kindsS dk)], .tuple [.str "old", .bool (nameD dO || inS ["any"] dO)], .tuple [.str "then", .bool (nameD dt || inS ["same"] dt)], .tuple [.str "add", .bool (addD di)]]) (ea_cons stb_rp (ev_jud ?_) (ea_cons stb_rp (ev_jud ?_) (ea_cons stb_rp (ev_jud ?_) (ea_cons stb_rp (ev_jud ?_) ea_nil)))) (by decide : 4 ≤ 1000)) ea_nil) (Gr.refl j0) fun vs H1 gr1 g1 ps => ?_
    · rw [← any_strs]
      exact ev_inDT Ak.sh (shapedT_strs kindsS (by decide +kernel)) (ev_var (i := 1) rfl fun H' g => Al.gr g (rp pk)) (ev_tupStrs (ev_cP fun H' _ => ⟨_, rfl, fun H2 _ => T.t_KINDS H2⟩))
    · exact ev_mark3 (ws := ["any"]) Ao (by decide +kernel) (ev_var (i := 2) rfl fun H' g => Al.gr g (rp po)) (ev_tupU (vs := [V.str "any"]) (ea_is ev_c ea_nil) (by decide))
    · exact ev_mark3 (ws := ["same"]) At (by decide +kernel) (ev_var (i := 3) rfl fun H' g => Al.gr g (rp pt)) (ev_tupU (vs := [V.str "same"]) (ea_is ev_c ea_nil) (by decide))
    · exact ev_add3 (ev_var (i := 4) rfl fun H' g => Al.gr g (rp pi))
    match vs, ps with
    | [u], ⟨hu, _⟩ =>
    have s1 : Same H H1 := fun x o e => by
      by_cases hx : x = a
      · subst hx
        exact (g1.2 x List.mem_cons_self).trans e
      · exact g1.1.2 x o e List.not_mem_nil (by simpa [Res.add, Free] using hx)
    refine ⟨u, jsStep dk dO dt di, rfl, hu.now g1.1.1, fun hn H2 s2 => ?_, fun z hz => outW_mono (out z hz) s1⟩
    obtain ⟨bk, n0⟩ := firstW_cons hn
    obtain ⟨bo, n1⟩ := firstW_cons n0
    obtain ⟨bt, n2⟩ := firstW_cons n1
    obtain ⟨bi, n3⟩ := firstW_cons n2
    obtain ⟨zk, rfl⟩ := inS_str bk
    cases dp_str pk
    obtain ⟨zo, rfl⟩ := mark_str bo
    cases dp_str po
    obtain ⟨zt, rfl⟩ := mark_str bt
    cases dp_str pt
    obtain ⟨zi, rfl, oki⟩ := add_int bi
    cases dp_int pi
    have s02 : Same H H2 := fun x o e => s2 x o (s1 x o e)
    have ha2 : H2 a = some (.ins A.Step dx []) := s02 _ _ ha
    have j2 : (Free.add a).J H2 := ⟨True.intro, by rw [ha2]; exact fun z => nomatch z⟩
    dsimp only
    refine s_off (R := Free.add a) (H := H2) (Ps := [Is (.ref a), TupN (Free.add a) [V.str zk, V.str zo, V.str "to", V.str zt, V.str "by", V.str (numS zi)]]) (ea_is (ev_is rfl) (ea_cons stb_tupN (ev_tupN (ea_is (ev_is rfl) (ea_is (ev_is rfl) (ea_is ev_c (ea_is (ev_is rfl) (ea_is ev_c (ea_is (ev_strI (ev_is rfl) (add_log oki)) ea_nil)))))) (by show 6 ≤ 1000; decide)) ea_nil)) (Gr.refl j2) fun vs H3 g3 gv3 ps => ?_
    obtain ⟨u2, rfl, p, rfl, hp, hd⟩ := psOk_2 ps
    have ha3 : H3 a = some (.ins A.Step dx []) := (gv3.2 a List.mem_cons_self).trans ha2
    have hc := T.o_Step.cls
    refine ⟨a, A.Step, dx, .ref p, rfl, ha3, hc, T.na_Step_words, ?_⟩
    refine s_fld rfl rfl upd_same hc T.na_Step_kind (Nat.le_of_ble_eq_true rfl) ?_
    refine s_fld rfl rfl upd_same hc T.na_Step_old (Nat.le_of_ble_eq_true rfl) ?_
    refine s_fld rfl rfl upd_same hc T.na_Step_then (Nat.le_of_ble_eq_true rfl) ?_
    refine s_fld rfl rfl upd_same hc T.na_Step_add (Nat.le_of_ble_eq_true rfl) ?_
    refine q hn _ fun x o hx e => ?_
    rw [upd_ne hx, upd_ne hx, upd_ne hx, upd_ne hx, upd_ne hx]
    exact g3.2 x o (s02 x o e) List.not_mem_nil (by simpa [Res.add, Free] using hx)
def jsJoin (dh dO dt di : PyData) : List (Str × Bool) := [("here", (nameD dh || inS ["any"] dh)), ("there", (nameD dO || inS ["any"] dO)), ("then", (nameD dt || inS ["one", "other"] dt)), ("add", addD di)]
def spJoin3 (A : Ads) (K : PySem.W.Frag) : Sp := fun vs H Q E => ∃ (a dx : Addr) (h o t i : V) (dh dO dt di : PyData), vs = [.ref a, h, o, t, i] ∧ H a = some (.ins A.Join dx []) ∧ Dp K H h dh ∧ Dp K H o dO ∧ Dp K H t dt ∧ Dp K H i di ∧ ArgD dh ∧ ArgD dO ∧ ArgD dt ∧ ArgD di ∧
  (firstW (jsJoin dh dO dt di) = none → ∀ H', (∀ x o, x ≠ a → H x = some o → H' x = some o) → Q .non H') ∧ ∀ z, firstW (jsJoin dh dO dt di) = some z → OutW A H z E
theorem ok_Join3 (T : Tx A K mg) (c_refuse_wrong : CalX P w K mg base (L2.CX P w) 3 "_refuse_wrong" (spRef3 A K)) (c_is_mark_or : CalX P w K mg base CX0 2 "_is_mark_or" (spMark3 K)) (c_is_added : CalX P w K mg base CX0 2 "_is_added" (spAdd3 K))
    {fdR : FuncData} (FR : FnOk P w K mg base CX0 1 A.f_Row_init fdR ["self", "words"] (spRowI K)) (bR : Binds K fdR ["self", "words"] []) {f : Addr} {fd : FuncData} (F : Fun K "__init__" "Join.__init__" s_Join_init f fd) : FnOk P w K mg base (L2.CX P w) 4 f fd ["self", "here", "there", "then", "add"] (spJoin3 A K) := by
  refine F.okX sc_Join_init (fun vs H Q E h => ?_) (fun cdv A' outer s H vs Q E hr h => ?_)
  · obtain ⟨a, dx, h, o, t, i, dh, dO, dt, di, rfl, _⟩ := h; rfl
  · obtain ⟨a, dx, h, o, t, i, dh, dO, dt, di, rfl, ha, ph, po, pt, pi, Ah, Ao, At, Ai, q, out⟩ := h
    refine ⟨_, (pss_cons (ps_expr (pe_calS c_refuse_wrong hr (by decide) (fun σ => passAt (takes_of rfl rfl rfl rfl) σ) (pa_cons (pe_tup (pa_cons (pe_tup (pa_cons pe_str (pa_cons (pe_cal c_is_mark_or hr (by decide) pass0 (pa_cons (pv 1) (pa_cons (pe_tup (pa_cons pe_str pa_nil)) pa_nil))) pa_nil))) (pa_cons (pe_tup (pa_cons pe_str (pa_cons (pe_cal c_is_mark_or hr (by decide) pass0 (pa_cons (pv 2) (pa_cons (pe_tup (pa_cons pe_str pa_nil)) pa_nil))) pa_nil))) (pa_cons (pe_tup (pa_cons pe_str (pa_cons (pe_cal c_is_mark_or hr (by decide) pass0 (pa_cons (pv 3) (pa_cons (pe_tup (pa_cons pe_str (pa_cons pe_str pa_nil))) pa_nil))) pa_nil))) (pa_cons (pe_tup (pa_cons pe_str (pa_cons (pe_cal c_is_added hr (by decide) pass0 (pa_cons (pv 4) pa_nil)) pa_nil))) pa_nil))))) pa_nil)))
      (pss_cons (ps_expr (pe_off (pe_glob (v := .ref A.Row) rfl T.g_Row rfl) ⟨T.rowRd, T.rowGa⟩ ⟨T.rowOff, rfl⟩ FR (hr.mono (by decide)) T.rowKeep bR pass0 (pa_cons (pv 0) (pa_cons (pe_tup (pa_cons pe_str (pa_cons (pv 1) (pa_cons (pv 2) (pa_cons pe_str (pa_cons (pv 3) (pa_cons pe_str (pa_cons (pe_callTy call_str_int (by rfl) T.z_str (by decide +kernel) (pa_cons (pv 4) pa_nil)) pa_nil)))))))) pa_nil))))
      (pss_cons (ps_fld (pv 0) (pv 1) rfl)
      (pss_cons (ps_fld (pv 0) (pv 2) rfl)
      (pss_cons (ps_fld (pv 0) (pv 3) rfl)
      (pss_one (ps_fld (pv 0) (pv 4) rfl))))))), ?_⟩
    have j0 : (Free.add a).J H := ⟨True.intro, by rw [ha]; exact fun z => nomatch z⟩
    have rp : ∀ {v : V} {d : PyData}, Dp K H v d → Rp K (Free.add a) d v H := fun {v d} h => dpq_add ha h
    refine s_dropS (R := Free.add a) (H := H) (ea_cons (stb_rp (K := K)) (ev_tupD (R := Free.add a) (H := H) (ds := [.tuple [.str "here", .bool (nameD dh || inS ["any"] dh)], .tuple [.str "there", .bool (nameD dO || inS ["any"] dO)], .tuple [.str "then", .bool (nameD dt || inS ["one", "other"] dt)], .tuple [.str "add", .bool (addD di)]]) (ea_cons stb_rp (ev_jud ?_) (ea_cons stb_rp (ev_jud ?_) (ea_cons stb_rp (ev_jud ?_) (ea_cons stb_rp (ev_jud ?_) ea_nil)))) (by decide : 4 ≤ 1000)) ea_nil) (Gr.refl j0) fun vs H1 gr1 g1 ps => ?_
    · exact ev_mark3 (ws := ["any"]) Ah (by decide +kernel) (ev_var (i := 1) rfl fun H' g => Al.gr g (rp ph)) (ev_tupU (vs := [V.str "any"]) (ea_is ev_c ea_nil) (by decide))
    · exact ev_mark3 (ws := ["any"]) Ao (by decide +kernel) (ev_var (i := 2) rfl fun H' g => Al.gr g (rp po)) (ev_tupU (vs := [V.str "any"]) (ea_is ev_c ea_nil) (by decide))
    · exact ev_mark3 (ws := ["one", "other"]) At (by decide +kernel) (ev_var (i := 3) rfl fun H' g => Al.gr g (rp pt)) (ev_tupU (vs := [V.str "one", V.str "other"]) (ea_is ev_c (ea_is ev_c ea_nil)) (by decide))
    · exact ev_add3 (ev_var (i := 4) rfl fun H' g => Al.gr g (rp pi))
    match vs, ps with
    | [u], ⟨hu, _⟩ =>
    have s1 : Same H H1 := fun x o e => by
      by_cases hx : x = a
      · subst hx
        exact (g1.2 x List.mem_cons_self).trans e
      · exact g1.1.2 x o e List.not_mem_nil (by simpa [Res.add, Free] using hx)
    refine ⟨u, jsJoin dh dO dt di, rfl, hu.now g1.1.1, fun hn H2 s2 => ?_, fun z hz => outW_mono (out z hz) s1⟩
    obtain ⟨bh, n0⟩ := firstW_cons hn
    obtain ⟨bo, n1⟩ := firstW_cons n0
    obtain ⟨bt, n2⟩ := firstW_cons n1
    obtain ⟨bi, n3⟩ := firstW_cons n2
    obtain ⟨zh, rfl⟩ := mark_str bh
    cases dp_str ph
    obtain ⟨zo, rfl⟩ := mark_str bo
    cases dp_str po
    obtain ⟨zt, rfl⟩ := mark_str bt
    cases dp_str pt
    obtain ⟨zi, rfl, oki⟩ := add_int bi
    cases dp_int pi
    have s02 : Same H H2 := fun x o e => s2 x o (s1 x o e)
    have ha2 : H2 a = some (.ins A.Join dx []) := s02 _ _ ha
    have j2 : (Free.add a).J H2 := ⟨True.intro, by rw [ha2]; exact fun z => nomatch z⟩
    dsimp only
    refine s_off (R := Free.add a) (H := H2) (Ps := [Is (.ref a), TupN (Free.add a) [V.str "join", V.str zh, V.str zo, V.str "to", V.str zt, V.str "by", V.str (numS zi)]]) (ea_is (ev_is rfl) (ea_cons stb_tupN (ev_tupN (ea_is ev_c (ea_is (ev_is rfl) (ea_is (ev_is rfl) (ea_is ev_c (ea_is (ev_is rfl) (ea_is ev_c (ea_is (ev_strI (ev_is rfl) (add_log oki)) ea_nil))))))) (by show 7 ≤ 1000; decide)) ea_nil)) (Gr.refl j2) fun vs H3 g3 gv3 ps => ?_
    obtain ⟨u2, rfl, p, rfl, hp, hd⟩ := psOk_2 ps
    have ha3 : H3 a = some (.ins A.Join dx []) := (gv3.2 a List.mem_cons_self).trans ha2
    have hc := T.o_Join.cls
    refine ⟨a, A.Join, dx, .ref p, rfl, ha3, hc, T.na_Join_words, ?_⟩
    refine s_fld rfl rfl upd_same hc T.na_Join_here (Nat.le_of_ble_eq_true rfl) ?_
    refine s_fld rfl rfl upd_same hc T.na_Join_there (Nat.le_of_ble_eq_true rfl) ?_
    refine s_fld rfl rfl upd_same hc T.na_Join_then (Nat.le_of_ble_eq_true rfl) ?_
    refine s_fld rfl rfl upd_same hc T.na_Join_add (Nat.le_of_ble_eq_true rfl) ?_
    refine q hn _ fun x o hx e => ?_
    rw [upd_ne hx, upd_ne hx, upd_ne hx, upd_ne hx, upd_ne hx]
    exact g3.2 x o (s02 x o e) List.not_mem_nil (by simpa [Res.add, Free] using hx)
def jsPart (dO dl dr di dm : PyData) : List (Str × Bool) := [("old", (nameD dO || inS ["any"] dO)), ("left", (nameD dl || inS ["same"] dl)), ("right", (nameD dr || inS ["same"] dr)), ("add", addD di), ("more", addD dm)]
def spPart3 (A : Ads) (K : PySem.W.Frag) : Sp := fun vs H Q E => ∃ (a dx : Addr) (o l r i m : V) (dO dl dr di dm : PyData), vs = [.ref a, o, l, r, i, m] ∧ H a = some (.ins A.Part dx []) ∧ Dp K H o dO ∧ Dp K H l dl ∧ Dp K H r dr ∧ Dp K H i di ∧ Dp K H m dm ∧ ArgD dO ∧ ArgD dl ∧ ArgD dr ∧ ArgD di ∧ ArgD dm ∧
  (firstW (jsPart dO dl dr di dm) = none → ∀ H', (∀ x o, x ≠ a → H x = some o → H' x = some o) → Q .non H') ∧ ∀ z, firstW (jsPart dO dl dr di dm) = some z → OutW A H z E
theorem ok_Part3 (T : Tx A K mg) (c_refuse_wrong : CalX P w K mg base (L2.CX P w) 3 "_refuse_wrong" (spRef3 A K)) (c_is_mark_or : CalX P w K mg base CX0 2 "_is_mark_or" (spMark3 K)) (c_is_added : CalX P w K mg base CX0 2 "_is_added" (spAdd3 K))
    {fdR : FuncData} (FR : FnOk P w K mg base CX0 1 A.f_Row_init fdR ["self", "words"] (spRowI K)) (bR : Binds K fdR ["self", "words"] []) {f : Addr} {fd : FuncData} (F : Fun K "__init__" "Part.__init__" s_Part_init f fd) : FnOk P w K mg base (L2.CX P w) 4 f fd ["self", "old", "left", "right", "add", "more"] (spPart3 A K) := by
  refine F.okX sc_Part_init (fun vs H Q E h => ?_) (fun cdv A' outer s H vs Q E hr h => ?_)
  · obtain ⟨a, dx, o, l, r, i, m, dO, dl, dr, di, dm, rfl, _⟩ := h; rfl
  · obtain ⟨a, dx, o, l, r, i, m, dO, dl, dr, di, dm, rfl, ha, po, pl, pr, pi, pm, Ao, AL, Ar, Ai, Am, q, out⟩ := h
    refine ⟨_, (pss_cons (ps_expr (pe_calS c_refuse_wrong hr (by decide) (fun σ => passAt (takes_of rfl rfl rfl rfl) σ) (pa_cons (pe_tup (pa_cons (pe_tup (pa_cons pe_str (pa_cons (pe_cal c_is_mark_or hr (by decide) pass0 (pa_cons (pv 1) (pa_cons (pe_tup (pa_cons pe_str pa_nil)) pa_nil))) pa_nil))) (pa_cons (pe_tup (pa_cons pe_str (pa_cons (pe_cal c_is_mark_or hr (by decide) pass0 (pa_cons (pv 2) (pa_cons (pe_tup (pa_cons pe_str pa_nil)) pa_nil))) pa_nil))) (pa_cons (pe_tup (pa_cons pe_str (pa_cons (pe_cal c_is_mark_or hr (by decide) pass0 (pa_cons (pv 3) (pa_cons (pe_tup (pa_cons pe_str pa_nil)) pa_nil))) pa_nil))) (pa_cons (pe_tup (pa_cons pe_str (pa_cons (pe_cal c_is_added hr (by decide) pass0 (pa_cons (pv 4) pa_nil)) pa_nil))) (pa_cons (pe_tup (pa_cons pe_str (pa_cons (pe_cal c_is_added hr (by decide) pass0 (pa_cons (pv 5) pa_nil)) pa_nil))) pa_nil)))))) pa_nil)))
      (pss_cons (ps_expr (pe_off (pe_glob (v := .ref A.Row) rfl T.g_Row rfl) ⟨T.rowRd, T.rowGa⟩ ⟨T.rowOff, rfl⟩ FR (hr.mono (by decide)) T.rowKeep bR pass0 (pa_cons (pv 0) (pa_cons (pe_tup (pa_cons pe_str (pa_cons (pv 1) (pa_cons pe_str (pa_cons (pv 2) (pa_cons (pv 3) (pa_cons pe_str (pa_cons (pe_callTy call_str_int (by rfl) T.z_str (by decide +kernel) (pa_cons (pv 4) pa_nil)) (pa_cons (pe_callTy call_str_int (by rfl) T.z_str (by decide +kernel) (pa_cons (pv 5) pa_nil)) pa_nil))))))))) pa_nil))))
      (pss_cons (ps_fld (pv 0) (pv 1) rfl)
      (pss_cons (ps_fld (pv 0) (pv 2) rfl)
      (pss_cons (ps_fld (pv 0) (pv 3) rfl)
      (pss_cons (ps_fld (pv 0) (pv 4) rfl)
      (pss_one (ps_fld (pv 0) (pv 5) rfl)))))))), ?_⟩
    have j0 : (Free.add a).J H := ⟨True.intro, by rw [ha]; exact fun z => nomatch z⟩
    have rp : ∀ {v : V} {d : PyData}, Dp K H v d → Rp K (Free.add a) d v H := fun {v d} h => dpq_add ha h
    refine s_dropS (R := Free.add a) (H := H) (ea_cons (stb_rp (K := K)) (ev_tupD (R := Free.add a) (H := H) (ds := [.tuple [.str "old", .bool (nameD dO || inS ["any"] dO)], .tuple [.str "left", .bool (nameD dl || inS ["same"] dl)], .tuple [.str "right", .bool (nameD dr || inS ["same"] dr)], .tuple [.str "add", .bool (addD di)], .tuple [.str "more", .bool (addD dm)]]) (ea_cons stb_rp (ev_jud ?_) (ea_cons stb_rp (ev_jud ?_) (ea_cons stb_rp (ev_jud ?_) (ea_cons stb_rp (ev_jud ?_) (ea_cons stb_rp (ev_jud ?_) ea_nil))))) (by decide : 5 ≤ 1000)) ea_nil) (Gr.refl j0) fun vs H1 gr1 g1 ps => ?_
    · exact ev_mark3 (ws := ["any"]) Ao (by decide +kernel) (ev_var (i := 1) rfl fun H' g => Al.gr g (rp po)) (ev_tupU (vs := [V.str "any"]) (ea_is ev_c ea_nil) (by decide))
    · exact ev_mark3 (ws := ["same"]) AL (by decide +kernel) (ev_var (i := 2) rfl fun H' g => Al.gr g (rp pl)) (ev_tupU (vs := [V.str "same"]) (ea_is ev_c ea_nil) (by decide))
    · exact ev_mark3 (ws := ["same"]) Ar (by decide +kernel) (ev_var (i := 3) rfl fun H' g => Al.gr g (rp pr)) (ev_tupU (vs := [V.str "same"]) (ea_is ev_c ea_nil) (by decide))
    · exact ev_add3 (ev_var (i := 4) rfl fun H' g => Al.gr g (rp pi))
    · exact ev_add3 (ev_var (i := 5) rfl fun H' g => Al.gr g (rp pm))
    match vs, ps with
    | [u], ⟨hu, _⟩ =>
    have s1 : Same H H1 := fun x o e => by
      by_cases hx : x = a
      · subst hx
        exact (g1.2 x List.mem_cons_self).trans e
      · exact g1.1.2 x o e List.not_mem_nil (by simpa [Res.add, Free] using hx)
    refine ⟨u, jsPart dO dl dr di dm, rfl, hu.now g1.1.1, fun hn H2 s2 => ?_, fun z hz => outW_mono (out z hz) s1⟩
    obtain ⟨bo, n0⟩ := firstW_cons hn
    obtain ⟨bl, n1⟩ := firstW_cons n0
    obtain ⟨br, n2⟩ := firstW_cons n1
    obtain ⟨bi, n3⟩ := firstW_cons n2
    obtain ⟨bm, n4⟩ := firstW_cons n3
    obtain ⟨zo, rfl⟩ := mark_str bo
    cases dp_str po
    obtain ⟨zl, rfl⟩ := mark_str bl
    cases dp_str pl
    obtain ⟨zr, rfl⟩ := mark_str br
    cases dp_str pr
    obtain ⟨zi, rfl, oki⟩ := add_int bi
    cases dp_int pi
    obtain ⟨zm, rfl, okm⟩ := add_int bm
    cases dp_int pm
    have s02 : Same H H2 := fun x o e => s2 x o (s1 x o e)
    have ha2 : H2 a = some (.ins A.Part dx []) := s02 _ _ ha
    have j2 : (Free.add a).J H2 := ⟨True.intro, by rw [ha2]; exact fun z => nomatch z⟩
    dsimp only
    refine s_off (R := Free.add a) (H := H2) (Ps := [Is (.ref a), TupN (Free.add a) [V.str "part", V.str zo, V.str "to", V.str zl, V.str zr, V.str "by", V.str (numS zi), V.str (numS zm)]]) (ea_is (ev_is rfl) (ea_cons stb_tupN (ev_tupN (ea_is ev_c (ea_is (ev_is rfl) (ea_is ev_c (ea_is (ev_is rfl) (ea_is (ev_is rfl) (ea_is ev_c (ea_is (ev_strI (ev_is rfl) (add_log oki)) (ea_is (ev_strI (ev_is rfl) (add_log okm)) ea_nil)))))))) (by show 8 ≤ 1000; decide)) ea_nil)) (Gr.refl j2) fun vs H3 g3 gv3 ps => ?_
    obtain ⟨u2, rfl, p, rfl, hp, hd⟩ := psOk_2 ps
    have ha3 : H3 a = some (.ins A.Part dx []) := (gv3.2 a List.mem_cons_self).trans ha2
    have hc := T.o_Part.cls
    refine ⟨a, A.Part, dx, .ref p, rfl, ha3, hc, T.na_Part_words, ?_⟩
    refine s_fld rfl rfl upd_same hc T.na_Part_old (Nat.le_of_ble_eq_true rfl) ?_
    refine s_fld rfl rfl upd_same hc T.na_Part_left (Nat.le_of_ble_eq_true rfl) ?_
    refine s_fld rfl rfl upd_same hc T.na_Part_right (Nat.le_of_ble_eq_true rfl) ?_
    refine s_fld rfl rfl upd_same hc T.na_Part_add (Nat.le_of_ble_eq_true rfl) ?_
    refine s_fld rfl rfl upd_same hc T.na_Part_more (Nat.le_of_ble_eq_true rfl) ?_
    refine q hn _ fun x o hx e => ?_
    rw [upd_ne hx, upd_ne hx, upd_ne hx, upd_ne hx, upd_ne hx, upd_ne hx]
    exact g3.2 x o (s02 x o e) List.not_mem_nil (by simpa [Res.add, Free] using hx)
end
section
variable {P : Program} {w : World} {A : Ads} {K : PySem.W.Frag} {mg : Str → Option Value} {base : Heap}
/-! ### a draw -/
def spDraw : Sp := fun vs H Q _ => ∃ a b n, vs = [.ref a, .int n] ∧ DealJ a b H ∧ 0 < n ∧ n ≤ 100000 ∧ ∀ v H', 0 ≤ v → v < n → DealJ a b H' → Rest a b H H' → Q (.int v) H'
theorem ok_draw (T : Tx A K mg) {f : Addr} {fd : FuncData} (F : Fun K "_law_draw" "_law_draw" s_law_draw f fd) : FnOk P w K mg base CX0 1 f fd ["_law_deal_here", "_law_many"] spDraw := by
  refine F.ok sc_law_draw (fun vs H Q E h => ?_) (fun cdv A' outer s H vs Q E hr h => ?_)
  · obtain ⟨a, b, n, rfl, _⟩ := h; rfl
  · obtain ⟨a, b, n, rfl, ⟨cs, m, hd⟩, hn, hn2, q⟩ := h
    refine ⟨_, (pss_cons (ps_while PassesOwn.never (PW.pt (pw_and (pt_cmpR (op_neD hr.units) (pe_ix ix_list (pv 0) pe_int (fun _ _ => rfl)) (pe_lst pa_nil) (nomark _)) (pw_and1 (pt_cmpR op_eq (pe_ix ix_list (pe_ix ix_list (pv 0) pe_int (fun _ _ => rfl)) (pe_un un_neg pe_int) (fun _ _ => rfl)) pe_int (nomark _))))) (pss_one (ps_expr (pe_bm0 PySem.F.plainAttrs_list PySem.F.slot_list_pop PySem.F.type_list_pop mt_pop (pe_ix ix_list (pv 0) pe_int (fun _ _ => rfl))))))
      (pss_cons (ps_if (pt_cmpR (op_neD hr.units) (pe_ix ix_list (pv 0) pe_int (fun _ _ => rfl)) (pe_lst pa_nil) (nomark _)) (pss_cons (ps_set (i := 2) sc_law_draw.nd rfl (by first | exact .inl rfl | exact .inr rfl) (pe_bm0 PySem.F.plainAttrs_list PySem.F.slot_list_pop PySem.F.type_list_pop mt_pop (pe_ix ix_list (pv 0) pe_int (fun _ _ => rfl))))
      (pss_cons (ps_expr (pe_bm PySem.F.plainAttrs_list PySem.F.slot_list_append PySem.F.type_list_append mt_append (pe_ix ix_list (pv 0) pe_int (fun _ _ => rfl)) (pa_cons (pe_op op_fdiv (pv 2) (pv 1)) pa_nil)))
      (pss_one (ps_ret (pe_op op_mod (pe_callTy call_int1 (by rfl) T.z_int (by decide +kernel) (pa_cons (pv 2) pa_nil)) (pv 1)))))) pss_nil)
      (pss_cons (ps_asg (pe_op op_mod (pe_callTy call_int1 (by rfl) T.z_int (by decide +kernel) (pa_cons (pe_op op_add (pe_op op_mul (pe_ix ix_list (pv 0) pe_int (fun _ _ => rfl)) pe_int) pe_int) pa_nil)) pe_int) (pg_sub (pv 0) pe_int set_list))
      (pss_one (ps_ret (pe_op op_mod (pe_callTy call_int1 (by rfl) T.z_int (by decide +kernel) (pa_cons (pe_op op_fdiv (pe_ix ix_list (pv 0) pe_int (fun _ _ => rfl)) pe_int) pa_nil)) (pv 1))))))), ?_⟩
    -- what is known of the source is told at each heap
    have cell : ∀ {H' : Hp} {cs m y}, DealAt a b cs m H' → EvP Free (tOp (rIxL K) (tVar 0) (tC (.int 0))) [some (.ref a), some (.int n), y] H' (Is (.ref b)) := fun {H' cs m y} h => ev_ixL (ev_varL rfl (al_lst h.1 ⟨List.not_mem_nil, List.not_mem_nil⟩)) ev_c rfl
    have cellL : ∀ {H' : Hp} {cs m y}, DealAt a b cs m H' → EvP Free (tOp (rIxL K) (tVar 0) (tC (.int 0))) [some (.ref a), some (.int n), y] H' (IsL K Free (cs.map V.int)) := fun {H' cs m y} h => ev_imp (cell h) fun v H2 g e => e ▸ ⟨b, rfl, Al.gr g (al_lst h.2.1 ⟨List.not_mem_nil, List.not_mem_nil⟩)⟩
    have full : ∀ {H' : Hp} {cs m y}, DealAt a b cs m H' → EvP Free (tOp (rNeD K) (tOp (rIxL K) (tVar 0) (tC (.int 0))) (tLst tNil)) [some (.ref a), some (.int n), y] H' (Is (.bl (!cs.isEmpty))) := fun {H' cs m y} h => by
      rw [← eqv_nilI]
      exact ev_neD (shaped_ints cs) (by decide +kernel) (ev_imp (cellL h) fun v H2 g ⟨p, e, hp⟩ => e ▸ rp_ints hp) (ev_lstD (ds := []) ea_nil (by decide))
    have at1 : ∀ {H' H1 : Hp} {cs m}, DealAt a b cs m H' → Same H' H1 → DealAt a b cs m H1 := fun {H' H1 cs m} h e => ⟨e _ _ h.1, e _ _ h.2.1, h.2.2⟩
    have ty : ∀ {H' : Hp} {cs m}, DealAt a b cs m H' → tyV K "list" (.ref b) H' := fun {H' cs m} h => .inl ⟨rfl, _, .inl (.inl h.2.1)⟩
    have popped : ∀ {H' : Hp} {l z m}, DealAt a b (l ++ [z]) m H' → DealAt a b l m (upd H' b (.lst (((l ++ [z]).map V.int).dropLast))) := fun {H' l z m} h => by
      obtain ⟨h1, h2, h3, h4, h5⟩ := id h
      refine ⟨by rw [upd_ne h.ne]; exact h1, by rw [upd_same, List.map_append, List.map_singleton, List.dropLast_concat], fun c hc => h3 c (List.mem_append_left _ hc), ?_, h5⟩
      rw [List.length_append] at h4
      omega
    have gone : ∀ {H' : Hp} {o : HO}, Rest a b H' (upd H' b o) := fun {H' o} x u n m e => by
      rw [upd_ne m]
      exact e
    have lastAt : ∀ (l : List Int) (z : Int), (((l ++ [z]).map V.int))[((l ++ [z]).map V.int).length - 1]? = some (.int z) := fun l z => by simp
    refine s_while (R := Free) (fun k σ' H' => ∃ cs mm y, k = cs.length ∧ σ' = [some (.ref a), some (.int n), y] ∧ DealAt a b cs mm H' ∧ Rest a b H H') cs.length ⟨cs, m, none, rfl, rfl, hd, Rest.refl H⟩ fun k σ' H' hw => ?_
    obtain ⟨cs, m, y, rfl, rfl, hd, hre⟩ := hw
    -- behind the loop
    have rest : ∀ H1, Gv Free H' H1 → ∀ D : Ends, D.rt = Q → (tSeq (tIfS (tTest (tOp (rNeD K) (tOp (rIxL K) (tVar 0) (tC (.int 0))) (tLst tNil))) (tSeq (tAsg (tBM0 K "list" rPop (tOp (rIxL K) (tVar 0) (tC (.int 0)))) (gName 2)) (tSeq (tDrop (tBM K "list" rAppend (tOp (rIxL K) (tVar 0) (tC (.int 0))) (tCons (tOp (rI CDiv fun i j => .int (i / j)) (tVar 2) (tVar 1)) tNil))) (tRet (tOp (rI (fun _ j => 0 < j) fun i j => .int (i % j)) (tCB (fun xs H Q => (∃ i, xs = [.int i] ∧ Q (.int i) H) ∨ ∃ k, xs = [.bl k] ∧ Q (.int (if k then 1 else 0)) H) (tCons (tVar 2) tNil)) (tVar 1))))) tNext)
        (tSeq (tAsg (tOp (rI (fun _ j => 0 < j) fun i j => .int (i % j)) (tCB (fun xs H Q => (∃ i, xs = [.int i] ∧ Q (.int i) H) ∨ ∃ k, xs = [.bl k] ∧ Q (.int (if k then 1 else 0)) H) (tCons (tOp (rI0 fun i j => .int (i + j)) (tOp (rI CMul fun i j => .int (i * j)) (tOp (rIxL K) (tVar 0) (tC (.int 1))) (tC (.int 48271))) (tC (.int 29))) tNil)) (tC (.int 2147483647))) (gSub (tVar 0) (tC (.int 1)) rSetL))
          (tRet (tOp (rI (fun _ j => 0 < j) fun i j => .int (i % j)) (tCB (fun xs H Q => (∃ i, xs = [.int i] ∧ Q (.int i) H) ∨ ∃ k, xs = [.bl k] ∧ Q (.int (if k then 1 else 0)) H) (tCons (tOp (rI CDiv fun i j => .int (i / j)) (tOp (rIxL K) (tVar 0) (tC (.int 1))) (tC (.int 16))) tNil)) (tVar 1))))) D [some (.ref a), some (.int n), y] H1 := by
      intro H1 g1 D hD
      have hd1 := at1 hd g1.1.free
      have re1 : Rest a b H H1 := hre.trans (.same g1.1.free)
      refine s_if1 (R := Free) (et_test (full hd1)) (Gr.refl free_j) (fun hb H2 g2 _ => ?_) (fun hb H2 g2 _ => ?_)
      · have hne : cs ≠ [] := fun z => by rw [z] at hb; exact nomatch hb
        obtain ⟨l, z, rfl⟩ : ∃ l z, cs = l ++ [z] := ⟨cs.dropLast, cs.getLast hne, (List.dropLast_concat_getLast hne).symm⟩
        have hd2 := at1 hd1 g2.free
        -- left = deal[0].pop()
        refine (cell hd2) H2 (Gr.refl free_j) _ fun u H3 g3 e => ?_
        cases e
        have hd3 := at1 hd2 g3.1.free
        refine ⟨ty hd3, b, _, .int z, rfl, rfl, hd3.2.1, lastAt l z, ?_⟩
        have hd4 := popped hd3
        generalize hH4 : upd H3 b (.lst (((l ++ [z]).map V.int).dropLast)) = H4 at hd4
        have re4 : Rest a b H H4 := ((re1.trans (.same g2.free)).trans (.same g3.1.free)).trans (by rw [← hH4]; exact gone)
        -- deal[0].append(left // many)
        show tSeq _ _ _ [some (.ref a), some (.int n), some (.int z)] _
        refine (cell (y := some (.int z)) hd4) H4 (Gr.refl free_j) _ fun u H5 g5 e => ?_
        cases e
        have hd5 := at1 hd4 g5.1.free
        refine ⟨ty hd5, (ea_is (R := Free) (H := H5) (ev_I (i := z) (j := n) ⟨hn, by omega⟩ (ev_is rfl) (ev_is rfl)) ea_nil) H5 (Gr.refl free_j) _ fun vs H6 g6 ps => ?_⟩
        cases psOk1 ps
        have hd6 := at1 hd5 g6.1.free
        refine ⟨b, _, _, rfl, rfl, hd6.2.1, ?_, ?_⟩
        · rw [List.length_map]
          have h4 := hd6.2.2.2.1
          exact small1000 (by omega)
        have hz : 0 ≤ z := hd.2.2.1 z (by simp)
        have re7 : Rest a b H (upd H6 b (.lst (l.map V.int ++ [.int (z / n)]))) := ((re4.trans (.same g5.1.free)).trans (.same g6.1.free)).trans gone
        have hd7 : DealJ a b (upd H6 b (.lst (l.map V.int ++ [.int (z / n)]))) := by
          obtain ⟨h1, h2, h3, h4, h5⟩ := id hd6
          have h4' := hd.2.2.2.1
          rw [List.length_append] at h4'
          refine ⟨l ++ [z / n], m, by rw [upd_ne hd6.ne]; exact h1, by rw [upd_same, List.map_append]; rfl, fun c hc => ?_, by rw [List.length_append]; exact h4', h5⟩
          rcases List.mem_append.mp hc with hc | hc
          · exact h3 c hc
          · rw [List.mem_singleton.mp hc]
            exact Int.ediv_nonneg hz (by omega)
        refine s_ret (R := Free) (H := upd H6 b (.lst (l.map V.int ++ [.int (z / n)]))) (ev_I (i := z) (j := n) hn (ev_int1 (ev_is rfl)) (ev_is rfl)) (Gr.refl free_j) fun u H8 g8 _ e => ?_
        cases e
        rw [hD]
        obtain ⟨cs8, m8, hd8⟩ := hd7
        exact q _ H8 (Int.emod_nonneg _ (by omega)) (Int.emod_lt_of_pos _ hn) ⟨cs8, m8, at1 hd8 g8.free⟩ (re7.trans (.same g8.free))
      · have hd2 := at1 hd1 g2.free
        have re2 : Rest a b H H2 := re1.trans (.same g2.free)
        have second : ∀ {H' : Hp} {cs m}, DealAt a b cs m H' → EvP Free (tOp (rIxL K) (tVar 0) (tC (.int 1))) [some (.ref a), some (.int n), y] H' (Is (.int m)) := fun {H' cs m} h => ev_ixL (ev_varL rfl (al_lst h.1 ⟨List.not_mem_nil, List.not_mem_nil⟩)) ev_c rfl
        have c1 : CMul m 48271 := .inr (by decide)
        refine (ev_I (R := Free) (C := fun _ j => 0 < j) (g := fun i j => .int (i % j)) (j := 2147483647) (by decide) (ev_int1 (ev_I0 (g := fun i j => .int (i + j)) (ev_I (C := CMul) (g := fun i j => .int (i * j)) c1 (second hd2) ev_c) ev_c)) ev_c) H2 (Gr.refl free_j) _ fun u H3 g3 e => ?_
        cases e
        have hd3 := at1 hd2 g3.1.free
        have hne := hd3.ne
        have re3 : Rest a b H H3 := re2.trans (.same g3.1.free)
        refine ⟨_, rfl, a, _, 1, 1, rfl, rfl, hd3.1, rfl, ?_⟩
        have hm0 : 0 ≤ (m * 48271 + 29) % 2147483647 := Int.emod_nonneg _ (by decide)
        have hm1 : (m * 48271 + 29) % 2147483647 < 2147483647 := Int.emod_lt_of_pos _ (by decide)
        have hd4 : DealAt a b cs ((m * 48271 + 29) % 2147483647) (upd H3 a (.lst ([V.ref b, .int m].set 1 (.int ((m * 48271 + 29) % 2147483647))))) :=
          ⟨upd_same, by rw [upd_ne fun e => hne e.symm]; exact hd3.2.1, hd3.2.2.1, hd3.2.2.2.1, hm0, hm1⟩
        have re4 : Rest a b H (upd H3 a (.lst ([V.ref b, .int m].set 1 (.int ((m * 48271 + 29) % 2147483647))))) := re3.trans fun x o n1 n2 e => by
          rw [upd_ne n1]
          exact e
        generalize upd H3 a (.lst ([V.ref b, .int m].set 1 (.int ((m * 48271 + 29) % 2147483647)))) = H4 at hd4 re4
        refine s_ret (R := Free) (H := H4) (ev_I (C := fun _ j => 0 < j) (g := fun i j => .int (i % j)) (j := n) hn (ev_int1 (ev_I (C := CDiv) (g := fun i j => .int (i / j)) (j := 16) ⟨by decide, by decide⟩ (second hd4) ev_c)) (ev_is rfl)) (Gr.refl free_j) fun u H8 g8 _ e => ?_
        cases e
        rw [hD]
        exact q _ H8 (Int.emod_nonneg _ (by omega)) (Int.emod_lt_of_pos _ hn) ⟨_, _, at1 hd4 g8.free⟩ (re4.trans (.same g8.free))
    by_cases hne : cs = []
    · subst hne
      refine ⟨false, et_is (et_and (b := false) (et_test (full hd)) fun h => nomatch h) rfl, Gr.refl free_j, fun h => Bool.noConfusion h, fun _ H1 g1 => rest H1 g1 _ rfl⟩
    · obtain ⟨l, z, rfl⟩ : ∃ l z, cs = l ++ [z] := ⟨cs.dropLast, cs.getLast hne, (List.dropLast_concat_getLast hne).symm⟩
      have lastI : atI ((l ++ [z]).map V.int) (-1) = some (.int z) := by
        rw [List.map_append]
        exact atI_last _ _
      refine ⟨_, et_and (et_test (full hd)) fun _ => et_test (ev_eq rfl (ev_ixL (cellL hd) (ev_neg ev_c) lastI) ev_c), Gr.refl free_j, fun _ H1 g1 => ⟨fun σ2 H2 => ∃ cs mm y, cs.length = l.length ∧ σ2 = [some (.ref a), some (.int n), y] ∧ DealAt a b cs mm H2 ∧ Rest a b H H2, fun σ2 H2 hN => ?_, ?_⟩, fun _ H1 g1 => rest H1 g1 _ rfl⟩
      · obtain ⟨cs, mm, y, e, h⟩ := hN
        exact ⟨cs.length, by rw [e, List.length_append]; exact Nat.lt_succ_self _, cs, mm, y, rfl, h⟩
      · have hd1 := at1 hd g1.1.free
        refine (cell hd1) H1 (Gr.refl free_j) _ fun u H3 g3 e => ?_
        cases e
        have hd3 := at1 hd1 g3.1.free
        exact ⟨ty hd3, b, _, .int z, rfl, rfl, hd3.2.1, lastAt l z, l, m, y, rfl, rfl, popped hd3, ((hre.trans (.same g1.1.free)).trans (.same g3.1.free)).trans gone⟩
end
section
variable {P : Program} {w : World} {A : Ads} {K : PySem.W.Frag} {mg : Str → Option Value} {base : Heap}
/-! ### a draw, a pick -/
def Below (n : Int) : VP := fun u _ => ∃ i : Int, u = .int i ∧ 0 ≤ i ∧ i < n
theorem ev_draw {R : Res} {a b : Addr} (I : IsDeal R a b) {σ : L2.St} {H : Hp} {ta tb : TE} {n : Int} {E : XK} (h1 : EvP R ta σ H (Is (.ref a))) (h2 : EvP R tb σ H (Is (.int n))) (n0 : 0 < n) (n1 : n ≤ 100000) : EvP R (tCall spDraw [] E (tCons ta (tCons tb tNil))) σ H (Below n) :=
  ev_dc I (ea_is h1 (ea_is h2 ea_nil)) fun vs H1 g ps d Q q => by
    cases psOk2 ps
    exact ⟨a, b, n, rfl, d, n0, n1, fun v H' v0 v1 d' r => q _ H' d' r ⟨v, rfl, v0, v1⟩⟩
theorem cutI (is : List Int) (lo hi : Option Int) : ∃ js : List Int, cutV (is.map V.int) lo hi = js.map V.int ∧ js.length ≤ HT.sIx is.length is.length hi := by
  refine ⟨(is.drop (HT.sIx is.length 0 lo)).take (HT.sIx is.length is.length hi - HT.sIx is.length 0 lo), ?_, ?_⟩
  · unfold cutV
    rw [List.length_map, List.map_take, List.map_drop]
  · rw [List.length_take]
    omega
theorem abs_nn (i : Int) : 0 ≤ (if i < 0 then -i else i) := by split <;> omega
def spDeal (K : PySem.W.Frag) : Sp := fun vs H Q _ => ∃ (l : Addr) (is : List Int), vs = [.ref l, .int 0] ∧ SqL K H l (is.map V.int) ∧ ∀ a b H', DealJ a b H' → Q (.ref a) H'
theorem ok_deal (T : Tx A K mg) {f : Addr} {fd : FuncData} (F : Fun K "_law_deal" "_law_deal" s_law_deal f fd) : FnOk P w K mg base CX0 1 f fd ["_law_script", "_law_base"] (spDeal K) := by
  refine F.ok sc_law_deal (fun vs H Q E h => ?_) (fun cdv A' outer s H vs Q E hr h => ?_)
  · obtain ⟨l, is, rfl, _⟩ := h; rfl
  · obtain ⟨l, is, rfl, hl, q⟩ := h
    refine ⟨_, (pss_cons (ps_setLc (i := 2) (own := [("_law_cell", 4)]) (g := gName 4) rfl sc_law_deal.nd rfl rfl (sw_true rfl rfl rfl (by decide +kernel)) (pi_list (pe_slice sl_list (pv 0) (po_some (pv 1)) (po_some pe_int))) (blkOk_by (own := [("_law_cell", 4)]) (N := ["_law_script", "_law_base", "_law_cells", "_law_mixed_here", "_law_cell"]) (sc := defScope s_law_deal) (by decide +kernel)) (fun _ _ _ _ _ => pg_name (i := 4) sc_law_deal.nd rfl (Or.inl rfl)) (fun _ _ _ _ _ => pts_nil) (fun _ _ _ _ _ => (pe_callB call_abs (by rfl) T.z_abs (by decide +kernel) (pa_cons (pe_callTy call_int1 (by rfl) T.z_int (by decide +kernel) (pa_cons (pv 4) pa_nil)) pa_nil))))
      (pss_cons (ps_set (i := 3) sc_law_deal.nd rfl (by first | exact .inl rfl | exact .inr rfl) (pe_op op_add pe_int (pe_op op_mul pe_int (pv 1))))
      (pss_cons (ps_for PassesOwn.never rfl (pi_list (pv 2)) (pg_name (i := 4) sc_law_deal.nd rfl (by first | exact .inl rfl | exact .inr rfl)) (pss_one (ps_set (i := 3) sc_law_deal.nd rfl (by first | exact .inl rfl | exact .inr rfl) (pe_op op_mod (pe_callTy call_int1 (by rfl) T.z_int (by decide +kernel) (pa_cons (pe_op op_add (pe_op op_add (pe_op op_mul (pv 3) pe_int) (pe_op op_mod (pe_callTy call_int1 (by rfl) T.z_int (by decide +kernel) (pa_cons (pv 4) pa_nil)) pe_int)) pe_int) pa_nil)) pe_int))))
      (pss_one (ps_ret (pe_lst (pa_cons (pe_revL (pe_lc (own := [("_law_cell", 4)]) (g := gName 4) rfl sc_law_deal.nd (pi_list (pv 2)) (blkOk_by (own := [("_law_cell", 4)]) (N := ["_law_script", "_law_base", "_law_cells", "_law_mixed_here", "_law_cell"]) (sc := defScope s_law_deal) (by decide +kernel)) (fun _ _ _ _ _ => pg_name (i := 4) sc_law_deal.nd rfl (Or.inl rfl)) (fun _ _ _ _ _ => pts_one (pt_cmpR op_ge (pv 4) (pe_op op_pow pe_int pe_int) (nomark _))) (fun _ _ _ _ _ => (pv 4)))) (pa_cons (pv 3) pa_nil)))))))), ?_⟩
    obtain ⟨js, hjs, hlen⟩ := cutI is (some 0) (some 61)
    have hlen2 : js.length ≤ 61 := by
      have e : HT.sIx is.length is.length (some 61) = min 61 is.length := HT.sIx_nat is.length is.length 61
      rw [e] at hlen
      omega
    have get : ∀ {x : V} {i : Nat}, (cutV (is.map V.int) (some 0) (some 61))[i]? = some x → x = .int (js.getD i 0) := fun {x i} e => by
      rw [hjs, List.getElem?_map] at e
      cases h2 : js[i]? with
      | none => rw [h2] at e; cases e
      | some z =>
        rw [h2] at e
        cases e
        rw [List.getD_eq_getElem?_getD, h2]
        rfl
    generalize hcs : ((List.range js.length).filter fun _ => true).map (fun i => (if js.getD i 0 < 0 then -js.getD i 0 else js.getD i 0)) = cs
    have cs0 : ∀ c, c ∈ cs → 0 ≤ c := fun c hc => by
      rw [← hcs] at hc
      obtain ⟨i, _, rfl⟩ := List.mem_map.mp hc
      exact abs_nn _
    have csl : cs.length ≤ 61 := by
      rw [← hcs, List.length_map, filter_yes, List.length_range]
      exact hlen2
    refine s_set (R := Free) (H := H) (P := LstN Free (cs.map V.int)) ?_ (Gr.refl free_j) fun u H1 g1 gv1 hp => ?_
    · rw [← hcs, List.map_map]
      refine ev_lcV (R := Free) (Y := YAt (cutV (is.map V.int) (some 0) (some 61))) (n := js.length) (Z := fun i x => (cutV (is.map V.int) (some 0) (some 61))[i]? = some x) (fun i => .int (if js.getD i 0 < 0 then -js.getD i 0 else js.getD i 0)) (fun _ => true) ?_ (by omega) yAt_ok (fun x => rfl) (fun D hD i x hi z => ⟨et_yes, fun _ => ?_⟩)
      · have hw := ew_list (K := K) (ev_L (ev_slL (K := K) (R := Free) (σ := L2.start ["_law_script", "_law_base", "_law_cells", "_law_mixed_here", "_law_cell"] [.ref l, .int 0]) (H := H) (lo := some 0) (hi := some 61) (ta := tVar 0) (to1 := tPart (tVar 1)) (to2 := tPart (tC (.int 61))) (ev_var rfl fun H' g => ⟨l, rfl, fun H2 g2 => (SqL.ext hl (g.tr g2).free)⟩) (eo_some (ev_is rfl)) (eo_some ev_c)))
        have e : (cutV (is.map V.int) (some 0) (some 61)).length = js.length := by rw [hjs, List.length_map]
        rw [e] at hw
        exact hw
      · exact ev_abs (ev_int1 (ev_is (show _ = some (some (V.int (js.getD i 0))) from get z ▸ rfl)))
    obtain ⟨p, rfl, hp, hd⟩ := hp
    dsimp only
    refine s_set (R := Free) (H := H1) (P := Is (.int 32452867)) ?_ (Gr.refl free_j) fun u H2 g2 gv2 e => ?_
    · exact ev_I0 (g := fun i j => .int (i + j)) (i := 32452867) (j := 0) ev_c (ev_I (C := CMul) (g := fun i j => .int (i * j)) (i := 43) (j := 0) (.inl (by decide)) ev_c (ev_is rfl))
    cases e
    dsimp only
    have hp2 : H2 p = some (.lst (cs.map V.int)) := g2.2 p _ hp hd.1 hd.2
    refine s_for (R := Free) (H := H2) (n := cs.length) (Y := YAt (cs.map V.int)) ?_ (Gr.refl free_j) fun H3 g3 gv3 => ⟨fun i σ' H' => Gr Free H3 H' ∧ ∃ (mm : Int) (y : Option V), 0 ≤ mm ∧ mm < 2147483647 ∧ σ' = [some (.ref l), some (.int 0), some (.ref p), some (.int mm), y], ⟨Gr.refl free_j, 32452867, none, by decide, by decide, rfl⟩, fun i σ' H' _ h => h.1, ?_, ?_⟩
    · have hw := ew_list (K := K) (ev_L (ev_varLN (R := Free) (σ := [some (.ref l), some (.int 0), some (.ref p), some (.int 32452867), none]) (i := 2) rfl hp2 hd))
      rw [List.length_map] at hw
      exact hw
    · rintro i x σ' H' H4 hi ⟨g4, mm, y, m0, m1, rfl⟩ ⟨rfl, hx⟩
      obtain ⟨c, hc, rfl⟩ : ∃ c : Int, c ∈ cs ∧ x = .int c := by
        obtain ⟨c, hc, e⟩ := List.mem_map.mp (List.mem_of_getElem? hx)
        exact ⟨c, hc, e.symm⟩
      refine s_set (R := Free) (H := H4) (σ := [some (.ref l), some (.int 0), some (.ref p), some (.int mm), some (.int c)]) (P := Is (.int ((mm * 48271 + c % 2147483629 + 23) % 2147483647))) ?_ (Gr.refl free_j) fun u H5 g5 gv5 e => ?_
      · refine ev_I (C := fun _ j => 0 < j) (g := fun i j => .int (i % j)) (j := 2147483647) (by decide) (ev_int1 (ev_I0 (g := fun i j => .int (i + j)) (ev_I0 (g := fun i j => .int (i + j)) (ev_I (C := CMul) (g := fun i j => .int (i * j)) (i := mm) (j := 48271) (.inr (by decide)) (ev_is rfl) ev_c) (ev_I (C := fun _ j => 0 < j) (g := fun i j => .int (i % j)) (i := c) (j := 2147483629) (by decide) (ev_int1 (ev_is rfl)) ev_c)) ev_c)) ev_c
      · cases e
        exact ⟨g4.tr g5, _, some (.int c), Int.emod_nonneg _ (by decide), Int.emod_lt_of_pos _ (by decide), rfl⟩
    · rintro σ' H4 ⟨g4, mm, y, m0, m1, rfl⟩
      have hp4 : H4 p = some (.lst (cs.map V.int)) := (g3.tr g4).2 p _ hp2 hd.1 hd.2
      generalize hds : ((List.range cs.length).filter fun i => decide (10 ^ 18 ≤ cs.getD i 0)).map (fun i => cs.getD i 0) = ds
      have ds0 : ∀ c, c ∈ ds.reverse → 0 ≤ c := fun c hc => by
        rw [List.mem_reverse, ← hds] at hc
        obtain ⟨i, hi, rfl⟩ := List.mem_map.mp hc
        have hi2 := List.mem_range.mp (List.mem_filter.mp hi).1
        rw [List.getD_eq_getElem?_getD, List.getElem?_eq_getElem hi2]
        exact cs0 _ (List.getElem_mem hi2)
      have dsl : ds.reverse.length ≤ 64 := by
        rw [List.length_reverse, ← hds, List.length_map]
        have := List.length_filter_le (fun i => decide (10 ^ 18 ≤ cs.getD i 0)) (List.range cs.length)
        rw [List.length_range] at this
        omega
      have get4 : ∀ {x : V} {i : Nat}, (cs.map V.int)[i]? = some x → x = .int (cs.getD i 0) := fun {x i} e => by
        rw [List.getElem?_map] at e
        cases h2 : cs[i]? with
        | none => rw [h2] at e; cases e
        | some z =>
          rw [h2] at e
          cases e
          rw [List.getD_eq_getElem?_getD, h2]
          rfl
      have hev : EvP Free (tLc (iList K (tVar 2)) (gName 4) (tTest (tOp (rI0 fun i j => .bl (decide (j ≤ i))) (tVar 4) (tOp (rI CPow fun i j => .int (i ^ j.toNat)) (tC (.int 10)) (tC (.int 18))))) (tVar 4) [4]) [some (.ref l), some (.int 0), some (.ref p), some (.int mm), y] H4 (LstN Free (ds.map V.int)) := by
        rw [← hds, List.map_map]
        refine ev_lcV (R := Free) (Y := YAt (cs.map V.int)) (n := cs.length) (Z := fun i x => (cs.map V.int)[i]? = some x) (fun i => .int (cs.getD i 0)) (fun i => decide (10 ^ 18 ≤ cs.getD i 0)) ?_ (by omega) yAt_ok (fun x => rfl) (fun D hD i x hi z => ⟨?_, fun _ => ?_⟩)
        · have hw := ew_list (K := K) (ev_L (ev_varLN (R := Free) (σ := [some (.ref l), some (.int 0), some (.ref p), some (.int mm), y]) (i := 2) rfl hp4 hd))
          rw [List.length_map] at hw
          exact hw
        · have e := get4 z
          subst e
          exact et_test (ev_I0 (g := fun i j => .bl (decide (j ≤ i))) (i := cs.getD i 0) (j := 10 ^ 18) (ev_is rfl) (ev_I (C := CPow) (g := fun i j => .int (i ^ j.toNat)) (i := 10) (j := 18) ⟨by decide, by decide, by decide⟩ ev_c ev_c))
        · have e := get4 z
          subst e
          exact ev_is rfl
      dsimp only
      refine s_retL (R := Free) (H := H4) (ea_cons stb_lstN (ev_revL (K := K) (ev_L hev)) (ea_is (v := .int mm) (ev_is (i := 3) rfl) ea_nil)) (Gr.refl free_j) fun vs H5 g5 ps => ?_
      match vs, ps with
      | [u1, u2], ⟨⟨b, e1, hb, _⟩, e2, _⟩ =>
        cases e1; cases e2
        refine ⟨(show 2 ≤ 1000 by decide), fun a ha => q a b _ ⟨ds.reverse, mm, upd_same, ?_, ds0, dsl, m0, m1⟩⟩
        rw [upd_ne (ne_of_none hb ha), List.map_reverse]
        exact hb
def spPick : Sp := fun vs H Q _ => ∃ a b p xs, vs = [.ref a, .ref p] ∧ DealJ a b H ∧ H p = some (.lst xs) ∧ p ≠ a ∧ p ≠ b ∧ 0 < xs.length ∧ xs.length ≤ 1000 ∧ ∀ v H', v ∈ xs → DealJ a b H' → Rest a b H H' → Q v H'
theorem ok_pick (T : Tx A K mg) (c_law_draw : CalX P w K mg base CX0 1 "_law_draw" spDraw) {f : Addr} {fd : FuncData} (F : Fun K "_law_pick" "_law_pick" s_law_pick f fd) : FnOk P w K mg base CX0 2 f fd ["_law_deal_here", "_law_some"] spPick := by
  refine F.ok sc_law_pick (fun vs H Q E h => ?_) (fun cdv A' outer s H vs Q E hr h => ?_)
  · obtain ⟨a, b, p, xs, rfl, _⟩ := h; rfl
  · obtain ⟨a, b, p, xs, rfl, hd, hp, na, nb, x0, x1, q⟩ := h
    refine ⟨_, (pss_one (ps_ret (pe_ix ix_list (pv 1) (pe_cal c_law_draw hr (by decide) pass0 (pa_cons (pv 0) (pa_cons (pe_callB call_len_seq (by rfl) T.z_len (by decide +kernel) (pa_cons (pv 1) pa_nil)) pa_nil))) (fun _ _ => rfl)))), ?_⟩
    refine s_ret (R := DealR a b) (H := H) (P := fun v _ => v ∈ xs) ?_ (Gr.refl hd) fun v H1 g _ hv => q v H1 hv (gr_deal g).1 (gr_deal g).2
    refine ev_op stb_lstN (ev_varLN rfl hp (off_deal na nb)) (ev_draw isDeal_R (n := (xs.length : Int)) (ev_is rfl) (ev_len (ev_imp (ev_varLN (R := DealR a b) rfl hp (off_deal na nb)) fun u H' g ⟨p', e, h, _⟩ => ⟨p', e, .inl (.inl (.inl h))⟩)) (by omega) (by omega)) fun x y H1 g hx hy Q' q' => ?_
    obtain ⟨p', rfl, h1, _⟩ := hx
    obtain ⟨i, rfl, i0, i1⟩ := hy
    have hi : i.toNat < xs.length := by omega
    have ei : ((i.toNat : Nat) : Int) = i := Int.toNat_of_nonneg i0
    refine ⟨p', xs, i, xs[i.toNat], rfl, rfl, .inl (.inl h1), ?_, q' _ H1 (Gv.refl g.1) (List.getElem_mem hi)⟩
    have z := atI_nat (xs := xs) (j := i.toNat) (List.getElem?_eq_getElem hi)
    rw [ei] at z
    exact z
end
section
variable {P : Program} {w : World} {A : Ads} {K : PySem.W.Frag} {mg : Str → Option Value} {base : Heap}
theorem eraseS : ∀ (l : List Str) (j : Nat), (l.map V.str).eraseIdx j = (l.eraseIdx j).map V.str
  | [], _ => rfl
  | _ :: _, 0 => rfl
  | z :: l, j + 1 => congrArg (V.str z :: ·) (eraseS l j)
def spMixed : Sp := fun vs H Q _ => ∃ (a b p : Addr) (zs : List Str), vs = [.ref a, .ref p] ∧ DealJ a b H ∧ H p = some (.lst (zs.map V.str)) ∧ p ≠ a ∧ p ≠ b ∧ zs.length ≤ 100 ∧ (∀ z, z ∈ zs → PyData.strOk z = true) ∧
  ∀ (q : Addr) (ys : List Str) (H' : Hp), ys.length = zs.length → (∀ y, y ∈ ys → y ∈ zs) → H q = none → H' q = some (.lst (ys.map V.str)) → DealJ a b H' → Rest a b H H' → Q (.ref q) H'
theorem ok_mixed (T : Tx A K mg) (c_law_draw : CalX P w K mg base CX0 1 "_law_draw" spDraw) {f : Addr} {fd : FuncData} (F : Fun K "_law_mixed" "_law_mixed" s_law_mixed f fd) : FnOk P w K mg base CX0 2 f fd ["_law_deal_here", "_law_some"] spMixed := by
  refine F.ok sc_law_mixed (fun vs H Q E h => ?_) (fun cdv A' outer s H vs Q E hr h => ?_)
  · obtain ⟨a, b, p, zs, rfl, _⟩ := h; rfl
  · obtain ⟨a, b, p, zs, rfl, hd, hp, na, nb, zl, ok, q⟩ := h
    refine ⟨_, (pss_cons (ps_par (i := 2) (j := 3) (by rfl) sc_law_mixed.nd rfl rfl (by decide) rfl rfl (pa_cons (pe_callTy call_list_of (by rfl) T.z_list (by decide +kernel) (pa_cons (pv 1) pa_nil)) (pa_cons (pe_lst pa_nil) pa_nil)) (by rfl))
      (pss_cons (ps_while PassesOwn.never (pt_cmpR (op_neD hr.units) (pv 2) (pe_lst pa_nil) (nomark _)) (pss_one (ps_expr (pe_bm PySem.F.plainAttrs_list PySem.F.slot_list_append PySem.F.type_list_append mt_append (pv 3) (pa_cons (pe_bm PySem.F.plainAttrs_list PySem.F.slot_list_pop PySem.F.type_list_pop mt_popAt (pv 2) (pa_cons (pe_cal c_law_draw hr (by decide) pass0 (pa_cons (pv 0) (pa_cons (pe_callB call_len_seq (by rfl) T.z_len (by decide +kernel) (pa_cons (pv 2) pa_nil)) pa_nil))) pa_nil)) pa_nil)))))
      (pss_one (ps_ret (pv 3))))), ?_⟩
    -- the two lists are new
    refine ⟨.ref p, rfl, p, zs.map V.str, rfl, .inl (.inl (.inl hp)), fun pl hpl => ⟨(by decide : 0 ≤ sizeLine), fun pf hpf => ⟨.ref pl, .ref pf, rfl, ?_⟩⟩⟩
    have nfl : pf ≠ pl := fun e => by rw [e, upd_same] at hpf; cases hpf
    have hpf0 : H pf = none := by rw [upd_ne nfl] at hpf; exact hpf
    have offN : ∀ {x : Addr}, H x = none → x ≠ a ∧ x ≠ b := fun {x} hx => deal_off (off (R := DealR a b) hd hx)
    obtain ⟨la, lb⟩ := offN hpl
    obtain ⟨fa, fb⟩ := offN hpf0
    have hf2 : (upd (upd H pl (.lst (zs.map V.str))) pf (.lst [])) pf = some (.lst (([] : List Str).map V.str)) := upd_same
    have hl2 : (upd (upd H pl (.lst (zs.map V.str))) pf (.lst [])) pl = some (.lst (zs.map V.str)) := by rw [upd_ne fun e => nfl e.symm, upd_same]
    have sm : Same H (upd (upd H pl (.lst (zs.map V.str))) pf (.lst [])) := fun x o e => same_new hpf x o (same_new hpl x o e)
    have hd2 : DealJ a b (upd (upd H pl (.lst (zs.map V.str))) pf (.lst [])) := (Gv.same (R := DealR a b) hd sm).1.1
    have re2 : Rest a b H (upd (upd H pl (.lst (zs.map V.str))) pf (.lst [])) := .same sm
    generalize upd (upd H pl (.lst (zs.map V.str))) pf (.lst []) = H2 at hf2 hl2 hd2 re2
    show tSeq _ _ _ [some (.ref a), some (.ref p), some (.ref pl), some (.ref pf)] H2
    -- what is new may change
    have keep : ∀ {H3 H4 : Hp}, Rest a b H H3 → (∀ x, x ≠ pl → x ≠ pf → x ≠ a → x ≠ b → H4 x = H3 x) → Rest a b H H4 := fun {H3 H4} r k x o n1 n2 e => by
      have n3 : x ≠ pl := fun z => by rw [z, hpl] at e; cases e
      have n4 : x ≠ pf := fun z => by rw [z, hpf0] at e; cases e
      rw [k x n3 n4 n1 n2]
      exact r x o n1 n2 e
    refine s_while (R := DealR a b) (fun k σ' H' => ∃ ls fs : List Str, k = ls.length ∧ σ' = [some (.ref a), some (.ref p), some (.ref pl), some (.ref pf)] ∧ DealJ a b H' ∧ Rest a b H H' ∧ H' pl = some (.lst (ls.map V.str)) ∧ H' pf = some (.lst (fs.map V.str)) ∧ fs.length + ls.length = zs.length ∧ (∀ y, y ∈ ls → y ∈ zs) ∧ ∀ y, y ∈ fs → y ∈ zs)
      zs.length ⟨zs, [], rfl, rfl, hd2, re2, hl2, hf2, Nat.zero_add _, fun _ h => h, fun _ h => absurd h List.not_mem_nil⟩ fun k σ' H' hw => ?_
    obtain ⟨ls, fs, rfl, rfl, hd3, re3, hl3, hf3, len, inl, inf⟩ := hw
    refine ⟨!ls.isEmpty, ?_, Gr.refl hd3, fun hb H1 g1 => ?_, fun hb H1 g1 => ?_⟩
    · rw [← eqv_nilS]
      exact et_test (ev_neD (shaped_strs ls fun z hz => ok z (inl z hz)) (by decide +kernel) (ev_strsD (ev_varLN (R := DealR a b) rfl hl3 (off_deal la lb))) (ev_lstD (ds := []) ea_nil (by decide)))
    · have hl4 : H1 pl = some (.lst (ls.map V.str)) := g1.1.2 pl _ hl3 (off_deal la lb).1 (off_deal la lb).2
      have hf4 : H1 pf = some (.lst (fs.map V.str)) := g1.1.2 pf _ hf3 (off_deal fa fb).1 (off_deal fa fb).2
      have n0 : 0 < ls.length := by
        cases ls with
        | nil => exact nomatch hb
        | cons l ls => exact Nat.succ_pos _
      refine ⟨fun σ2 H2 => ∃ ls2 fs2 : List Str, ls2.length < ls.length ∧ σ2 = [some (.ref a), some (.ref p), some (.ref pl), some (.ref pf)] ∧ DealJ a b H2 ∧ Rest a b H H2 ∧ H2 pl = some (.lst (ls2.map V.str)) ∧ H2 pf = some (.lst (fs2.map V.str)) ∧ fs2.length + ls2.length = zs.length ∧ (∀ y, y ∈ ls2 → y ∈ zs) ∧ ∀ y, y ∈ fs2 → y ∈ zs, fun σ2 H2 ⟨ls2, fs2, h, r⟩ => ⟨ls2.length, h, ls2, fs2, rfl, r⟩, ?_⟩
      refine ⟨.ref pf, rfl, .inl ⟨rfl, _, .inl (.inl hf4)⟩, .ref pl, rfl, .inl ⟨rfl, _, .inl (.inl hl4)⟩, ?_⟩
      refine ev_draw (R := DealR a b) isDeal_R (n := (ls.length : Int)) (ev_is rfl) (ev_val (ev_len (xs := ls.map V.str) (ev_imp (ev_varLN (R := DealR a b) rfl hl4 (off_deal la lb)) fun u H' g ⟨p', e, h, _⟩ => ⟨p', e, .inl (.inl (.inl h))⟩)) (by rw [List.length_map])) (by omega) (by omega) H1 (Gr.refl g1.1.1) _ fun u H4 g4 hi => ?_
      obtain ⟨i, rfl, i0, i1⟩ := hi
      have hi : i.toNat < ls.length := by omega
      have hl5 : H4 pl = some (.lst (ls.map V.str)) := g4.1.2 pl _ hl4 (off_deal la lb).1 (off_deal la lb).2
      have hf5 : H4 pf = some (.lst (fs.map V.str)) := g4.1.2 pf _ hf4 (off_deal fa fb).1 (off_deal fa fb).2
      have nlf : pf ≠ pl := nfl
      refine ⟨pl, ls.map V.str, i, i.toNat, .str ls[i.toNat], rfl, rfl, hl5, by omega, by omega, seq_ix i0 (by rw [List.length_map]; exact i1), by rw [List.getElem?_map, List.getElem?_eq_getElem hi]; rfl, ?_⟩
      have hf6 : (upd H4 pl (.lst ((ls.map V.str).eraseIdx i.toNat))) pf = some (.lst (fs.map V.str)) := by rw [upd_ne nfl]; exact hf5
      refine ⟨pf, fs.map V.str, .str ls[i.toNat], rfl, rfl, hf6, ?_, ?_⟩
      · rw [List.length_map]
        exact small1000 (by omega)
      refine ⟨ls.eraseIdx i.toNat, fs ++ [ls[i.toNat]], ?_, rfl, ?_, ?_, ?_, ?_, ?_, ?_, ?_⟩
      · rw [List.length_eraseIdx, if_pos hi]
        omega
      · obtain ⟨cs, m, d1, d2, d3⟩ := (gr_deal g4.1).1
        exact ⟨cs, m, by rw [upd_ne (Ne.symm fa), upd_ne (Ne.symm la)]; exact d1, by rw [upd_ne (Ne.symm fb), upd_ne (Ne.symm lb)]; exact d2, d3⟩
      · refine keep ((re3.trans (gr_deal g1.1).2).trans (gr_deal g4.1).2) fun x n1 n2 _ _ => ?_
        rw [upd_ne n2, upd_ne n1]
      · rw [upd_ne (Ne.symm nfl), upd_same, eraseS]
      · rw [upd_same, List.map_append]
        rfl
      · rw [List.length_eraseIdx, if_pos hi, List.length_append]
        show fs.length + 1 + _ = _
        omega
      · exact fun y hy => inl y (List.mem_of_mem_eraseIdx hy)
      · intro y hy
        rcases List.mem_append.mp hy with h | h
        · exact inf y h
        · rw [List.mem_singleton.mp h]
          exact inl _ (List.getElem_mem hi)
    · have e : ls = [] := by
        cases ls with
        | nil => rfl
        | cons l ls => exact nomatch hb
      subst e
      have hf4 : H1 pf = some (.lst (fs.map V.str)) := g1.1.2 pf _ hf3 (off_deal fa fb).1 (off_deal fa fb).2
      exact ⟨.ref pf, rfl, q pf fs H1 len inf hpf0 hf4 g1.1.1 (re3.trans (gr_deal g1.1).2)⟩
theorem ev_mixed {R : Res} {a b : Addr} (I : IsDeal R a b) {σ : L2.St} {H : Hp} {ta tb : TE} {zs : List Str} {E : XK} (h1 : EvP R ta σ H (Is (.ref a))) (h2 : EvP R tb σ H (LstN R (zs.map V.str))) (hl : zs.length ≤ 100) (ok : ∀ z, z ∈ zs → PyData.strOk z = true) :
    EvP R (tCall spMixed [] E (tCons ta (tCons tb tNil))) σ H (fun u H => ∃ ys : List Str, ys.length = zs.length ∧ (∀ y, y ∈ ys → y ∈ zs) ∧ LstN R (ys.map V.str) u H) :=
  ev_dc I (ea_is h1 (ea_cons stb_lstN h2 ea_nil)) fun vs H1 g ps d Q q => by
    obtain ⟨u, rfl, p, rfl, hp, hd⟩ := psOk_2 ps
    obtain ⟨n1, n2⟩ : p ≠ a ∧ p ≠ b := by
      have := hd.1
      rw [I.d] at this
      simp at this
      exact this
    exact ⟨a, b, p, zs, rfl, d, hp, n1, n2, hl, ok, fun x ys H' e i hn hx d' r => q _ H' d' r ⟨ys, e, i, x, rfl, hx, off g.1 hn⟩⟩
/-- one of these -/
def In (xs : List V) : VP := fun u _ => u ∈ xs
theorem stb_in {R : Res} {xs : List V} : Stb R (In xs) := fun _ _ _ _ h => h
theorem stb_below {R : Res} {n : Int} : Stb R (Below n) := fun _ _ _ _ h => h
theorem ev_pick {R : Res} {a b : Addr} (I : IsDeal R a b) {σ : L2.St} {H : Hp} {ta tb : TE} {xs : List V} {E : XK} (h1 : EvP R ta σ H (Is (.ref a))) (h2 : EvP R tb σ H (LstN R xs)) (n0 : 0 < xs.length) (n1 : xs.length ≤ 1000) :
    EvP R (tCall spPick [] E (tCons ta (tCons tb tNil))) σ H (In xs) :=
  ev_dc I (ea_is h1 (ea_cons stb_lstN h2 ea_nil)) fun vs H1 g ps d Q q => by
    obtain ⟨u, rfl, p, rfl, hp, hd⟩ := psOk_2 ps
    obtain ⟨m1, m2⟩ : p ≠ a ∧ p ≠ b := by
      have := hd.1
      rw [I.d] at this
      simp at this
      exact this
    exact ⟨a, b, p, xs, rfl, d, hp, m1, m2, n0, n1, fun v H' hv d' r => q v H' d' r hv⟩
/-! ### the names -/
def names13 : List Str := ["none", "in", "out", "a", "ab", "zzzz", "yes", "late", "join", "b", "word", "no", "cut"]
def spNames : Sp := fun vs H Q _ => ∃ (a b : Addr), vs = [.ref a, .int 3] ∧ DealJ a b H ∧ ∀ (q : Addr) (ys : List Str) (H' : Hp), ys.length = 3 → (∀ y, y ∈ ys → y ∈ names13) → q ≠ a → q ≠ b → H' q = some (.lst (ys.map V.str)) → DealJ a b H' → Rest a b H H' → Q (.ref q) H'
theorem ok_names (T : Tx A K mg) (c_law_mixed : CalX P w K mg base CX0 2 "_law_mixed" spMixed) {f : Addr} {fd : FuncData} (F : Fun K "_law_names" "_law_names" s_law_names f fd) : FnOk P w K mg base CX0 3 f fd ["_law_deal_here", "_law_many"] spNames := by
  refine F.ok sc_law_names (fun vs H Q E h => ?_) (fun cdv A' outer s H vs Q E hr h => ?_)
  · obtain ⟨a, b, rfl, _⟩ := h; rfl
  · obtain ⟨a, b, rfl, hd, q⟩ := h
    refine ⟨_, (pss_cons (ps_set (i := 2) sc_law_names.nd rfl (by first | exact .inl rfl | exact .inr rfl) (pe_lst (pa_cons pe_str (pa_cons pe_str (pa_cons pe_str (pa_cons pe_str (pa_cons pe_str (pa_cons pe_str (pa_cons pe_str (pa_cons pe_str (pa_cons pe_str (pa_cons pe_str (pa_cons pe_str (pa_cons pe_str (pa_cons pe_str pa_nil)))))))))))))))
      (pss_one (ps_ret (pe_slice sl_list (pe_cal c_law_mixed hr (by decide) pass0 (pa_cons (pv 0) (pa_cons (pv 2) pa_nil))) po_none (po_some (pv 1)))))), ?_⟩
    refine s_set (R := DealR a b) (H := H) (P := LstN (DealR a b) (names13.map V.str)) ?_ (Gr.refl hd) fun u H1 g1 gv1 hp => ?_
    · exact ev_lstN (ea_is ev_c (ea_is ev_c (ea_is ev_c (ea_is ev_c (ea_is ev_c (ea_is ev_c (ea_is ev_c (ea_is ev_c (ea_is ev_c (ea_is ev_c (ea_is ev_c (ea_is ev_c (ea_is ev_c ea_nil))))))))))))) (by decide)
    obtain ⟨p, rfl, hp, hpd⟩ := hp
    dsimp only
    refine s_ret (R := DealR a b) (H := H1) (P := fun u H' => ∃ ys : List Str, ys.length = 3 ∧ (∀ y, y ∈ ys → y ∈ names13) ∧ LstN (DealR a b) (ys.map V.str) u H') ?_ (Gr.refl gv1.1.1) fun u H2 g2 gv2 ⟨ys, e, i, x, hx, hx2, hx3⟩ => ?_
    · refine ev_imp (ev_slE (K := K) (φ := fun xs => ∃ ys : List Str, xs = ys.map V.str ∧ ys.length = 13 ∧ ∀ y, y ∈ ys → y ∈ names13) (lo := none) (hi := some 3) (ev_imp (ev_mixed (R := DealR a b) (zs := names13) isDeal_R (ev_is rfl) (ev_varLN (R := DealR a b) rfl hp hpd) (by decide) (by decide +kernel)) fun u H2 g ⟨ys, e, i, h⟩ => ⟨_, ⟨ys, rfl, e, i⟩, h⟩) eo_none (eo_some (ev_is rfl))) fun u H2 g ⟨xs, ⟨ys, e, l, i⟩, h⟩ => ?_
      subst e
      refine ⟨ys.take 3, by rw [List.length_take, l]; rfl, fun y hy => i y (List.mem_of_mem_take hy), ?_⟩
      have e : cutV (ys.map V.str) none (some 3) = (ys.take 3).map V.str := by
        unfold cutV
        rw [List.length_map, l, List.map_take]
        rfl
      rw [← e]
      exact h
    · cases hx
      obtain ⟨n1, n2⟩ := deal_off hx3
      exact q x ys H2 e i n1 n2 hx2 (gr_deal (g1.tr g2)).1 (gr_deal (g1.tr g2)).2
def spKinds : Sp := fun vs H Q _ => vs = [] ∧ ∀ (q : Addr) (H' : Hp), Same H H' → H q = none → H' q = some (.lst kindsV) → Q (.ref q) H'
theorem ok_kinds (T : Tx A K mg) {f : Addr} {fd : FuncData} (F : Fun K "_law_kinds" "_law_kinds" s_law_kinds f fd) : FnOk P w K mg base CX0 1 f fd [] spKinds := by
  refine F.ok sc_law_kinds (fun vs H Q E h => ?_) (fun cdv A' outer s H vs Q E hr h => ?_)
  · obtain ⟨rfl, _⟩ := h; rfl
  · obtain ⟨rfl, q⟩ := h
    refine ⟨_, (pss_one (ps_ret (pe_lst (pa_cons pe_str (pa_cons pe_str (pa_cons pe_str (pa_cons pe_str (pa_cons pe_str (pa_cons pe_str (pa_cons pe_str (pa_cons pe_str pa_nil))))))))))), ?_⟩
    exact ⟨(by decide : 8 ≤ sizeLine), fun p hp => q p _ (same_new hp) hp upd_same⟩
theorem ev_kinds {R : Res} {σ : L2.St} {H : Hp} {E : XK} : EvP R (tCall spKinds [] E tNil) σ H (LstN R kindsV) := ev_call ea_nil fun vs H1 g ps Q q => by
  match vs, ps with
  | [], _ => exact ⟨rfl, fun p H' e hn hp => q _ H' (Gv.same g.1 e) ⟨p, rfl, hp, off g.1 hn⟩⟩
/-! ### rows as tuples -/
def namesA : List V := names13.map V.str ++ [.str "any"]
def namesS : List V := names13.map V.str ++ [.str "same"]
def namesO : List V := names13.map V.str ++ [.str "one", .str "other"]
def RowD.tup : RowD → List V
  | .step k o t a => [.str "step", .str k, .str o, .str t, .int a]
  | .join h o t a => [.str "join", .str h, .str o, .str t, .int a]
  | .part o l r a m => [.str "part", .str o, .str l, .str r, .int a, .int m]
def RowD.drawn : RowD → Prop
  | .step k o t a => .str k ∈ kindsV ∧ .str o ∈ namesA ∧ .str t ∈ namesS ∧ addOk a = true
  | .join h o t a => .str h ∈ namesA ∧ .str o ∈ namesA ∧ .str t ∈ namesO ∧ addOk a = true
  | .part o l r a m => .str o ∈ namesA ∧ .str l ∈ namesS ∧ .str r ∈ namesS ∧ addOk a = true ∧ addOk m = true
theorem in_names {ms : List Str} {ws : List V} {v : V} (h : v ∈ ms.map V.str ++ ws) (hm : ∀ m, m ∈ ms → m ∈ names13) (hw : ∀ x, x ∈ ws → ∃ z, x = .str z) : ∃ z, v = .str z ∧ v ∈ names13.map V.str ++ ws := by
  rcases List.mem_append.mp h with h | h
  · obtain ⟨z, hz, rfl⟩ := List.mem_map.mp h
    exact ⟨z, rfl, List.mem_append_left _ (List.mem_map_of_mem (hm z hz))⟩
  · obtain ⟨z, rfl⟩ := hw v h
    exact ⟨z, rfl, List.mem_append_right _ h⟩
theorem add7 {i : Int} (h0 : 0 ≤ i) (h1 : i < 7) : addOk (i - 3) = true := by
  unfold addOk
  rw [decide_eq_true (by omega), decide_eq_true (by omega)]
  rfl
def spAny : Sp := fun vs H Q _ => ∃ (a b p : Addr) (ms : List Str), vs = [.ref a, .ref p] ∧ DealJ a b H ∧ H p = some (.lst (ms.map V.str)) ∧ p ≠ a ∧ p ≠ b ∧ ms.length = 3 ∧ (∀ m, m ∈ ms → m ∈ names13) ∧
  ∀ (t : Addr) (r : RowD) (H' : Hp), r.drawn → H t = none → H' t = some (.tup r.tup) → DealJ a b H' → Rest a b H H' → Q (.ref t) H'
theorem ok_any (T : Tx A K mg) (c_law_draw : CalX P w K mg base CX0 1 "_law_draw" spDraw) (c_law_pick : CalX P w K mg base CX0 2 "_law_pick" spPick) (c_law_kinds : CalX P w K mg base CX0 1 "_law_kinds" spKinds) {f : Addr} {fd : FuncData} (F : Fun K "_law_any_row" "_law_any_row" s_law_any_row f fd) : FnOk P w K mg base CX0 3 f fd ["_law_deal_here", "_law_marks"] spAny := by
  refine F.ok sc_law_any_row (fun vs H Q E h => ?_) (fun cdv A' outer s H vs Q E hr h => ?_)
  · obtain ⟨a, b, p, ms, rfl, _⟩ := h; rfl
  · obtain ⟨a, b, p, ms, rfl, hd, hp, na, nb, ml, mi, q⟩ := h
    refine ⟨_, (pss_cons (ps_par (i := 2) (j := 3) (by rfl) sc_law_any_row.nd rfl rfl (by decide) rfl rfl (pa_cons (pe_cal c_law_draw hr (by decide) pass0 (pa_cons (pv 0) (pa_cons pe_int pa_nil))) (pa_cons (pe_op op_sub (pe_cal c_law_draw hr (by decide) pass0 (pa_cons (pv 0) (pa_cons pe_int pa_nil))) pe_int) pa_nil)) (by rfl))
      (pss_cons (ps_set (i := 4) sc_law_any_row.nd rfl (by first | exact .inl rfl | exact .inr rfl) (pe_op op_cat (pv 1) (pe_lst (pa_cons pe_str pa_nil))))
      (pss_cons (ps_if (pt_cmpR op_eq (pv 2) pe_int (nomark _)) (pss_one (ps_ret (pe_tup (pa_cons pe_str (pa_cons (pe_cal c_law_pick hr (by decide) pass0 (pa_cons (pv 0) (pa_cons (pv 4) pa_nil))) (pa_cons (pe_cal c_law_pick hr (by decide) pass0 (pa_cons (pv 0) (pa_cons (pv 4) pa_nil))) (pa_cons (pe_cal c_law_pick hr (by decide) pass0 (pa_cons (pv 0) (pa_cons (pe_op op_cat (pv 1) (pe_lst (pa_cons pe_str (pa_cons pe_str pa_nil)))) pa_nil))) (pa_cons (pv 3) pa_nil)))))))) pss_nil)
      (pss_cons (ps_if (pt_cmpR op_eq (pv 2) pe_int (nomark _)) (pss_cons (ps_par (i := 5) (j := 6) (by rfl) sc_law_any_row.nd rfl rfl (by decide) rfl rfl (pa_cons (pe_cal c_law_pick hr (by decide) pass0 (pa_cons (pv 0) (pa_cons (pe_op op_cat (pv 1) (pe_lst (pa_cons pe_str pa_nil))) pa_nil))) (pa_cons (pe_cal c_law_pick hr (by decide) pass0 (pa_cons (pv 0) (pa_cons (pe_op op_cat (pv 1) (pe_lst (pa_cons pe_str pa_nil))) pa_nil))) pa_nil)) (by rfl))
      (pss_one (ps_ret (pe_tup (pa_cons pe_str (pa_cons (pe_cal c_law_pick hr (by decide) pass0 (pa_cons (pv 0) (pa_cons (pv 4) pa_nil))) (pa_cons (pv 5) (pa_cons (pv 6) (pa_cons (pv 3) (pa_cons (pe_op op_sub (pe_cal c_law_draw hr (by decide) pass0 (pa_cons (pv 0) (pa_cons pe_int pa_nil))) pe_int) pa_nil)))))))))) pss_nil)
      (pss_one (ps_ret (pe_tup (pa_cons pe_str (pa_cons (pe_cal c_law_pick hr (by decide) pass0 (pa_cons (pv 0) (pa_cons (pe_cal0 c_law_kinds hr (by decide) pass0) pa_nil))) (pa_cons (pe_cal c_law_pick hr (by decide) pass0 (pa_cons (pv 0) (pa_cons (pv 4) pa_nil))) (pa_cons (pe_cal c_law_pick hr (by decide) pass0 (pa_cons (pv 0) (pa_cons (pe_op op_cat (pv 1) (pe_lst (pa_cons pe_str pa_nil))) pa_nil))) (pa_cons (pv 3) pa_nil)))))))))))), ?_⟩
    have I : IsDeal (DealR a b) a b := isDeal_R
    refine s_par (R := DealR a b) (H := H) (P1 := Below 4) (P2 := fun u _ => ∃ i : Int, u = .int i ∧ addOk i = true) ?_ (Gr.refl hd) fun u1 u2 H1 g1 gv1 h1 h2 => ?_
    · refine ea_cons stb_below (ev_draw I (ev_is rfl) ev_c (by decide) (by decide)) (ea_cons (fun _ _ _ _ h => h) ?_ ea_nil)
      refine ev_op (R := DealR a b) stb_below (ev_draw I (n := 7) (ev_is rfl) ev_c (by decide) (by decide)) ev_c fun x y H1 g hx hy Q q => ?_
      obtain ⟨i, rfl, i0, i1⟩ := hx
      cases hy
      exact ⟨i, 3, rfl, rfl, q _ H1 (Gv.refl g.1) ⟨i - 3, rfl, add7 i0 i1⟩⟩
    obtain ⟨form, rfl, f0, f1⟩ := h1
    obtain ⟨add, rfl, ha⟩ := h2
    dsimp only
    have offp := off_deal na nb
    have fin : ∀ {H4 : Hp} (r : RowD), Gr (DealR a b) H H4 → r.drawn → r.tup.length ≤ 1000 ∧ ∀ x, H4 x = none → Q (.ref x) (upd H4 x (.tup r.tup)) := fun {H4} r g d => ⟨by cases r <;> exact Nat.le_of_ble_eq_true rfl, fun x hx => by
      have g5 := g.trans (Gv.new (o := .tup r.tup) g.1 hx)
      exact q x r _ d (g.back hx) upd_same (gr_deal g5).1 (gr_deal g5).2⟩
    have ms1 : H1 p = some (.lst (ms.map V.str)) := g1.2 p _ hp offp.1 offp.2
    refine s_set (R := DealR a b) (H := H1) (P := LstN (DealR a b) (ms.map V.str ++ [V.str "any"])) (ev_cat (ev_varLN (R := DealR a b) rfl ms1 offp) (ev_lstN (ea_is ev_c ea_nil) (by decide)) (by rw [List.length_map, ml]; decide)) (Gr.refl gv1.1.1) fun u H2 g2 gv2 h2 => ?_
    obtain ⟨s4, rfl, hs4, ds4⟩ := h2
    dsimp only
    show tSeq _ _ _ [some (.ref a), some (.ref p), some (.int form), some (.int add), some (.ref s4), none, none] H2
    have ms2 : H2 p = some (.lst (ms.map V.str)) := g2.2 p _ ms1 offp.1 offp.2
    have pkA : ∀ {y5 y6 : Option V} {H'}, Gr (DealR a b) H2 H' → EvP (DealR a b) (tCall spPick [] E0 (tCons (tVar 0) (tCons (tVar 4) tNil))) [some (.ref a), some (.ref p), some (.int form), some (.int add), some (.ref s4), y5, y6] H' (In (ms.map V.str ++ [V.str "any"])) := fun {y5 y6 H'} g =>
      ev_pick I (ev_is rfl) (ev_varLN (R := DealR a b) rfl (g.2 s4 _ hs4 ds4.1 ds4.2) ds4) (by rw [List.length_append]; simp) (by rw [List.length_append, List.length_map, ml]; decide)
    have mk1 : ∀ {y5 y6 : Option V} {H'}, Gr (DealR a b) H2 H' → EvP (DealR a b) (tVar 1) [some (.ref a), some (.ref p), some (.int form), some (.int add), some (.ref s4), y5, y6] H' (LstN (DealR a b) (ms.map V.str)) := fun {y5 y6 H'} g => ev_varLN (R := DealR a b) rfl (g.2 p _ ms2 offp.1 offp.2) offp
    have pkS : ∀ {y5 y6 : Option V} {H'}, Gr (DealR a b) H2 H' → EvP (DealR a b) (tCall spPick [] E0 (tCons (tVar 0) (tCons (tOp rCat (tVar 1) (tLst (tCons (tC (.str "same")) tNil))) tNil))) [some (.ref a), some (.ref p), some (.int form), some (.int add), some (.ref s4), y5, y6] H' (In (ms.map V.str ++ [V.str "same"])) := fun {y5 y6 H'} g =>
      ev_pick I (ev_is rfl) (ev_cat (mk1 g) (ev_lstN (vs := [V.str "same"]) (ea_is ev_c ea_nil) (by decide)) (by rw [List.length_map, ml]; decide)) (by rw [List.length_append]; simp) (by rw [List.length_append, List.length_map, ml]; decide)
    have pkO : ∀ {y5 y6 : Option V} {H'}, Gr (DealR a b) H2 H' → EvP (DealR a b) (tCall spPick [] E0 (tCons (tVar 0) (tCons (tOp rCat (tVar 1) (tLst (tCons (tC (.str "one")) (tCons (tC (.str "other")) tNil)))) tNil))) [some (.ref a), some (.ref p), some (.int form), some (.int add), some (.ref s4), y5, y6] H' (In (ms.map V.str ++ [V.str "one", V.str "other"])) := fun {y5 y6 H'} g =>
      ev_pick I (ev_is rfl) (ev_cat (mk1 g) (ev_lstN (vs := [V.str "one", V.str "other"]) (ea_is ev_c (ea_is ev_c ea_nil)) (by decide)) (by rw [List.length_map, ml]; decide)) (by rw [List.length_append]; simp) (by rw [List.length_append, List.length_map, ml]; decide)
    have w1 : ∀ {z0 : Str} (x : V), x ∈ [V.str z0] → ∃ z, x = .str z := fun {z0} x h => ⟨_, List.mem_singleton.mp h⟩
    have w2 : ∀ (x : V), x ∈ [V.str "one", V.str "other"] → ∃ z, x = .str z := fun x h => by
      rcases List.mem_cons.mp h with h | h
      · exact ⟨_, h⟩
      · exact w1 x h
    have g02 : Gr (DealR a b) H H2 := g1.tr g2
    refine s_if1 (R := DealR a b) (b := decide (V.int form = V.int 0)) (et_test (ev_eq rfl (ev_is rfl) ev_c)) (Gr.refl g2.1) (fun hb H3 g3 gv3 => ?_) (fun hb H3 g3 gv3 => ?_)
    · refine s_retT (R := DealR a b) (H := H3) (Ps := [Is (V.str "join"), In (ms.map V.str ++ [V.str "any"]), In (ms.map V.str ++ [V.str "any"]), In (ms.map V.str ++ [V.str "one", V.str "other"]), Is (.int add)]) (ea_is ev_c (ea_cons stb_in (pkA g3) (ea_cons stb_in (pkA g3) (ea_cons stb_in (pkO g3) (ea_is (ev_is rfl) ea_nil))))) (Gr.refl g3.1) fun us H4 g4 ps => ?_
      match us, ps with
      | [u1, u2, u3, u4, u5], ⟨e1, h2, h3, h4, e5, _⟩ =>
        cases e1; cases e5
        obtain ⟨z2, rfl, h2⟩ := in_names h2 mi w1
        obtain ⟨z3, rfl, h3⟩ := in_names h3 mi w1
        obtain ⟨z4, rfl, h4⟩ := in_names h4 mi w2
        exact fin (.join z2 z3 z4 add) (g02.tr (g3.tr g4)) ⟨h2, h3, h4, ha⟩
    dsimp only
    refine s_if1 (R := DealR a b) (H := H3) (b := decide (V.int form = V.int 1)) (et_test (ev_eq rfl (ev_is rfl) ev_c)) (Gr.refl g3.1) (fun hb2 H4 g4 gv4 => ?_) (fun hb2 H4 g4 gv4 => ?_)
    · refine s_par (R := DealR a b) (H := H4) (P1 := In (ms.map V.str ++ [V.str "same"])) (P2 := In (ms.map V.str ++ [V.str "same"])) (ea_cons stb_in (pkS (g3.tr g4)) (ea_cons stb_in (pkS (g3.tr g4)) ea_nil)) (Gr.refl g4.1) fun u1 u2 H5 g5 gv5 h1 h2 => ?_
      obtain ⟨z1, rfl, h1⟩ := in_names h1 mi w1
      obtain ⟨z2, rfl, h2⟩ := in_names h2 mi w1
      dsimp only
      show tRet _ _ [some (.ref a), some (.ref p), some (.int form), some (.int add), some (.ref s4), some (.str z1), some (.str z2)] H5
      refine s_retT (R := DealR a b) (H := H5) (Ps := [Is (V.str "part"), In (ms.map V.str ++ [V.str "any"]), Is (.str z1), Is (.str z2), Is (.int add), fun u _ => ∃ i : Int, u = .int i ∧ addOk i = true]) (ea_is ev_c (ea_cons stb_in (pkA ((g3.tr g4).tr g5)) (ea_is (ev_is rfl) (ea_is (ev_is rfl) (ea_is (ev_is rfl) (ea_cons (fun _ _ _ _ h => h) ?_ ea_nil)))))) (Gr.refl g5.1) fun us H6 g6 ps => ?_
      · refine ev_op (R := DealR a b) stb_below (ev_draw I (n := 7) (ev_is rfl) ev_c (by decide) (by decide)) ev_c fun x y H1 g hx hy Q q => ?_
        obtain ⟨i, rfl, i0, i1⟩ := hx
        cases hy
        exact ⟨i, 3, rfl, rfl, q _ H1 (Gv.refl g.1) ⟨i - 3, rfl, add7 i0 i1⟩⟩
      · match us, ps with
        | [u1, u2, u3, u4, u5, u6], ⟨e1, k2, e3, e4, e5, ⟨i, e6, hi⟩, _⟩ =>
          cases e1; cases e3; cases e4; cases e5; cases e6
          obtain ⟨z3, rfl, k2⟩ := in_names k2 mi w1
          exact fin (.part z3 z1 z2 add i) (g02.tr ((g3.tr g4).tr (g5.tr g6))) ⟨k2, h1, h2, ha, hi⟩
    dsimp only
    refine s_retT (R := DealR a b) (H := H4) (Ps := [Is (V.str "step"), In kindsV, In (ms.map V.str ++ [V.str "any"]), In (ms.map V.str ++ [V.str "same"]), Is (.int add)]) (ea_is ev_c (ea_cons stb_in (ev_pick I (ev_is rfl) ev_kinds (by decide) (by decide)) (ea_cons stb_in (pkA (g3.tr g4)) (ea_cons stb_in (pkS (g3.tr g4)) (ea_is (ev_is rfl) ea_nil))))) (Gr.refl g4.1) fun us H5 g5 ps => ?_
    match us, ps with
    | [u1, u2, u3, u4, u5], ⟨e1, h2, h3, h4, e5, _⟩ =>
      cases e1; cases e5
      obtain ⟨z2, rfl⟩ : ∃ z, u2 = .str z := by
        have h2' : u2 ∈ kindsV := h2
        simp [kindsV] at h2'
        rcases h2' with h | h | h | h | h | h | h | h <;> exact ⟨_, h⟩
      obtain ⟨z3, rfl, h3⟩ := in_names h3 mi w1
      obtain ⟨z4, rfl, h4⟩ := in_names h4 mi w1
      exact fin (.step z2 z3 z4 add) (g02.tr ((g3.tr g4).tr g5)) ⟨h2, h3, h4, ha⟩
end
section
variable {P : Program} {w : World} {A : Ads} {K : PySem.W.Frag} {mg : Str → Option Value} {base : Heap}
theorem eraseI : ∀ (l : List Int) (j : Nat), (l.map V.int).eraseIdx j = (l.eraseIdx j).map V.int
  | [], _ => rfl
  | _ :: _, 0 => rfl
  | z :: l, j + 1 => congrArg (V.int z :: ·) (eraseI l j)
def spMixI : Sp := fun vs H Q _ => ∃ (a b p : Addr) (zs : List Int), vs = [.ref a, .ref p] ∧ DealJ a b H ∧ H p = some (.lst (zs.map V.int)) ∧ p ≠ a ∧ p ≠ b ∧ zs.length ≤ 100 ∧
  ∀ (q : Addr) (ys : List Int) (H' : Hp), ys.length = zs.length → (∀ y, y ∈ ys → y ∈ zs) → H q = none → H' q = some (.lst (ys.map V.int)) → DealJ a b H' → Rest a b H H' → Q (.ref q) H'
theorem ok_mixI (T : Tx A K mg) (c_law_draw : CalX P w K mg base CX0 1 "_law_draw" spDraw) {f : Addr} {fd : FuncData} (F : Fun K "_law_mixed" "_law_mixed" s_law_mixed f fd) : FnOk P w K mg base CX0 2 f fd ["_law_deal_here", "_law_some"] spMixI := by
  refine F.ok sc_law_mixed (fun vs H Q E h => ?_) (fun cdv A' outer s H vs Q E hr h => ?_)
  · obtain ⟨a, b, p, zs, rfl, _⟩ := h; rfl
  · obtain ⟨a, b, p, zs, rfl, hd, hp, na, nb, zl, q⟩ := h
    refine ⟨_, (pss_cons (ps_par (i := 2) (j := 3) (by rfl) sc_law_mixed.nd rfl rfl (by decide) rfl rfl (pa_cons (pe_callTy call_list_of (by rfl) T.z_list (by decide +kernel) (pa_cons (pv 1) pa_nil)) (pa_cons (pe_lst pa_nil) pa_nil)) (by rfl))
      (pss_cons (ps_while PassesOwn.never (pt_cmpR (op_neD hr.units) (pv 2) (pe_lst pa_nil) (nomark _)) (pss_one (ps_expr (pe_bm PySem.F.plainAttrs_list PySem.F.slot_list_append PySem.F.type_list_append mt_append (pv 3) (pa_cons (pe_bm PySem.F.plainAttrs_list PySem.F.slot_list_pop PySem.F.type_list_pop mt_popAt (pv 2) (pa_cons (pe_cal c_law_draw hr (by decide) pass0 (pa_cons (pv 0) (pa_cons (pe_callB call_len_seq (by rfl) T.z_len (by decide +kernel) (pa_cons (pv 2) pa_nil)) pa_nil))) pa_nil)) pa_nil)))))
      (pss_one (ps_ret (pv 3))))), ?_⟩
    -- the two lists are new
    refine ⟨.ref p, rfl, p, zs.map V.int, rfl, .inl (.inl (.inl hp)), fun pl hpl => ⟨(by decide : 0 ≤ sizeLine), fun pf hpf => ⟨.ref pl, .ref pf, rfl, ?_⟩⟩⟩
    have nfl : pf ≠ pl := fun e => by rw [e, upd_same] at hpf; cases hpf
    have hpf0 : H pf = none := by rw [upd_ne nfl] at hpf; exact hpf
    have offN : ∀ {x : Addr}, H x = none → x ≠ a ∧ x ≠ b := fun {x} hx => deal_off (off (R := DealR a b) hd hx)
    obtain ⟨la, lb⟩ := offN hpl
    obtain ⟨fa, fb⟩ := offN hpf0
    have hf2 : (upd (upd H pl (.lst (zs.map V.int))) pf (.lst [])) pf = some (.lst (([] : List Int).map V.int)) := upd_same
    have hl2 : (upd (upd H pl (.lst (zs.map V.int))) pf (.lst [])) pl = some (.lst (zs.map V.int)) := by rw [upd_ne fun e => nfl e.symm, upd_same]
    have sm : Same H (upd (upd H pl (.lst (zs.map V.int))) pf (.lst [])) := fun x o e => same_new hpf x o (same_new hpl x o e)
    have hd2 : DealJ a b (upd (upd H pl (.lst (zs.map V.int))) pf (.lst [])) := (Gv.same (R := DealR a b) hd sm).1.1
    have re2 : Rest a b H (upd (upd H pl (.lst (zs.map V.int))) pf (.lst [])) := .same sm
    generalize upd (upd H pl (.lst (zs.map V.int))) pf (.lst []) = H2 at hf2 hl2 hd2 re2
    show tSeq _ _ _ [some (.ref a), some (.ref p), some (.ref pl), some (.ref pf)] H2
    -- what is new may change
    have keep : ∀ {H3 H4 : Hp}, Rest a b H H3 → (∀ x, x ≠ pl → x ≠ pf → x ≠ a → x ≠ b → H4 x = H3 x) → Rest a b H H4 := fun {H3 H4} r k x o n1 n2 e => by
      have n3 : x ≠ pl := fun z => by rw [z, hpl] at e; cases e
      have n4 : x ≠ pf := fun z => by rw [z, hpf0] at e; cases e
      rw [k x n3 n4 n1 n2]
      exact r x o n1 n2 e
    refine s_while (R := DealR a b) (fun k σ' H' => ∃ ls fs : List Int, k = ls.length ∧ σ' = [some (.ref a), some (.ref p), some (.ref pl), some (.ref pf)] ∧ DealJ a b H' ∧ Rest a b H H' ∧ H' pl = some (.lst (ls.map V.int)) ∧ H' pf = some (.lst (fs.map V.int)) ∧ fs.length + ls.length = zs.length ∧ (∀ y, y ∈ ls → y ∈ zs) ∧ ∀ y, y ∈ fs → y ∈ zs)
      zs.length ⟨zs, [], rfl, rfl, hd2, re2, hl2, hf2, Nat.zero_add _, fun _ h => h, fun _ h => absurd h List.not_mem_nil⟩ fun k σ' H' hw => ?_
    obtain ⟨ls, fs, rfl, rfl, hd3, re3, hl3, hf3, len, inl, inf⟩ := hw
    refine ⟨!ls.isEmpty, ?_, Gr.refl hd3, fun hb H1 g1 => ?_, fun hb H1 g1 => ?_⟩
    · rw [← eqv_nilI]
      exact et_test (ev_neD (shaped_ints ls) (by decide +kernel) (ev_intsD (ev_varLN (R := DealR a b) rfl hl3 (off_deal la lb))) (ev_lstD (ds := []) ea_nil (by decide)))
    · have hl4 : H1 pl = some (.lst (ls.map V.int)) := g1.1.2 pl _ hl3 (off_deal la lb).1 (off_deal la lb).2
      have hf4 : H1 pf = some (.lst (fs.map V.int)) := g1.1.2 pf _ hf3 (off_deal fa fb).1 (off_deal fa fb).2
      have n0 : 0 < ls.length := by
        cases ls with
        | nil => exact nomatch hb
        | cons l ls => exact Nat.succ_pos _
      refine ⟨fun σ2 H2 => ∃ ls2 fs2 : List Int, ls2.length < ls.length ∧ σ2 = [some (.ref a), some (.ref p), some (.ref pl), some (.ref pf)] ∧ DealJ a b H2 ∧ Rest a b H H2 ∧ H2 pl = some (.lst (ls2.map V.int)) ∧ H2 pf = some (.lst (fs2.map V.int)) ∧ fs2.length + ls2.length = zs.length ∧ (∀ y, y ∈ ls2 → y ∈ zs) ∧ ∀ y, y ∈ fs2 → y ∈ zs, fun σ2 H2 ⟨ls2, fs2, h, r⟩ => ⟨ls2.length, h, ls2, fs2, rfl, r⟩, ?_⟩
      refine ⟨.ref pf, rfl, .inl ⟨rfl, _, .inl (.inl hf4)⟩, .ref pl, rfl, .inl ⟨rfl, _, .inl (.inl hl4)⟩, ?_⟩
      refine ev_draw (R := DealR a b) isDeal_R (n := (ls.length : Int)) (ev_is rfl) (ev_val (ev_len (xs := ls.map V.int) (ev_imp (ev_varLN (R := DealR a b) rfl hl4 (off_deal la lb)) fun u H' g ⟨p', e, h, _⟩ => ⟨p', e, .inl (.inl (.inl h))⟩)) (by rw [List.length_map])) (by omega) (by omega) H1 (Gr.refl g1.1.1) _ fun u H4 g4 hi => ?_
      obtain ⟨i, rfl, i0, i1⟩ := hi
      have hi : i.toNat < ls.length := by omega
      have hl5 : H4 pl = some (.lst (ls.map V.int)) := g4.1.2 pl _ hl4 (off_deal la lb).1 (off_deal la lb).2
      have hf5 : H4 pf = some (.lst (fs.map V.int)) := g4.1.2 pf _ hf4 (off_deal fa fb).1 (off_deal fa fb).2
      have nlf : pf ≠ pl := nfl
      refine ⟨pl, ls.map V.int, i, i.toNat, .int ls[i.toNat], rfl, rfl, hl5, by omega, by omega, seq_ix i0 (by rw [List.length_map]; exact i1), by rw [List.getElem?_map, List.getElem?_eq_getElem hi]; rfl, ?_⟩
      have hf6 : (upd H4 pl (.lst ((ls.map V.int).eraseIdx i.toNat))) pf = some (.lst (fs.map V.int)) := by rw [upd_ne nfl]; exact hf5
      refine ⟨pf, fs.map V.int, .int ls[i.toNat], rfl, rfl, hf6, ?_, ?_⟩
      · rw [List.length_map]
        exact small1000 (by omega)
      refine ⟨ls.eraseIdx i.toNat, fs ++ [ls[i.toNat]], ?_, rfl, ?_, ?_, ?_, ?_, ?_, ?_, ?_⟩
      · rw [List.length_eraseIdx, if_pos hi]
        omega
      · obtain ⟨cs, m, d1, d2, d3⟩ := (gr_deal g4.1).1
        exact ⟨cs, m, by rw [upd_ne (Ne.symm fa), upd_ne (Ne.symm la)]; exact d1, by rw [upd_ne (Ne.symm fb), upd_ne (Ne.symm lb)]; exact d2, d3⟩
      · refine keep ((re3.trans (gr_deal g1.1).2).trans (gr_deal g4.1).2) fun x n1 n2 _ _ => ?_
        rw [upd_ne n2, upd_ne n1]
      · rw [upd_ne (Ne.symm nfl), upd_same, eraseI]
      · rw [upd_same, List.map_append]
        rfl
      · rw [List.length_eraseIdx, if_pos hi, List.length_append]
        show fs.length + 1 + _ = _
        omega
      · exact fun y hy => inl y (List.mem_of_mem_eraseIdx hy)
      · intro y hy
        rcases List.mem_append.mp hy with h | h
        · exact inf y h
        · rw [List.mem_singleton.mp h]
          exact inl _ (List.getElem_mem hi)
    · have e : ls = [] := by
        cases ls with
        | nil => rfl
        | cons l ls => exact nomatch hb
      subst e
      have hf4 : H1 pf = some (.lst (fs.map V.int)) := g1.1.2 pf _ hf3 (off_deal fa fb).1 (off_deal fa fb).2
      exact ⟨.ref pf, rfl, q pf fs H1 len inf hpf0 hf4 g1.1.1 (re3.trans (gr_deal g1.1).2)⟩
theorem ev_mixI {R : Res} {a b : Addr} (I : IsDeal R a b) {σ : L2.St} {H : Hp} {ta tb : TE} {zs : List Int} {E : XK} (h1 : EvP R ta σ H (Is (.ref a))) (h2 : EvP R tb σ H (LstN R (zs.map V.int))) (hl : zs.length ≤ 100) :
    EvP R (tCall spMixI [] E (tCons ta (tCons tb tNil))) σ H (fun u H => ∃ ys : List Int, ys.length = zs.length ∧ (∀ y, y ∈ ys → y ∈ zs) ∧ LstN R (ys.map V.int) u H) :=
  ev_dc I (ea_is h1 (ea_cons stb_lstN h2 ea_nil)) fun vs H1 g ps d Q q => by
    obtain ⟨u, rfl, p, rfl, hp, hd⟩ := psOk_2 ps
    obtain ⟨n1, n2⟩ : p ≠ a ∧ p ≠ b := by
      have := hd.1
      rw [I.d] at this
      simp at this
      exact this
    exact ⟨a, b, p, zs, rfl, d, hp, n1, n2, hl, fun x ys H' e i hn hx d' r => q _ H' d' r ⟨ys, e, i, x, rfl, hx, off g.1 hn⟩⟩
end
section
variable {P : Program} {w : World} {A : Ads} {K : PySem.W.Frag} {mg : Str → Option Value} {base : Heap}
/-! ### things -/
def things16 : List V := [.non, .bl true, .int 0, .int 1, .int (0 - 2), .int 4, .str "", .str "a", .str "any", .str "one", .str "same", .str "to", .str "by", .str "yes", .str "cut", .str "Ab"]
theorem things_ok : things16.all tdB = true := by decide +kernel
def spThing (K : PySem.W.Frag) (n : Nat) : Sp := fun vs H Q _ => ∃ (R : Res) (a b : Addr), vs = [.ref a, .int (n : Int)] ∧ IsDeal R a b ∧ R.J H ∧ ∀ v d H', TD n d → Rp K R d v H' → Gv R H H' → Q v H'
theorem ev_thing {R : Res} {a b : Addr} (I : IsDeal R a b) {σ : L2.St} {H : Hp} {ta tb : TE} {n : Nat} {E : XK} (h1 : EvP R ta σ H (Is (.ref a))) (h2 : EvP R tb σ H (Is (.int (n : Int)))) : EvP R (tCall (spThing K n) [] E (tCons ta (tCons tb tNil))) σ H (fun u H => ∃ d, TD n d ∧ Rp K R d u H) :=
  ev_call (ea_is h1 (ea_is h2 ea_nil)) fun vs H1 g ps Q q => by
    cases psOk2 ps
    exact ⟨R, a, b, rfl, I, g.1, fun v d H' td rp gv => q v H' gv ⟨d, td, rp⟩⟩
theorem eb_draw {R : Res} {a b : Addr} (I : IsDeal R a b) {σ : L2.St} {H : Hp} {n k : Int} {E : XK} (n0 : 0 < n) (n1 : n ≤ 100000) (h : σ[0]? = some (some (.ref a))) : EvB R (tTest (tOp rEq (tCall spDraw [] E (tCons (tVar 0) (tCons (tC (.int n)) tNil))) (tC (.int k)))) σ H :=
  eb_test (ev_op stb_below (ev_draw I (ev_is h) ev_c n0 n1) ev_c fun x y H1 g hx hy Q q => by
    obtain ⟨i, rfl, _⟩ := hx
    cases hy
    exact ⟨rfl, q _ H1 (Gv.refl g.1) ⟨_, rfl⟩⟩)
theorem ok_thing (T : Tx A K mg) (n k : Nat) (hk : 2 ≤ k) (sp : Sp) (hsp : n ≠ 0 → sp = spThing K (n - 1)) (c_law_thing : CalX P w K mg base CX0 k "_law_thing" sp) (c_law_draw : CalX P w K mg base CX0 1 "_law_draw" spDraw) (c_law_pick : CalX P w K mg base CX0 2 "_law_pick" spPick) {f : Addr} {fd : FuncData} (F : Fun K "_law_thing" "_law_thing" s_law_thing f fd) : FnOk P w K mg base CX0 (k + 1) f fd ["_law_deal_here", "_law_deep"] (spThing K n) := by
  refine F.ok sc_law_thing (fun vs H Q E h => ?_) (fun cdv A' outer s H vs Q E hr h => ?_)
  · obtain ⟨R, a, b, rfl, _⟩ := h; rfl
  · obtain ⟨R, a, b, rfl, I, j0, q⟩ := h
    refine ⟨_, (pss_cons (ps_if (PW.pt (pw_and (pt_cmpR op_gt (pv 1) pe_int (nomark _)) (pw_and1 (pt_cmpR op_eq (pe_cal c_law_draw hr (by omega) pass0 (pa_cons (pv 0) (pa_cons pe_int pa_nil))) pe_int (nomark _))))) (pss_cons (ps_setLc (i := 2) (own := [("_law_turn", 3)]) (g := gName 3) rfl sc_law_thing.nd rfl rfl (sw_true rfl rfl rfl (by decide +kernel)) (pi_range1 (by rfl) T.z_range (pa_cons (pe_cal c_law_draw hr (by omega) pass0 (pa_cons (pv 0) (pa_cons pe_int pa_nil))) pa_nil)) (blkOk_by (own := [("_law_turn", 3)]) (N := ["_law_deal_here", "_law_deep", "_law_some", "_law_turn"]) (sc := defScope s_law_thing) (by decide +kernel)) (fun _ _ _ _ _ => pg_name (i := 3) sc_law_thing.nd rfl (Or.inl rfl)) (fun _ _ _ _ _ => pts_nil) (fun _ _ _ _ _ => (pe_cal c_law_thing hr (by omega) pass0 (pa_cons (pv 0) (pa_cons (pe_op op_sub (pv 1) pe_int) pa_nil)))))
      (pss_one (ps_ret (pe_ifExp (pt_cmpR op_eq (pe_cal c_law_draw hr (by omega) pass0 (pa_cons (pv 0) (pa_cons pe_int pa_nil))) pe_int (nomark _)) (pv 2) (pe_callTy call_tuple_of (by rfl) T.z_tuple (by decide +kernel) (pa_cons (pv 2) pa_nil)))))) pss_nil)
      (pss_one (ps_ret (pe_cal c_law_pick hr (by omega) pass0 (pa_cons (pv 0) (pa_cons (pe_lst (pa_cons pe_non (pa_cons pe_bl (pa_cons pe_int (pa_cons pe_int (pa_cons (pe_op op_sub pe_int pe_int) (pa_cons pe_int (pa_cons pe_str (pa_cons pe_str (pa_cons pe_str (pa_cons pe_str (pa_cons pe_str (pa_cons pe_str (pa_cons pe_str (pa_cons pe_str (pa_cons pe_str (pa_cons pe_str pa_nil))))))))))))))))) pa_nil)))))), ?_⟩
    have last : ∀ {H1 : Hp} {D : Ends}, D.rt = Q → Gv R H H1 → tRet (tCall spPick [] E0 (tCons (tVar 0) (tCons (tLst (tCons (tC .non) (tCons (tC (.bl true)) (tCons (tC (.int 0)) (tCons (tC (.int 1)) (tCons (tOp (rI0 fun i j => .int (i - j)) (tC (.int 0)) (tC (.int 2))) (tCons (tC (.int 4)) (tCons (tC (.str "")) (tCons (tC (.str "a")) (tCons (tC (.str "any")) (tCons (tC (.str "one")) (tCons (tC (.str "same")) (tCons (tC (.str "to")) (tCons (tC (.str "by")) (tCons (tC (.str "yes")) (tCons (tC (.str "cut")) (tCons (tC (.str "Ab")) tNil))))))))))))))))) tNil))) D [some (.ref a), some (.int (n : Int)), none, none] H1 := fun {H1 D} hD gv => by
      refine s_ret (R := R) (H := H1) (P := In things16) (ev_pick I (ev_is rfl) (ev_lstN (vs := things16) (ea_is ev_c (ea_is ev_c (ea_is ev_c (ea_is ev_c (ea_is (ev_I0 (g := fun i j => .int (i - j)) ev_c ev_c) (ea_is ev_c (ea_is ev_c (ea_is ev_c (ea_is ev_c (ea_is ev_c (ea_is ev_c (ea_is ev_c (ea_is ev_c (ea_is ev_c (ea_is ev_c (ea_is ev_c ea_nil)))))))))))))))) (by show 16 ≤ 1000; decide)) (by decide) (by decide)) (Gr.refl gv.1.1) fun u H2 _ gv2 hu => ?_
      obtain ⟨fv, td⟩ := td_flat things_ok hu
      rw [hD]
      exact q u (toD u) H2 (td.mono (Nat.zero_le _)) (rp_flat fv) (gv.trans gv2)
    cases n with
    | zero =>
      refine s_if1 (R := R) (H := H) (b := false) (et_and (b := false) (et_is (et_test (ev_I0 (g := fun i j => .bl (decide (j < i))) (ev_is (i := 1) rfl) ev_c)) (b := false) rfl) fun h => Bool.noConfusion h) (Gr.refl j0) (fun hb => Bool.noConfusion hb) fun _ H1 _ gv1 => ?_
      exact last rfl gv1
    | succ n =>
      have e := hsp (Nat.succ_ne_zero n)
      subst e
      refine s_ifB (R := R) (H := H) (eb_and (eb_of (b := true) (et_is (et_test (ev_I0 (g := fun i j => .bl (decide (j < i))) (ev_is (i := 1) rfl) ev_c)) (decide_eq_true (by omega)))) (eb_draw I (by decide) (by decide) rfl)) (Gr.refl j0) (fun H1 g1 gv1 => ?_) fun H1 g1 gv1 => last rfl gv1
      refine s_set (R := R) (H := H1) (P := fun u H => ∃ m, m ≤ 3 ∧ LsOk R (gl m (fun _ => true) fun _ => (fun R' => (fun (u : V) (H : Hp) => ∃ d, TD n d ∧ Rp K R' d u H)) R) u H) ?_ (Gr.refl g1.1) fun u H2 g2 gv2 hu => ?_
      · refine ev_lcU (R := R) (N := 3) (Y := YFn fun i => .int (i : Int)) (Z := fun i x => x = .int (i : Int)) (fun R' u H => ∃ d, TD n d ∧ Rp K R' d u H) (eu_range (m := 3) (ev_draw I (ev_is rfl) ev_c (by decide) (by decide)) (by decide)) (by decide) yFn_ok (fun x => rfl) (fun R' u H H' g ⟨d, td, h⟩ => ⟨d, td, Al.gr g h⟩) (fun D v H' xs hx hd ⟨d, td, h⟩ => ⟨d, td, al_out hx hd h⟩) fun D hD i x hi z => ?_
        exact ev_thing (I.add (I.off g1.1 hD)) (ev_is rfl) (ev_val (ev_I0 (g := fun i j => .int (i - j)) (ev_is rfl) ev_c) (by show V.int (((n + 1 : Nat) : Int) - 1) = V.int (n : Int); congr 1; omega))
      obtain ⟨m, hm, p, xs, rfl, hp, hd, ps⟩ := hu
      obtain ⟨ds, dl, td, ps⟩ := psOk_ex (φ := TD n) (S := fun d => Rp K R d) ps
      dsimp only
      have lx : xs.length ≤ 3 := by
        have := psOk_len ps
        rw [List.length_map, dl] at this
        have := List.length_filter_le (fun _ => true) (List.range m)
        rw [List.length_range] at this
        omega
      have vL : EvP R (tVar 2) [some (.ref a), some (.int ((n + 1 : Nat) : Int)), some (.ref p), none] H2 (LstN R xs) := ev_varLN rfl hp hd
      have rpL : ∀ H', Gr R H2 H' → DpAll K H' xs ds := dpAll_of ps
      refine s_ret (R := R) (H := H2) (P := fun u H => ∃ d, TD (n + 1) d ∧ Rp K R d u H) (ev_ifB (eb_draw I (by decide) (by decide) rfl) (ev_var rfl fun H' g => ⟨.list ds, (td_list td).1, fun H3 g3 => .lst (.inl (.inl ((g.tr g3).2 p _ hp hd.1 hd.2))) (rpL H3 (g.tr g3))⟩) ?_) (Gr.refl g2.1) fun u H3 g3 gv3 hu => ?_
      · refine fun H0 g0 Q q => vL H0 g0 _ fun u H3 g3 ⟨p2, e2, hp2, hd2⟩ => ⟨p2, xs, by rw [e2], .inl ⟨.inl (.inl hp2), fun l hl => q _ _ (g3.trans (Gv.new g3.1.1 hl)) ⟨.tuple ds, (td_list td).2, fun H4 g4 => .tup (.inl (.inl (g4.2 l _ upd_same (off g3.1.1 hl).1 (off g3.1.1 hl).2))) (rpL H4 (((g0.trans g3).trans (Gv.new g3.1.1 hl)).tr g4))⟩⟩⟩
      · obtain ⟨d, t, r⟩ := hu
        exact q u d H3 t r (gv1.trans (gv2.trans gv3))
end
section
variable {P : Program} {w : World} {A : Ads} {K : PySem.W.Frag} {mg : Str → Option Value} {base : Heap}
theorem in4 (n : Nat) : inV (.int (n : Int)) [V.int 1, .int 2, .int 3, .int 4] = (decide (1 ≤ n) && decide (n ≤ 4)) := by
  match n with
  | 0 => decide +kernel
  | 1 => decide +kernel
  | 2 => decide +kernel
  | 3 => decide +kernel
  | 4 => decide +kernel
  | n + 5 =>
    have e : ∀ k : Int, k ≤ 4 → eqV (.int k) (.int ((n + 5 : Nat) : Int)) = false := fun k hk => by
      show decide (k = ((n + 5 : Nat) : Int)) = false
      exact decide_eq_false (by omega)
    show (eqV (.int 1) (.int ((n + 5 : Nat) : Int)) || (eqV (.int 2) (.int ((n + 5 : Nat) : Int)) || (eqV (.int 3) (.int ((n + 5 : Nat) : Int)) || (eqV (.int 4) (.int ((n + 5 : Nat) : Int)) || false)))) = _
    rw [e 1 (by decide), e 2 (by decide), e 3 (by decide), e 4 (by decide), decide_eq_false (show ¬ n + 5 ≤ 4 by omega), Bool.and_false]
    rfl
def azS : Str := "abcdefghijklmnopqrstuvwxyz"
theorem az_mem (c : Nat) : decide (c ∈ azS.cps.toList) = (decide (97 ≤ c) && decide (c ≤ 122)) := by
  have e : azS.cps.toList = List.range' 97 26 := by decide +kernel
  rw [e, Bool.eq_iff_iff, Bool.and_eq_true, decide_eq_true_iff, decide_eq_true_iff, decide_eq_true_iff, List.mem_range'_1]
  omega
theorem none_left (z : Str) : (((List.range z.cps.size).filter fun i => !decide (z.cps.getD i 0 ∈ azS.cps.toList)).map fun i => (⟨#[z.cps.getD i 0]⟩ : Str)).isEmpty = letters z := by
  rw [letters_is, List.isEmpty_map, Bool.eq_iff_iff, List.isEmpty_iff, List.filter_eq_nil_iff, List.all_map, List.all_eq_true]
  constructor
  · intro h i hi
    have := h i hi
    rw [az_mem] at this
    simpa using this
  · intro h i hi
    have := h i hi
    rw [az_mem]
    simpa using this
def spLName (K : PySem.W.Frag) : Sp := fun vs H Q _ => ∃ v d, vs = [v] ∧ Dp K H v d ∧ ArgD d ∧ ∀ H', Same H H' → Q (.bl (nameD d)) H'
theorem ok_lname (T : Tx A K mg) {f : Addr} {fd : FuncData} (F : Fun K "_law_is_name" "_law_is_name" s_law_is_name f fd) : FnOk P w K mg base CX0 1 f fd ["_law_thing_here"] (spLName K) := by
  refine F.ok sc_law_is_name (fun vs H Q E h => ?_) (fun cdv A' outer s H vs Q E hr h => ?_)
  · obtain ⟨v, d, rfl, _⟩ := h; rfl
  · obtain ⟨v, d, rfl, hd, ad, q⟩ := h
    refine ⟨_, (pss_cons (ps_if (PW.pt (pw_or (pt_not (pt_val (pe_callB call_isi (by rfl) T.z_isinstance (by decide +kernel) (pa_cons (pv 0) (pa_cons (pe_bltn (v := .ty "str") (by rfl) T.z_str (by decide +kernel) rfl) pa_nil))))) (pw_or (pt_cmpR op_notIn_seq (pe_callB call_len_str (by rfl) T.z_len (by decide +kernel) (pa_cons (pv 0) pa_nil)) (pe_tup (pa_cons pe_int (pa_cons pe_int (pa_cons pe_int (pa_cons pe_int pa_nil))))) (by rfl)) (pw_or1 (pt_cmpR op_in_seq (pv 0) (pe_tup (pa_cons pe_str (pa_cons pe_str (pa_cons pe_str (pa_cons pe_str (pa_cons pe_str pa_nil)))))) (by rfl)))))) (pss_one (ps_ret pe_bl)) pss_nil)
      (pss_one (ps_ret (pe_cmpR (op_eqD hr.units) (pe_lc (own := [("_law_sign", 1)]) (g := gName 1) rfl sc_law_is_name.nd (pi_str (pv 0)) (blkOk_by (own := [("_law_sign", 1)]) (N := ["_law_thing_here", "_law_sign"]) (sc := defScope s_law_is_name) (by decide +kernel)) (fun _ _ _ _ _ => pg_name (i := 1) sc_law_is_name.nd rfl (Or.inl rfl)) (fun _ _ _ _ _ => pts_one (pt_cmpR op_notIn_sign (pv 1) pe_str (by rfl))) (fun _ _ _ _ _ => (pv 1))) (pe_lst pa_nil) (nomark _))))), ?_⟩
    have hv : EvP Free (tVar 0) [some v, none] H (Rp K Free d) := ev_var rfl fun H' g => rp_free (dp_same g.free _ _ hd)
    cases hs : isSD d with
    | false =>
      have z : nameD d = false := by cases d <;> first | rfl | exact absurd hs Bool.noConfusion
      rw [z] at q
      refine s_if1 (R := Free) (H := H) (b := true) (et_is (et_or (b := false) (et_not (et_B (ev_isD hv ev_c (kitD_str d)))) fun z => ?_) (by rw [hs]; rfl)) (Gr.refl free_j) (fun hb H1 g gv => ?_) (fun hb => Bool.noConfusion hb)
      · rw [hs] at z
        exact Bool.noConfusion z
      · exact s_ret (R := Free) ev_c g fun u H2 g2 _ e => e ▸ q H2 g2.free
    | true =>
      obtain ⟨z, rfl⟩ : ∃ z, d = .str z := by
        cases d with
        | str z => exact ⟨z, rfl⟩
        | _ => exact Bool.noConfusion hs
      cases dp_str hd
      have hz : z.length ≤ 1000 := ad.st z rfl
      have so : PyData.strOk z = true := (Bool.and_eq_true_iff.mp ad.sh).1
      have tup : ∀ {σ : L2.St} {H' : Hp} {ts : TA} {xs : List V}, EvA Free ts σ H' (xs.map Is) → xs.length ≤ 1000 → EvP Free (tTup ts) σ H' (fun u H => ∃ p, u = .ref p ∧ (SqL K H p xs ∨ SqT K H p xs)) := fun {σ H' ts xs} h hl => ev_imp (ev_tupV h hl) fun u H' g ⟨p, e, hp, _⟩ => ⟨p, e, .inr (.inl (.inl hp))⟩
      refine s_if1 (R := Free) (H := H) (et_or (et_not (et_B (ev_isD hv ev_c (kitD_str _)))) fun _ => et_or (et_test (ev_in (K := K) (neg := true) (x := .int (z.length : Int)) (xs := [V.int 1, .int 2, .int 3, .int 4]) rfl rfl (ev_lenS (ev_is rfl) (by omega)) (tup (xs := [V.int 1, .int 2, .int 3, .int 4]) (ea_is ev_c (ea_is ev_c (ea_is ev_c (ea_is ev_c ea_nil)))) (by show 4 ≤ 1000; decide)))) fun _ => et_test (ev_in (K := K) (neg := false) (x := .str z) (xs := keyws) rfl rfl (ev_is rfl) (tup (xs := keyws) (ea_is ev_c (ea_is ev_c (ea_is ev_c (ea_is ev_c (ea_is ev_c ea_nil))))) (by show 5 ≤ 1000; decide)))) (Gr.refl free_j) (fun hb H1 g1 gv1 => ?_) (fun hb H1 g1 gv1 => ?_)
      · refine s_ret (R := Free) (H := H1) ev_c (Gr.refl free_j) fun u H2 g2 _ e => ?_
        cases e
        have nn : nameD (.str z) = false := by
          show (!inV (.str z) keyws && (decide (1 ≤ z.length) && decide (z.length ≤ 4) && letters z)) = false
          rw [show (if true then !inV (.int (z.length : Int)) [V.int 1, .int 2, .int 3, .int 4] else inV (.int (z.length : Int)) [V.int 1, .int 2, .int 3, .int 4]) = !(decide (1 ≤ z.length) && decide (z.length ≤ 4)) by rw [← in4]; rfl] at hb
          have hb2 : (!(decide (1 ≤ z.length) && decide (z.length ≤ 4)) || inV (.str z) keyws) = true := hb
          generalize inV (.str z) keyws = k1 at hb2 ⊢
          generalize (decide (1 ≤ z.length) && decide (z.length ≤ 4)) = k2 at hb2 ⊢
          revert hb2
          cases k1 <;> cases k2 <;> simp
        rw [nn] at q
        exact q H2 (g1.tr g2).free
      dsimp only
      refine s_ret (R := Free) (H := H1) (P := Is (.bl (letters z))) ?_ (Gr.refl free_j) fun u H2 g2 _ e => ?_
      · rw [← none_left, ← eqv_nilS]
        refine ev_eqD (shaped_strs _ fun y hy => ?_) (by decide +kernel) (ev_strsD ?_) (ev_lstD (ds := []) ea_nil (by decide))
        · obtain ⟨i, hi, rfl⟩ := List.mem_map.mp hy
          have hi2 := List.mem_range.mp (List.mem_filter.mp hi).1
          have h1 := Array.all_eq_true.mp (show z.cps.all (· < 0x110000) = true from so) i hi2
          show (#[z.cps.getD i 0] : Array Nat).all (· < 0x110000) = true
          simpa [Array.getD, hi2] using h1
        · rw [List.map_map]
          refine ev_lcV (R := Free) (n := z.cps.size) (Y := fun i H v H' => H' = H ∧ ∃ c, z.cps[i]? = some c ∧ v = .str ⟨#[c]⟩) (Z := fun i v => ∃ c, z.cps[i]? = some c ∧ v = V.str ⟨#[c]⟩) (fun i => .str ⟨#[z.cps.getD i 0]⟩) (fun i => !decide (z.cps.getD i 0 ∈ azS.cps.toList)) (ew_str (ev_is rfl)) hz yStr_ok (fun x => rfl) fun D hD i x hi hx => ?_
          obtain ⟨c, hc, rfl⟩ := hx
          have ec : z.cps.getD i 0 = c := by
            obtain ⟨h1, h2⟩ := Array.getElem?_eq_some_iff.mp hc
            simp [Array.getD, h1, h2]
          rw [ec]
          exact ⟨et_test (ev_opS (ev_is rfl) ev_c fun H1 g Q q => ⟨c, azS, rfl, rfl, q _ H1 (Gv.refl g.1) rfl⟩), fun _ => ev_is rfl⟩
      · cases e
        have nn : nameD (.str z) = letters z := by
          show (!inV (.str z) keyws && (decide (1 ≤ z.length) && decide (z.length ≤ 4) && letters z)) = letters z
          rw [show (if true then !inV (.int (z.length : Int)) [V.int 1, .int 2, .int 3, .int 4] else inV (.int (z.length : Int)) [V.int 1, .int 2, .int 3, .int 4]) = !(decide (1 ≤ z.length) && decide (z.length ≤ 4)) by rw [← in4]; rfl] at hb
          have hb2 : (!(decide (1 ≤ z.length) && decide (z.length ≤ 4)) || inV (.str z) keyws) = false := hb
          generalize inV (.str z) keyws = k1 at hb2 ⊢
          generalize (decide (1 ≤ z.length) && decide (z.length ≤ 4)) = k2 at hb2 ⊢
          revert hb2
          cases k1 <;> cases k2 <;> simp
        rw [nn] at q
        exact q H2 (g1.tr g2).free
def spLAdd (K : PySem.W.Frag) : Sp := fun vs H Q _ => ∃ v d, vs = [v] ∧ Dp K H v d ∧ ∀ H', Same H H' → Q (.bl (addD d)) H'
theorem ok_ladd (T : Tx A K mg) {f : Addr} {fd : FuncData} (F : Fun K "_law_is_add" "_law_is_add" s_law_is_add f fd) : FnOk P w K mg base CX0 1 f fd ["_law_thing_here"] (spLAdd K) := by
  refine F.ok sc_law_is_add (fun vs H Q E h => ?_) (fun cdv A' outer s H vs Q E hr h => ?_)
  · obtain ⟨v, d, rfl, _⟩ := h; rfl
  · obtain ⟨v, d, rfl, hd, q⟩ := h
    refine ⟨_, (pss_one (ps_ret (pe_and (pe_callB call_isi (by rfl) T.z_isinstance (by decide +kernel) (pa_cons (pv 0) (pa_cons (pe_bltn (v := .ty "int") (by rfl) T.z_int (by decide +kernel) rfl) pa_nil))) (pe_and (pe_not (pe_callB call_isi (by rfl) T.z_isinstance (by decide +kernel) (pa_cons (pv 0) (pa_cons (pe_bltn (v := .ty "bool") (by rfl) T.z_bool (by decide +kernel) rfl) pa_nil)))) (pe_one (pe_chain op_lt op_lt (pe_un un_neg pe_int) (pv 0) pe_int)))))), ?_⟩
    have hv : EvP Free (tVar 0) [some v] H (Rp K Free d) := ev_var rfl fun H' g => rp_free (dp_same g.free _ _ hd)
    refine s_ret (R := Free) (P := Is (.bl (addD d))) ?_ (Gr.refl free_j) fun u H1 g _ e => e ▸ q H1 g.free
    cases d with
    | int i =>
      cases dp_int hd
      refine ev_val (ev_and (ev_isD hv ev_c (kitD_int _)) fun _ => ev_and (ev_not (ev_isD hv ev_c (kitD_bool _))) fun _ => ev_chainI (p := fun i j => decide (i < j)) (q := fun i j => decide (i < j)) (ev_neg ev_c) (ev_is rfl) ev_c) ?_
      show V.bl (true && (true && (decide (-4 < i) && decide (i < 4)))) = V.bl (decide (-3 ≤ i) && decide (i ≤ 3))
      congr 1
      rw [Bool.true_and, Bool.true_and, decide_eq_decide.mpr (show -4 < i ↔ -3 ≤ i by omega), decide_eq_decide.mpr (show i < 4 ↔ i ≤ 3 by omega)]
    | bool b => exact ev_val (ev_and (ev_isD hv ev_c (kitD_int _)) fun _ => ev_and (b := false) (ev_not (ev_isD hv ev_c (kitD_bool _))) fun h => Bool.noConfusion h) rfl
    | none => exact ev_val (ev_and (b := false) (ev_isD hv ev_c (kitD_int _)) fun h => Bool.noConfusion h) rfl
    | str z => exact ev_val (ev_and (b := false) (ev_isD hv ev_c (kitD_int _)) fun h => Bool.noConfusion h) rfl
    | list ds => exact ev_val (ev_and (b := false) (ev_isD hv ev_c (kitD_int _)) fun h => Bool.noConfusion h) rfl
    | tuple ds => exact ev_val (ev_and (b := false) (ev_isD hv ev_c (kitD_int _)) fun h => Bool.noConfusion h) rfl
    | dict ds => exact ev_val (ev_and (b := false) (ev_isD hv ev_c (kitD_int _)) fun h => Bool.noConfusion h) rfl
def str13 : List V := [.str "a", .str "none", .str "zzzz", .str "abcde", .str "any", .str "same", .str "one", .str "other", .str "to", .str "yes", .str "late yes", .str "late", .str "strike"]
def odd11 : List V := [.int 0, .int 3, .int 4, .int (-3), .int (-4), .bl true, .non, .str "", .str "A", .str "a b", .str "0"]
theorem odd_ok : (str13 ++ odd11).all tdB = true := by decide +kernel
def spStr3 (K : PySem.W.Frag) : Sp := fun vs H Q _ => ∃ (R : Res) (a b : Addr), vs = [.ref a] ∧ IsDeal R a b ∧ R.J H ∧ ∀ v d H', TD 2 d → Rp K R d v H' → Gv R H H' → Q v H'
theorem ok_strange (T : Tx A K mg) (c_law_thing : CalX P w K mg base CX0 5 "_law_thing" (spThing K 2)) (c_law_draw : CalX P w K mg base CX0 1 "_law_draw" spDraw) (c_law_pick : CalX P w K mg base CX0 2 "_law_pick" spPick) {f : Addr} {fd : FuncData} (F : Fun K "_law_strange" "_law_strange" s_law_strange f fd) : FnOk P w K mg base CX0 6 f fd ["_law_deal_here"] (spStr3 K) := by
  refine F.ok sc_law_strange (fun vs H Q E h => ?_) (fun cdv A' outer s H vs Q E hr h => ?_)
  · obtain ⟨R, a, b, rfl, _⟩ := h; rfl
  · obtain ⟨R, a, b, rfl, I, j0, q⟩ := h
    refine ⟨_, (pss_cons (ps_set (i := 1) sc_law_strange.nd rfl (by first | exact .inl rfl | exact .inr rfl) (pe_lst (pa_cons pe_str (pa_cons pe_str (pa_cons pe_str (pa_cons pe_str (pa_cons pe_str (pa_cons pe_str (pa_cons pe_str (pa_cons pe_str (pa_cons pe_str (pa_cons pe_str (pa_cons pe_str (pa_cons pe_str (pa_cons pe_str pa_nil)))))))))))))))
      (pss_cons (ps_set (i := 1) sc_law_strange.nd rfl (by first | exact .inl rfl | exact .inr rfl) (pe_op op_cat (pv 1) (pe_lst (pa_cons pe_int (pa_cons pe_int (pa_cons pe_int (pa_cons (pe_un un_neg pe_int) (pa_cons (pe_un un_neg pe_int) (pa_cons pe_bl (pa_cons pe_non (pa_cons pe_str (pa_cons pe_str (pa_cons pe_str (pa_cons pe_str pa_nil))))))))))))))
      (pss_one (ps_ret (pe_ifExp (pt_cmpR op_gt (pe_cal c_law_draw hr (by decide) pass0 (pa_cons (pv 0) (pa_cons pe_int pa_nil))) pe_int (nomark _)) (pe_cal c_law_pick hr (by decide) pass0 (pa_cons (pv 0) (pa_cons (pv 1) pa_nil))) (pe_cal c_law_thing hr (by decide) pass0 (pa_cons (pv 0) (pa_cons pe_int pa_nil)))))))), ?_⟩
    refine s_set (R := R) (H := H) (P := LstN R str13) (ev_lstN (ea_is ev_c (ea_is ev_c (ea_is ev_c (ea_is ev_c (ea_is ev_c (ea_is ev_c (ea_is ev_c (ea_is ev_c (ea_is ev_c (ea_is ev_c (ea_is ev_c (ea_is ev_c (ea_is ev_c ea_nil))))))))))))) (by show 13 ≤ 1000; decide)) (Gr.refl j0) fun u H1 g1 gv1 ⟨p, e, hp, hd⟩ => ?_
    subst e
    dsimp only
    refine s_set (R := R) (H := H1) (P := LstN R (str13 ++ odd11)) (ev_cat (ev_varLN rfl hp hd) (ev_lstN (vs := odd11) (ea_is ev_c (ea_is ev_c (ea_is ev_c (ea_is (ev_neg ev_c) (ea_is (ev_neg ev_c) (ea_is ev_c (ea_is ev_c (ea_is ev_c (ea_is ev_c (ea_is ev_c (ea_is ev_c ea_nil))))))))))) (by show 11 ≤ 1000; decide)) (by show 24 ≤ 1000; decide)) (Gr.refl g1.1) fun u H2 g2 gv2 ⟨p2, e, hp2, hd2⟩ => ?_
    subst e
    dsimp only
    refine s_ret (R := R) (H := H2) (P := fun u H => ∃ d, TD 2 d ∧ Rp K R d u H) (ev_ifB (eb_test (ev_op (R := R) stb_below (ev_draw I (n := 4) (ev_is rfl) ev_c (by decide) (by decide)) ev_c fun x y H1 g hx hy Q q => by
        obtain ⟨i, rfl, _⟩ := hx
        cases hy
        exact ⟨i, 0, rfl, rfl, q _ H1 (Gv.refl g.1) ⟨_, rfl⟩⟩)) (ev_imp (ev_pick I (ev_is rfl) (ev_varLN rfl hp2 hd2) (by decide) (by decide)) fun u H' g hu => ?_) (ev_thing I (ev_is rfl) ev_c)) (Gr.refl g2.1) fun u H3 g3 gv3 ⟨d, td, r⟩ => ?_
    · obtain ⟨fv, td⟩ := td_flat odd_ok hu
      exact ⟨toD u, td.mono (by decide), rp_flat fv⟩
    · exact q u d H3 td r (gv1.trans (gv2.trans gv3))
end
section
variable {P : Program} {w : World} {A : Ads} {K : PySem.W.Frag} {mg : Str → Option Value} {base : Heap}
/-! ### what is wrong, by the law -/
theorem filter_take {α : Type} (p : α → Bool) (l : List α) (i : Nat) (x : α) (h : l[i]? = some x) : (l.take (i + 1)).filter p = (l.take i).filter p ++ (if p x then [x] else []) := by
  obtain ⟨h1, h2⟩ := List.getElem?_eq_some_iff.mp h
  rw [List.take_succ, h, List.filter_append]
  show _ ++ List.filter p [x] = _
  rw [List.filter_cons]
  rfl
theorem ev_bad {js : List (Str × Bool)} {xs : List V} {p : Addr} {H : Hp} {s0 s1 s2 s3 s4 s6 s7 s8 s9 s10 : Option V} (hp : H p = some (.lst xs)) (ps : PsOk (js.map fun j => TupN Free [V.str j.1, .bl j.2]) xs H) (hl : js.length ≤ 1000) :
    EvP Free (tLc (iList K (tVar 5)) (gTup K 2 (gCons (gName 9) (gCons (gName 10) gNil))) (tNot (tB (tVar 10))) (tVar 9) [9, 10]) [s0, s1, s2, s3, s4, some (.ref p), s6, s7, s8, s9, s10] H (LstN Free ((js.filter fun j => !j.2).map fun j => V.str j.1)) := fun H0 g0 Q q => by
  have hp0 := g0.free _ _ hp
  have lx : xs.length = js.length := by have := psOk_len ps; rw [List.length_map] at this; exact this
  refine ⟨.ref p, rfl, p, rfl, ⟨xs, .inl (.inl hp0)⟩, fun D hD => ?_⟩
  have nD : ∀ {x : Addr} {o : HO}, H0 x = some o → x ≠ D := fun e => ne_of_none e hD
  refine lc_it (walk_list (xs := xs)) (fun i H' => (∀ x o, H0 x = some o → H' x = some o) ∧ H' D = some (.lst (((js.take i).filter fun j => !j.2).map fun j => V.str j.1))) ⟨fun x o e => by rw [upd_ne (nD e)]; exact e, upd_same⟩ (fun i H' hi h => .inl (.inl (h.1 _ _ hp0))) (fun i x H2 H3 hi h y => ?_) fun H' h => ?_
  · obtain ⟨y1, y2⟩ := y
    subst y1
    obtain ⟨h1, h2⟩ := h
    obtain ⟨j, hj⟩ : ∃ j, js[i]? = some j := ⟨js[i]'(by omega), List.getElem?_eq_getElem (by omega)⟩
    obtain ⟨x', hx', pi, e, hpi, _⟩ := psOk_get ps (show (js.map fun j => TupN Free [V.str j.1, .bl j.2])[i]? = some (TupN Free [V.str j.1, .bl j.2]) by rw [List.getElem?_map, hj]; rfl)
    rw [y2] at hx'
    cases hx'
    subst e
    have hpi3 := h1 _ _ (g0.free _ _ hpi)
    refine ⟨pi, _, rfl, .inl (.inl hpi3), rfl, _, _, rfl, _, _, rfl, rfl, rfl, .bl j.2, rfl, j.2, rfl, ?_⟩
    have ft := filter_take (fun j : Str × Bool => !j.2) js i j hj
    cases hb : j.2 with
    | true =>
      refine (if_neg (by decide)).mpr ⟨h1, ?_⟩
      rw [ft, hb]
      simpa using h2
    | false =>
      refine (if_pos rfl).mpr ⟨.str j.1, rfl, _, h2, ?_, fun x o e => ?_, ?_⟩
      · have l1 := List.length_filter_le (fun j : Str × Bool => !j.2) (js.take i)
        rw [List.length_take] at l1
        refine Nat.lt_of_le_of_lt (m := 1000) ?_ (by decide)
        rw [List.length_map]
        omega
      · rw [upd_ne (nD e)]
        exact h1 x o e
      · rw [upd_same, ft, hb]
        simp
  · obtain ⟨h1, h2⟩ := h
    rw [lx, List.take_length] at h2
    exact q _ H' (gv_free h1) ⟨D, rfl, h2, ⟨List.not_mem_nil, List.not_mem_nil⟩⟩
def resV : Option Str → V
  | none => .non
  | some z => .str z
theorem firstW_head : ∀ js : List (Str × Bool), ((js.filter fun j => !j.2).map fun j => V.str j.1).head? = (firstW js).map V.str
  | [] => rfl
  | (z, b) :: js => by
    have ih := firstW_head js
    cases b with
    | true => exact ih
    | false => rfl
theorem eqv_strs2 (zs : List Str) : PyData.eqv (dStrs zs) (.list []) = zs.isEmpty := eqv_nilS zs
theorem inS_no {ws : List Str} {d : PyData} (h : isSD d = false) : inS ws d = false := by
  cases e : inS ws d with
  | false => rfl
  | true =>
    obtain ⟨z, rfl⟩ := inS_str e
    exact Bool.noConfusion h
theorem inS_V : ∀ (ws : List Str) (z : Str), inV (.str z) (ws.map V.str) = inS ws (.str z)
  | [], _ => rfl
  | w :: ws, z => by
    have ih := inS_V ws z
    show (eqV (.str w) (.str z) || inV (.str z) (ws.map V.str)) = (PyData.eqv (.str w) (.str z) || inS ws (.str z))
    rw [ih]
    congr 1
theorem in1 (w z : Str) : decide (V.str z = V.str w) = inS [w] (.str z) := by
  show _ = (PyData.eqv (.str w) (.str z) || false)
  rw [Bool.or_false]
  show _ = (w == z)
  by_cases h : w = z
  · subst h; simp
  · have h1 : (w == z) = false := by simpa using h
    rw [h1]
    exact decide_eq_false fun e => h (V.str.inj e).symm
section
variable {R : Res} {σ : L2.St} {H : Hp} {te tb : TE} {x : V} {d : PyData}
theorem ev_lname {E : XK} (ad : ArgD d) (h : EvP R te σ H (Rp K R d)) : EvP R (tCall (spLName K) [] E (tCons te tNil)) σ H (Is (.bl (nameD d))) := ev_call (ea_cons stb_rp h ea_nil) fun vs H1 g ps Q q => by
  match vs, ps with
  | [u], ⟨hu, _⟩ => exact ⟨u, d, rfl, hu.now g.1, ad, fun H' e => q _ H' (Gv.same g.1 e) rfl⟩
theorem ev_ladd {E : XK} (h : EvP R te σ H (Rp K R d)) : EvP R (tCall (spLAdd K) [] E (tCons te tNil)) σ H (Is (.bl (addD d))) := ev_call (ea_cons stb_rp h ea_nil) fun vs H1 g ps Q q => by
  match vs, ps with
  | [u], ⟨hu, _⟩ => exact ⟨u, d, rfl, hu.now g.1, fun H' e => q _ H' (Gv.same g.1 e) rfl⟩
theorem ev_rp (h : EvP R te σ H (Is x)) (hd : Rp K R d x H) : EvP R te σ H (Rp K R d) := ev_imp h fun u H' g e => by
  cases e
  exact Al.gr g hd
theorem ev_strIs {ws : List Str} (hx : ∀ z, d = .str z → x = .str z) (h : EvP R te σ H (Is x)) (hd : Rp K R d x H) (hb : ∀ z, x = .str z → EvP R tb σ H (Is (.bl (inS ws (.str z))))) : EvP R (tAndV (tCB (rIsi K) (tCons te (tCons (tC (.ty "str")) tNil))) tb) σ H (Is (.bl (inS ws d))) := by
  cases hs : isSD d with
  | false =>
    rw [inS_no hs]
    have k := kitD_str (K := K) d
    rw [hs] at k
    exact ev_val (ev_and (b := false) (ev_isD (ev_rp h hd) ev_c k) fun z => Bool.noConfusion z) rfl
  | true =>
    obtain ⟨z, rfl⟩ : ∃ z, d = .str z := by
      cases d with
      | str z => exact ⟨z, rfl⟩
      | _ => exact Bool.noConfusion hs
    cases hx z rfl
    exact ev_val (ev_and (b := inS ws (.str z)) (ev_isD (ev_rp h hd) ev_c (kitD_str _)) fun _ => hb z rfl) rfl
theorem ev_isw {w1 : Str} {E : XK} (hx : ∀ z, d = .str z → x = .str z) (ad : ArgD d) (h : EvP R te σ H (Is x)) (hd : Rp K R d x H) : EvP R (tOrV (tCall (spLName K) [] E (tCons te tNil)) (tAndV (tCB (rIsi K) (tCons te (tCons (tC (.ty "str")) tNil))) (tOp rEq te (tC (.str w1))))) σ H (Is (.bl (nameD d || inS [w1] d))) :=
  ev_or (ev_lname ad (ev_rp h hd)) fun _ => ev_strIs hx h hd fun z e => by
    subst e
    rw [← in1]
    exact ev_eq rfl h ev_c
theorem ev_isws {ws : List Str} {tw : TE} (hx : ∀ z, d = .str z → x = .str z) (ad : ArgD d) (h : EvP R te σ H (Is x)) (hd : Rp K R d x H) (hw : EvP R tw σ H (fun u H => ∃ p, u = .ref p ∧ (SqL K H p (ws.map V.str) ∨ SqT K H p (ws.map V.str)))) (hf : (ws.map V.str).all flatV = true) : EvP R (tAndV (tCB (rIsi K) (tCons te (tCons (tC (.ty "str")) tNil))) (tOp (rIn K false) te tw)) σ H (Is (.bl (inS ws d))) :=
  ev_strIs hx h hd fun z e => by
    subst e
    rw [← inS_V]
    exact ev_in (neg := false) rfl hf h hw
end
theorem map_getD {α β : Type} (d : α) (f : α → β) (l : List α) : ((List.range l.length).filter fun _ => true).map (fun i => f (l.getD i d)) = l.map f := by
  rw [filter_yes]
  apply List.ext_getElem?
  intro i
  rw [List.getElem?_map, List.getElem?_map]
  by_cases hi : i < l.length
  · rw [List.getElem?_range hi, List.getElem?_eq_getElem hi]
    show some (f (l.getD i d)) = some (f l[i])
    rw [List.getD_eq_getElem?_getD, List.getElem?_eq_getElem hi]
    rfl
  · rw [List.getElem?_eq_none (by rw [List.length_range]; omega), List.getElem?_eq_none (by omega)]
    rfl
def spWrong (K : PySem.W.Frag) : Sp := fun vs H Q _ => ∃ (p : Addr) (xs : List V) (ds : List PyData), H p = some (.lst xs) ∧ (∀ H', Same H H' → DpAll K H' xs ds) ∧ (∀ d, d ∈ ds → ArgD d) ∧
  ((∃ dk dO dt di, ds = [dk, dO, dt, di] ∧ vs = [.int 0, .ref p] ∧ ∀ H', Same H H' → Q (resV (firstW (jsStep dk dO dt di))) H') ∨ (∃ dh dO dt di, ds = [dh, dO, dt, di] ∧ vs = [.int 1, .ref p] ∧ ∀ H', Same H H' → Q (resV (firstW (jsJoin dh dO dt di))) H') ∨
    ∃ dO dl dr di dm, ds = [dO, dl, dr, di, dm] ∧ vs = [.int 2, .ref p] ∧ ∀ H', Same H H' → Q (resV (firstW (jsPart dO dl dr di dm))) H')
theorem ev_olds {p : Addr} {xs : List V} {ds : List PyData} {w1 : Str} {H : Hp} {s0 s2 s3 s4 s5 s6 s7 s8 s9 s10 : Option V} (hp : H p = some (.lst xs)) (hd : ∀ H', Same H H' → DpAll K H' xs ds) (ad : ∀ d, d ∈ ds → ArgD d) (hl : ds.length ≤ 1000) :
    EvP Free (tLc (iList K (tVar 1)) (gName 8) tYes (tOrV (tCall (spLName K) [] E0 (tCons (tVar 8) tNil)) (tAndV (tCB (rIsi K) (tCons (tVar 8) (tCons (tC (.ty "str")) tNil))) (tOp rEq (tVar 8) (tC (.str w1))))) [8]) [s0, some (.ref p), s2, s3, s4, s5, s6, s7, s8, s9, s10] H (LstN Free (ds.map fun d => V.bl (nameD d || inS [w1] d))) := by
  have lx : xs.length = ds.length := dpAll_len (hd H fun _ _ e => e)
  rw [← map_getD PyData.none (fun d => V.bl (nameD d || inS [w1] d)) ds]
  refine ev_lcV (R := Free) (n := ds.length) (Y := YAt xs) (Z := fun i x => xs[i]? = some x) (fun i => V.bl (nameD (ds.getD i .none) || inS [w1] (ds.getD i .none))) (fun _ => true) ?_ hl yAt_ok (fun x => rfl) fun D hD i x hi z => ⟨et_yes, fun _ => ?_⟩
  · have hw := ew_list (K := K) (ev_L (ev_varLN (R := Free) (σ := [s0, some (.ref p), s2, s3, s4, s5, s6, s7, s8, s9, s10]) (i := 1) rfl hp ⟨List.not_mem_nil, List.not_mem_nil⟩))
    rw [lx] at hw
    exact hw
  · obtain ⟨d, hd1, _⟩ := dpAll_get (hd H fun _ _ e => e) z
    have e : ds.getD i .none = d := by rw [List.getD_eq_getElem?_getD, hd1]; rfl
    rw [e]
    have hr : Rp K (Free.add D) d x H := fun H' g => by
      have s1 : Same H H' := fun a o q => g.2 a o q List.not_mem_nil (fun zz => by
        have ea : a = D := by simpa [Res.add, Free] using zz
        rw [ea, hD] at q
        cases q)
      obtain ⟨d2, h2, hdx⟩ := dpAll_get (hd H' s1) z
      rw [hd1] at h2
      cases h2
      exact hdx
    obtain ⟨d2, h2, hdx⟩ := dpAll_get (hd H fun _ _ e => e) z
    rw [hd1] at h2
    cases h2
    exact ev_isw (fun y e => by subst e; exact dp_str hdx) (ad d (List.mem_of_getElem? hd1)) (ev_is rfl) hr
theorem ok_wrong (T : Tx A K mg) (c_law_is_name : CalX P w K mg base CX0 1 "_law_is_name" (spLName K)) (c_law_is_add : CalX P w K mg base CX0 1 "_law_is_add" (spLAdd K)) (c_law_kinds : CalX P w K mg base CX0 1 "_law_kinds" spKinds) {f : Addr} {fd : FuncData} (F : Fun K "_law_wrong" "_law_wrong" s_law_wrong f fd) : FnOk P w K mg base CX0 2 f fd ["_law_form", "_law_some"] (spWrong K) := by
  refine F.ok sc_law_wrong (fun vs H Q E h => ?_) (fun cdv A' outer s H vs Q E hr h => ?_)
  · obtain ⟨p, xs, ds, _, _, _, h⟩ := h
    rcases h with ⟨_, _, _, _, _, rfl, _⟩ | ⟨_, _, _, _, _, rfl, _⟩ | ⟨_, _, _, _, _, _, rfl, _⟩ <;> rfl
  · obtain ⟨p, xs, ds, hp, hd, ad, h⟩ := h
    refine ⟨_, (pss_cons (ps_setLc (i := 2) (own := [("_law_one", 8)]) (g := gName 8) rfl sc_law_wrong.nd rfl rfl (sw_true rfl rfl rfl (by decide +kernel)) (pi_list (pv 1)) (blkOk_by (own := [("_law_one", 8)]) (N := ["_law_form", "_law_some", "_law_old", "_law_then", "_law_is_kind", "_law_told", "_law_is_then", "_law_bad", "_law_one", "_law_word", "_law_is_right"]) (sc := defScope s_law_wrong) (by decide +kernel)) (fun _ _ _ _ _ => pg_name (i := 8) sc_law_wrong.nd rfl (Or.inl rfl)) (fun _ _ _ _ _ => pts_nil) (fun _ _ _ _ _ => (pe_or (pe_cal c_law_is_name hr (by decide) pass0 (pa_cons (pv 8) pa_nil)) (pe_one (pe_and (pe_callB (call_isiK (K := K) rfl) (by rfl) T.z_isinstance (by decide +kernel) (pa_cons (pv 8) (pa_cons (pe_bltn (v := .ty "str") (by rfl) T.z_str (by decide +kernel) rfl) pa_nil))) (pe_one (pe_cmpR op_eq (pv 8) pe_str (nomark _))))))))
      (pss_cons (ps_setLc (i := 3) (own := [("_law_one", 8)]) (g := gName 8) rfl sc_law_wrong.nd rfl rfl (sw_true rfl rfl rfl (by decide +kernel)) (pi_list (pv 1)) (blkOk_by (own := [("_law_one", 8)]) (N := ["_law_form", "_law_some", "_law_old", "_law_then", "_law_is_kind", "_law_told", "_law_is_then", "_law_bad", "_law_one", "_law_word", "_law_is_right"]) (sc := defScope s_law_wrong) (by decide +kernel)) (fun _ _ _ _ _ => pg_name (i := 8) sc_law_wrong.nd rfl (Or.inl rfl)) (fun _ _ _ _ _ => pts_nil) (fun _ _ _ _ _ => (pe_or (pe_cal c_law_is_name hr (by decide) pass0 (pa_cons (pv 8) pa_nil)) (pe_one (pe_and (pe_callB (call_isiK (K := K) rfl) (by rfl) T.z_isinstance (by decide +kernel) (pa_cons (pv 8) (pa_cons (pe_bltn (v := .ty "str") (by rfl) T.z_str (by decide +kernel) rfl) pa_nil))) (pe_one (pe_cmpR op_eq (pv 8) pe_str (nomark _))))))))
      (pss_cons (ps_if (pt_cmpR op_eq (pv 0) pe_int (nomark _)) (pss_cons (ps_set (i := 4) sc_law_wrong.nd rfl (by first | exact .inl rfl | exact .inr rfl) (pe_and (pe_callB call_isi (by rfl) T.z_isinstance (by decide +kernel) (pa_cons (pe_ix ix_list (pv 1) pe_int (fun _ _ => rfl)) (pa_cons (pe_bltn (v := .ty "str") (by rfl) T.z_str (by decide +kernel) rfl) pa_nil))) (pe_one (pe_cmpR op_in_seq (pe_ix ix_list (pv 1) pe_int (fun _ _ => rfl)) (pe_cal0 c_law_kinds hr (by decide) pass0) (by rfl)))))
      (pss_one (ps_set (i := 5) sc_law_wrong.nd rfl (by first | exact .inl rfl | exact .inr rfl) (pe_lst (pa_cons (pe_tup (pa_cons pe_str (pa_cons (pv 4) pa_nil))) (pa_cons (pe_tup (pa_cons pe_str (pa_cons (pe_ix ix_list (pv 2) pe_int (fun _ _ => rfl)) pa_nil))) (pa_cons (pe_tup (pa_cons pe_str (pa_cons (pe_ix ix_list (pv 3) pe_int (fun _ _ => rfl)) pa_nil))) (pa_cons (pe_tup (pa_cons pe_str (pa_cons (pe_cal c_law_is_add hr (by decide) pass0 (pa_cons (pe_ix ix_list (pv 1) pe_int (fun _ _ => rfl)) pa_nil)) pa_nil))) pa_nil)))))))) (pss_one (ps_if (pt_cmpR op_eq (pv 0) pe_int (nomark _)) (pss_cons (ps_set (i := 6) sc_law_wrong.nd rfl (by first | exact .inl rfl | exact .inr rfl) (pe_or (pe_cal c_law_is_name hr (by decide) pass0 (pa_cons (pe_ix ix_list (pv 1) pe_int (fun _ _ => rfl)) pa_nil)) (pe_one (pe_and (pe_callB call_isi (by rfl) T.z_isinstance (by decide +kernel) (pa_cons (pe_ix ix_list (pv 1) pe_int (fun _ _ => rfl)) (pa_cons (pe_bltn (v := .ty "str") (by rfl) T.z_str (by decide +kernel) rfl) pa_nil))) (pe_one (pe_cmpR op_in_seq (pe_ix ix_list (pv 1) pe_int (fun _ _ => rfl)) (pe_tup (pa_cons pe_str (pa_cons pe_str pa_nil))) (by rfl)))))))
      (pss_one (ps_set (i := 5) sc_law_wrong.nd rfl (by first | exact .inl rfl | exact .inr rfl) (pe_lst (pa_cons (pe_tup (pa_cons pe_str (pa_cons (pe_ix ix_list (pv 2) pe_int (fun _ _ => rfl)) pa_nil))) (pa_cons (pe_tup (pa_cons pe_str (pa_cons (pe_ix ix_list (pv 2) pe_int (fun _ _ => rfl)) pa_nil))) (pa_cons (pe_tup (pa_cons pe_str (pa_cons (pv 6) pa_nil))) (pa_cons (pe_tup (pa_cons pe_str (pa_cons (pe_cal c_law_is_add hr (by decide) pass0 (pa_cons (pe_ix ix_list (pv 1) pe_int (fun _ _ => rfl)) pa_nil)) pa_nil))) pa_nil)))))))) (pss_cons (ps_set (i := 5) sc_law_wrong.nd rfl (by first | exact .inl rfl | exact .inr rfl) (pe_lst (pa_cons (pe_tup (pa_cons pe_str (pa_cons (pe_ix ix_list (pv 2) pe_int (fun _ _ => rfl)) pa_nil))) (pa_cons (pe_tup (pa_cons pe_str (pa_cons (pe_ix ix_list (pv 3) pe_int (fun _ _ => rfl)) pa_nil))) (pa_cons (pe_tup (pa_cons pe_str (pa_cons (pe_ix ix_list (pv 3) pe_int (fun _ _ => rfl)) pa_nil))) (pa_cons (pe_tup (pa_cons pe_str (pa_cons (pe_cal c_law_is_add hr (by decide) pass0 (pa_cons (pe_ix ix_list (pv 1) pe_int (fun _ _ => rfl)) pa_nil)) pa_nil))) pa_nil))))))
      (pss_one (ps_expr (pe_bm PySem.F.plainAttrs_list PySem.F.slot_list_append PySem.F.type_list_append mt_append (pv 5) (pa_cons (pe_tup (pa_cons pe_str (pa_cons (pe_cal c_law_is_add hr (by decide) pass0 (pa_cons (pe_ix ix_list (pv 1) pe_int (fun _ _ => rfl)) pa_nil)) pa_nil))) pa_nil))))))))
      (pss_cons (ps_setLc (i := 7) (own := [("_law_word", 9), ("_law_is_right", 10)]) (g := gTup K 2 (gCons (gName 9) (gCons (gName 10) (gNil)))) rfl sc_law_wrong.nd rfl rfl (sw_true rfl rfl rfl (by decide +kernel)) (pi_list (pv 5)) (blkOk_by (own := [("_law_word", 9), ("_law_is_right", 10)]) (N := ["_law_form", "_law_some", "_law_old", "_law_then", "_law_is_kind", "_law_told", "_law_is_then", "_law_bad", "_law_one", "_law_word", "_law_is_right"]) (sc := defScope s_law_wrong) (by decide +kernel)) (fun _ _ _ _ _ => (pg_tup (by rfl) (pgs_cons (pg_name (i := 9) sc_law_wrong.nd rfl (Or.inl rfl)) (pgs_cons (pg_name (i := 10) sc_law_wrong.nd rfl (Or.inl rfl)) pgs_nil)))) (fun _ _ _ _ _ => pts_one (pt_not (pt_val (pv 10)))) (fun _ _ _ _ _ => (pv 9)))
      (pss_one (ps_ret (pe_ifExp (pt_cmpR (op_neD hr.units) (pv 7) (pe_lst pa_nil) (nomark _)) (pe_ix ix_list (pv 7) pe_int (fun _ _ => rfl)) pe_non))))))), ?_⟩
    have fin : ∀ {js : List (Str × Bool)} {ys : List V} {p5 : Addr} {Hc : Hp} {s0 s1 s2 s3 s4 s6 : Option V} {D : Ends}, js.length ≤ 1000 → (js.map fun j => j.1).all PyData.strOk = true → Same H Hc → Hc p5 = some (.lst ys) → PsOk (js.map fun j => TupN Free [V.str j.1, .bl j.2]) ys Hc → (∀ H', Same H H' → D.rt (resV (firstW js)) H') →
        tSeq (tAsg (tLc (iList K (tVar 5)) (gTup K 2 (gCons (gName 9) (gCons (gName 10) gNil))) (tNot (tB (tVar 10))) (tVar 9) [9, 10]) (gName 7)) (tRet (tIf (tTest (tOp (rNeD K) (tVar 7) (tLst tNil))) (tOp (rIxL K) (tVar 7) (tC (.int 0))) (tC .non))) D [s0, s1, s2, s3, s4, some (.ref p5), s6, none, none, none, none] Hc := fun {js ys p5 Hc s0 s1 s2 s3 s4 s6 D} hl hok sm h5 ps q => by
      refine s_set (R := Free) (H := Hc) (ev_bad h5 ps hl) (Gr.refl free_j) fun u H1 g1 gv1 ⟨pb, e, hb, hbd⟩ => ?_
      subst e
      dsimp only
      have fw := firstW_head js
      have mm : ((js.filter fun j => !j.2).map fun j => V.str j.1) = ((js.filter fun j => !j.2).map fun j => j.1).map V.str := by rw [List.map_map]; rfl
      rw [mm] at hb fw
      have zok : ∀ z, z ∈ ((js.filter fun j => !j.2).map fun j => j.1) → PyData.strOk z = true := fun z hz => by
        obtain ⟨j, hj, rfl⟩ := List.mem_map.mp hz
        exact List.all_eq_true.mp hok j.1 (List.mem_map_of_mem (List.mem_filter.mp hj).1)
      generalize ((js.filter fun j => !j.2).map fun j => j.1) = zs at hb fw zok
      have vb : EvP Free (tVar 7) [s0, s1, s2, s3, s4, some (.ref p5), s6, some (.ref pb), none, none, none] H1 (LstN Free (zs.map V.str)) := ev_varLN (R := Free) rfl hb hbd
      have tst : EvT Free (tTest (tOp (rNeD K) (tVar 7) (tLst tNil))) [s0, s1, s2, s3, s4, some (.ref p5), s6, some (.ref pb), none, none, none] H1 (!zs.isEmpty) := by
        rw [← eqv_nilS]
        exact et_test (ev_neD (shaped_strs zs zok) (by decide +kernel) (ev_strsD vb) (ev_lstD (ds := []) ea_nil (by decide)))
      refine s_ret (R := Free) (H := H1) (P := Is (resV (firstW js))) (ev_if tst (fun hz => ?_) fun hz => ?_) (Gr.refl free_j) fun u H2 g2 _ e => e ▸ q H2 fun a o z => (g1.tr g2).free _ _ (sm a o z)
      · cases zs with
        | nil => exact Bool.noConfusion hz
        | cons z zs =>
          have e : firstW js = some z := by
            cases hf : firstW js with
            | none => rw [hf] at fw; exact nomatch fw
            | some y =>
              rw [hf] at fw
              have := Option.some.inj fw
              rw [V.str.inj this]
          rw [e]
          exact ev_ixL (ev_L vb) ev_c (atI_nat (xs := (z :: zs).map V.str) (j := 0) rfl)
      · cases zs with
        | cons z zs => exact Bool.noConfusion hz
        | nil =>
          have e : firstW js = none := by
            cases hf : firstW js with
            | none => rfl
            | some y => rw [hf] at fw; exact nomatch fw
          rw [e]
          exact ev_c
    rcases h with ⟨dk, dO, dt, di, rfl, rfl, q⟩ | ⟨dh, dO, dt, di, rfl, rfl, q⟩ | ⟨dO, dl, dr, di, dm, rfl, rfl, q⟩
    · obtain ⟨x0, x1, x2, x3, rfl⟩ : ∃ x0 x1 x2 x3, xs = [x0, x1, x2, x3] := by
        have z := hd H fun _ _ e => e
        have l := dpAll_len z
        match xs, l with
        | [y0, y1, y2, y3], _ => exact ⟨y0, y1, y2, y3, rfl⟩
      have h0 : ∀ H', Same H H' → Dp K H' x0 dk := fun H' e => by
        obtain ⟨d2, h2, h3⟩ := dpAll_get (i := 0) (hd H' e) rfl
        cases h2
        exact h3
      have a0 : ArgD dk := ad _ (by simp)
      have h1 : ∀ H', Same H H' → Dp K H' x1 dO := fun H' e => by
        obtain ⟨d2, h2, h3⟩ := dpAll_get (i := 1) (hd H' e) rfl
        cases h2
        exact h3
      have a1 : ArgD dO := ad _ (by simp)
      have h2 : ∀ H', Same H H' → Dp K H' x2 dt := fun H' e => by
        obtain ⟨d2, h2, h3⟩ := dpAll_get (i := 2) (hd H' e) rfl
        cases h2
        exact h3
      have a2 : ArgD dt := ad _ (by simp)
      have h3 : ∀ H', Same H H' → Dp K H' x3 di := fun H' e => by
        obtain ⟨d2, h2, h3⟩ := dpAll_get (i := 3) (hd H' e) rfl
        cases h2
        exact h3
      have a3 : ArgD di := ad _ (by simp)
      have rp : ∀ {v d Hc}, (∀ H', Same H H' → Dp K H' v d) → Same H Hc → Rp K Free d v Hc := fun h s H' g => h H' fun a o q => g.free _ _ (s a o q)
      have dl : 4 ≤ 1000 := by decide
      refine s_set (R := Free) (H := H) (ev_olds (w1 := "any") hp hd ad dl) (Gr.refl free_j) fun u H1 g1 _ ⟨po, e, ho, _⟩ => ?_
      subst e
      dsimp only
      have hp1 := g1.free _ _ hp
      have hd1 : ∀ H', Same H1 H' → DpAll K H' [x0, x1, x2, x3] [dk, dO, dt, di] := fun H' s => hd H' fun a o q => s a o (g1.free _ _ q)
      refine s_set (R := Free) (H := H1) (σ := [some (.int 0), some (.ref p), some (.ref po), none, none, none, none, none, none, none, none]) (ev_olds (w1 := "same") hp1 hd1 ad dl) (Gr.refl free_j) fun u H2 g2 _ ⟨pt, e, ht, _⟩ => ?_
      subst e
      dsimp only
      have s2 : Same H H2 := (g1.tr g2).free
      have ho2 := g2.free _ _ ho
      have hp2 := g2.free _ _ hp1
      show tSeq _ _ _ [some (.int 0), some (.ref p), some (.ref po), some (.ref pt), none, none, none, none, none, none, none] H2
      have nf : ∀ {x : Addr}, x ∉ Free.D ∧ x ∉ Free.h := fun {x} => ⟨List.not_mem_nil, List.not_mem_nil⟩
      have it : ∀ {σ : L2.St} {Hc : Hp} {v : V} (j : Nat), σ[1]? = some (some (.ref p)) → Gr Free H2 Hc → [x0, x1, x2, x3][j]? = some v → EvP Free (tOp (rIxL K) (tVar 1) (tC (.int (j : Int)))) σ Hc (Is v) := fun {σ Hc v} j hv g hx => ev_item (K := K) hv (g.2 p _ hp2 nf.1 nf.2) nf hx ev_c stb_is rfl
      have io : ∀ {σ : L2.St} {Hc : Hp} {v : V} (j : Nat), σ[2]? = some (some (.ref po)) → Gr Free H2 Hc → ([dk, dO, dt, di].map fun d => V.bl (nameD d || inS ["any"] d))[j]? = some v → EvP Free (tOp (rIxL K) (tVar 2) (tC (.int (j : Int)))) σ Hc (Is v) := fun {σ Hc v} j hv g hx => ev_item (K := K) hv (g.2 po _ ho2 nf.1 nf.2) nf hx ev_c stb_is rfl
      have ih : ∀ {σ : L2.St} {Hc : Hp} {v : V} (j : Nat), σ[3]? = some (some (.ref pt)) → Gr Free H2 Hc → ([dk, dO, dt, di].map fun d => V.bl (nameD d || inS ["same"] d))[j]? = some v → EvP Free (tOp (rIxL K) (tVar 3) (tC (.int (j : Int)))) σ Hc (Is v) := fun {σ Hc v} j hv g hx => ev_item (K := K) hv (g.2 pt _ ht nf.1 nf.2) nf hx ev_c stb_is rfl
      have jt : ∀ {σ : L2.St} {Hc : Hp} {te : TE} {z : Str} {b : Bool}, EvP Free te σ Hc (Is (.bl b)) → EvP Free (tTup (tCons (tC (.str z)) (tCons te tNil))) σ Hc (TupN Free [V.str z, .bl b]) := fun {σ Hc te z b} h => ev_tupN (vs := [V.str z, .bl b]) (ea_is ev_c (ea_is h ea_nil)) (by show 2 ≤ 1000; decide)
      have sj : ∀ {js : List (Str × Bool)}, ∀ P, P ∈ js.map (fun j => TupN Free [V.str j.1, .bl j.2]) → Stb Free P := fun {js} P hP => by
        obtain ⟨j, _, rfl⟩ := List.mem_map.mp hP
        exact stb_tupN
      refine s_if (R := Free) (H := H2) (b := true) (et_is (et_test (ev_eq rfl (ev_is rfl) ev_c)) rfl) (Gr.refl free_j) (fun _ H3 g3 gv3 => ?_) (fun hb => Bool.noConfusion hb)
      refine s_set (R := Free) (H := H3) (P := Is (.bl (inS kindsS dk))) (ev_isws (ws := kindsS) (fun z e => by subst e; exact dp_str (h0 H fun _ _ e => e)) a0 (it 0 rfl g3 rfl) (rp h0 fun a o q => g3.free _ _ (s2 a o q)) (ev_imp ev_kinds fun u H' g ⟨p', e, h, _⟩ => ⟨p', e, .inl (.inl (.inl h))⟩) rfl) (Gr.refl free_j) fun u H4 g4 _ e => ?_
      cases e
      dsimp only
      have g24 := g3.tr g4
      have s4 : Same H H4 := fun a o q => g24.free _ _ (s2 a o q)
      refine s_set (R := Free) (H := H4) (σ := [some (.int 0), some (.ref p), some (.ref po), some (.ref pt), some (.bl (inS kindsS dk)), none, none, none, none, none, none]) (P := LsOk Free ((jsStep dk dO dt di).map fun j => TupN Free [V.str j.1, .bl j.2])) (ev_lstE sj (ea_cons stb_tupN (jt (ev_is rfl)) (ea_cons stb_tupN (jt (io 1 rfl g24 rfl)) (ea_cons stb_tupN (jt (ih 2 rfl g24 rfl)) (ea_cons stb_tupN (jt (ev_ladd (ev_rp (it 3 rfl g24 rfl) (rp h3 s4)))) ea_nil)))) (by show 4 ≤ 1000; decide)) (Gr.refl free_j) fun u H5 g5 _ ⟨p5, ys, e, h5, _, ps⟩ => ?_
      subst e
      exact fin (js := jsStep dk dO dt di) (by show 4 ≤ 1000; decide) (show (["kind", "old", "then", "add"] : List Str).all PyData.strOk = true by decide +kernel) (fun a o q => g5.free _ _ (s4 a o q)) h5 ps q
    · obtain ⟨x0, x1, x2, x3, rfl⟩ : ∃ x0 x1 x2 x3, xs = [x0, x1, x2, x3] := by
        have z := hd H fun _ _ e => e
        have l := dpAll_len z
        match xs, l with
        | [y0, y1, y2, y3], _ => exact ⟨y0, y1, y2, y3, rfl⟩
      have h0 : ∀ H', Same H H' → Dp K H' x0 dh := fun H' e => by
        obtain ⟨d2, h2, h3⟩ := dpAll_get (i := 0) (hd H' e) rfl
        cases h2
        exact h3
      have a0 : ArgD dh := ad _ (by simp)
      have h1 : ∀ H', Same H H' → Dp K H' x1 dO := fun H' e => by
        obtain ⟨d2, h2, h3⟩ := dpAll_get (i := 1) (hd H' e) rfl
        cases h2
        exact h3
      have a1 : ArgD dO := ad _ (by simp)
      have h2 : ∀ H', Same H H' → Dp K H' x2 dt := fun H' e => by
        obtain ⟨d2, h2, h3⟩ := dpAll_get (i := 2) (hd H' e) rfl
        cases h2
        exact h3
      have a2 : ArgD dt := ad _ (by simp)
      have h3 : ∀ H', Same H H' → Dp K H' x3 di := fun H' e => by
        obtain ⟨d2, h2, h3⟩ := dpAll_get (i := 3) (hd H' e) rfl
        cases h2
        exact h3
      have a3 : ArgD di := ad _ (by simp)
      have rp : ∀ {v d Hc}, (∀ H', Same H H' → Dp K H' v d) → Same H Hc → Rp K Free d v Hc := fun h s H' g => h H' fun a o q => g.free _ _ (s a o q)
      have dl : 4 ≤ 1000 := by decide
      refine s_set (R := Free) (H := H) (ev_olds (w1 := "any") hp hd ad dl) (Gr.refl free_j) fun u H1 g1 _ ⟨po, e, ho, _⟩ => ?_
      subst e
      dsimp only
      have hp1 := g1.free _ _ hp
      have hd1 : ∀ H', Same H1 H' → DpAll K H' [x0, x1, x2, x3] [dh, dO, dt, di] := fun H' s => hd H' fun a o q => s a o (g1.free _ _ q)
      refine s_set (R := Free) (H := H1) (σ := [some (.int 1), some (.ref p), some (.ref po), none, none, none, none, none, none, none, none]) (ev_olds (w1 := "same") hp1 hd1 ad dl) (Gr.refl free_j) fun u H2 g2 _ ⟨pt, e, ht, _⟩ => ?_
      subst e
      dsimp only
      have s2 : Same H H2 := (g1.tr g2).free
      have ho2 := g2.free _ _ ho
      have hp2 := g2.free _ _ hp1
      show tSeq _ _ _ [some (.int 1), some (.ref p), some (.ref po), some (.ref pt), none, none, none, none, none, none, none] H2
      have nf : ∀ {x : Addr}, x ∉ Free.D ∧ x ∉ Free.h := fun {x} => ⟨List.not_mem_nil, List.not_mem_nil⟩
      have it : ∀ {σ : L2.St} {Hc : Hp} {v : V} (j : Nat), σ[1]? = some (some (.ref p)) → Gr Free H2 Hc → [x0, x1, x2, x3][j]? = some v → EvP Free (tOp (rIxL K) (tVar 1) (tC (.int (j : Int)))) σ Hc (Is v) := fun {σ Hc v} j hv g hx => ev_item (K := K) hv (g.2 p _ hp2 nf.1 nf.2) nf hx ev_c stb_is rfl
      have io : ∀ {σ : L2.St} {Hc : Hp} {v : V} (j : Nat), σ[2]? = some (some (.ref po)) → Gr Free H2 Hc → ([dh, dO, dt, di].map fun d => V.bl (nameD d || inS ["any"] d))[j]? = some v → EvP Free (tOp (rIxL K) (tVar 2) (tC (.int (j : Int)))) σ Hc (Is v) := fun {σ Hc v} j hv g hx => ev_item (K := K) hv (g.2 po _ ho2 nf.1 nf.2) nf hx ev_c stb_is rfl
      have ih : ∀ {σ : L2.St} {Hc : Hp} {v : V} (j : Nat), σ[3]? = some (some (.ref pt)) → Gr Free H2 Hc → ([dh, dO, dt, di].map fun d => V.bl (nameD d || inS ["same"] d))[j]? = some v → EvP Free (tOp (rIxL K) (tVar 3) (tC (.int (j : Int)))) σ Hc (Is v) := fun {σ Hc v} j hv g hx => ev_item (K := K) hv (g.2 pt _ ht nf.1 nf.2) nf hx ev_c stb_is rfl
      have jt : ∀ {σ : L2.St} {Hc : Hp} {te : TE} {z : Str} {b : Bool}, EvP Free te σ Hc (Is (.bl b)) → EvP Free (tTup (tCons (tC (.str z)) (tCons te tNil))) σ Hc (TupN Free [V.str z, .bl b]) := fun {σ Hc te z b} h => ev_tupN (vs := [V.str z, .bl b]) (ea_is ev_c (ea_is h ea_nil)) (by show 2 ≤ 1000; decide)
      have sj : ∀ {js : List (Str × Bool)}, ∀ P, P ∈ js.map (fun j => TupN Free [V.str j.1, .bl j.2]) → Stb Free P := fun {js} P hP => by
        obtain ⟨j, _, rfl⟩ := List.mem_map.mp hP
        exact stb_tupN
      refine s_if (R := Free) (H := H2) (b := false) (et_is (et_test (ev_eq rfl (ev_is rfl) ev_c)) rfl) (Gr.refl free_j) (fun hb => Bool.noConfusion hb) (fun _ H3 g3 gv3 => ?_)
      refine s_if (R := Free) (H := H3) (b := true) (et_is (et_test (ev_eq rfl (ev_is rfl) ev_c)) rfl) (Gr.refl free_j) (fun _ H4 g4 gv4 => ?_) (fun hb => Bool.noConfusion hb)
      have g24 := g3.tr g4
      have s4 : Same H H4 := fun a o q => g24.free _ _ (s2 a o q)
      refine s_set (R := Free) (H := H4) (P := Is (.bl (nameD dt || inS ["one", "other"] dt))) (ev_or (ev_lname a2 (ev_rp (it 2 rfl g24 rfl) (rp h2 s4))) fun _ => ev_isws (ws := ["one", "other"]) (fun z e => by subst e; exact dp_str (h2 H fun _ _ e => e)) a2 (it 2 rfl g24 rfl) (rp h2 s4) (ev_imp (ev_tupV (vs := [V.str "one", V.str "other"]) (ea_is ev_c (ea_is ev_c ea_nil)) (by show 2 ≤ 1000; decide)) fun u H' g ⟨p', e, h, _⟩ => ⟨p', e, .inr (.inl (.inl h))⟩) rfl) (Gr.refl free_j) fun u H5 g5 _ e => ?_
      cases e
      dsimp only
      have g25 := g24.tr g5
      have s5 : Same H H5 := fun a o q => g25.free _ _ (s2 a o q)
      refine s_set (R := Free) (H := H5) (σ := [some (.int 1), some (.ref p), some (.ref po), some (.ref pt), none, none, some (.bl (nameD dt || inS ["one", "other"] dt)), none, none, none, none]) (P := LsOk Free ((jsJoin dh dO dt di).map fun j => TupN Free [V.str j.1, .bl j.2])) (ev_lstE sj (ea_cons stb_tupN (jt (io 0 rfl g25 rfl)) (ea_cons stb_tupN (jt (io 1 rfl g25 rfl)) (ea_cons stb_tupN (jt (ev_is rfl)) (ea_cons stb_tupN (jt (ev_ladd (ev_rp (it 3 rfl g25 rfl) (rp h3 s5)))) ea_nil)))) (by show 4 ≤ 1000; decide)) (Gr.refl free_j) fun u H6 g6 _ ⟨p5, ys, e, h6, _, ps⟩ => ?_
      subst e
      exact fin (js := jsJoin dh dO dt di) (by show 4 ≤ 1000; decide) (show (["here", "there", "then", "add"] : List Str).all PyData.strOk = true by decide +kernel) (fun a o q => g6.free _ _ (s5 a o q)) h6 ps q
    · obtain ⟨x0, x1, x2, x3, x4, rfl⟩ : ∃ x0 x1 x2 x3 x4, xs = [x0, x1, x2, x3, x4] := by
        have z := hd H fun _ _ e => e
        have l := dpAll_len z
        match xs, l with
        | [y0, y1, y2, y3, y4], _ => exact ⟨y0, y1, y2, y3, y4, rfl⟩
      have h0 : ∀ H', Same H H' → Dp K H' x0 dO := fun H' e => by
        obtain ⟨d2, h2, h3⟩ := dpAll_get (i := 0) (hd H' e) rfl
        cases h2
        exact h3
      have a0 : ArgD dO := ad _ (by simp)
      have h1 : ∀ H', Same H H' → Dp K H' x1 dl := fun H' e => by
        obtain ⟨d2, h2, h3⟩ := dpAll_get (i := 1) (hd H' e) rfl
        cases h2
        exact h3
      have a1 : ArgD dl := ad _ (by simp)
      have h2 : ∀ H', Same H H' → Dp K H' x2 dr := fun H' e => by
        obtain ⟨d2, h2, h3⟩ := dpAll_get (i := 2) (hd H' e) rfl
        cases h2
        exact h3
      have a2 : ArgD dr := ad _ (by simp)
      have h3 : ∀ H', Same H H' → Dp K H' x3 di := fun H' e => by
        obtain ⟨d2, h2, h3⟩ := dpAll_get (i := 3) (hd H' e) rfl
        cases h2
        exact h3
      have a3 : ArgD di := ad _ (by simp)
      have h4 : ∀ H', Same H H' → Dp K H' x4 dm := fun H' e => by
        obtain ⟨d2, h2, h3⟩ := dpAll_get (i := 4) (hd H' e) rfl
        cases h2
        exact h3
      have a4 : ArgD dm := ad _ (by simp)
      have rp : ∀ {v d Hc}, (∀ H', Same H H' → Dp K H' v d) → Same H Hc → Rp K Free d v Hc := fun h s H' g => h H' fun a o q => g.free _ _ (s a o q)
      have dl5 : 5 ≤ 1000 := by decide
      refine s_set (R := Free) (H := H) (ev_olds (w1 := "any") hp hd ad dl5) (Gr.refl free_j) fun u H1 g1 _ ⟨po, e, ho, _⟩ => ?_
      subst e
      dsimp only
      have hp1 := g1.free _ _ hp
      have hd1 : ∀ H', Same H1 H' → DpAll K H' [x0, x1, x2, x3, x4] [dO, dl, dr, di, dm] := fun H' s => hd H' fun a o q => s a o (g1.free _ _ q)
      refine s_set (R := Free) (H := H1) (σ := [some (.int 2), some (.ref p), some (.ref po), none, none, none, none, none, none, none, none]) (ev_olds (w1 := "same") hp1 hd1 ad dl5) (Gr.refl free_j) fun u H2 g2 _ ⟨pt, e, ht, _⟩ => ?_
      subst e
      dsimp only
      have s2 : Same H H2 := (g1.tr g2).free
      have ho2 := g2.free _ _ ho
      have hp2 := g2.free _ _ hp1
      show tSeq _ _ _ [some (.int 2), some (.ref p), some (.ref po), some (.ref pt), none, none, none, none, none, none, none] H2
      have nf : ∀ {x : Addr}, x ∉ Free.D ∧ x ∉ Free.h := fun {x} => ⟨List.not_mem_nil, List.not_mem_nil⟩
      have it : ∀ {σ : L2.St} {Hc : Hp} {v : V} (j : Nat), σ[1]? = some (some (.ref p)) → Gr Free H2 Hc → [x0, x1, x2, x3, x4][j]? = some v → EvP Free (tOp (rIxL K) (tVar 1) (tC (.int (j : Int)))) σ Hc (Is v) := fun {σ Hc v} j hv g hx => ev_item (K := K) hv (g.2 p _ hp2 nf.1 nf.2) nf hx ev_c stb_is rfl
      have io : ∀ {σ : L2.St} {Hc : Hp} {v : V} (j : Nat), σ[2]? = some (some (.ref po)) → Gr Free H2 Hc → ([dO, dl, dr, di, dm].map fun d => V.bl (nameD d || inS ["any"] d))[j]? = some v → EvP Free (tOp (rIxL K) (tVar 2) (tC (.int (j : Int)))) σ Hc (Is v) := fun {σ Hc v} j hv g hx => ev_item (K := K) hv (g.2 po _ ho2 nf.1 nf.2) nf hx ev_c stb_is rfl
      have ih : ∀ {σ : L2.St} {Hc : Hp} {v : V} (j : Nat), σ[3]? = some (some (.ref pt)) → Gr Free H2 Hc → ([dO, dl, dr, di, dm].map fun d => V.bl (nameD d || inS ["same"] d))[j]? = some v → EvP Free (tOp (rIxL K) (tVar 3) (tC (.int (j : Int)))) σ Hc (Is v) := fun {σ Hc v} j hv g hx => ev_item (K := K) hv (g.2 pt _ ht nf.1 nf.2) nf hx ev_c stb_is rfl
      have jt : ∀ {σ : L2.St} {Hc : Hp} {te : TE} {z : Str} {b : Bool}, EvP Free te σ Hc (Is (.bl b)) → EvP Free (tTup (tCons (tC (.str z)) (tCons te tNil))) σ Hc (TupN Free [V.str z, .bl b]) := fun {σ Hc te z b} h => ev_tupN (vs := [V.str z, .bl b]) (ea_is ev_c (ea_is h ea_nil)) (by show 2 ≤ 1000; decide)
      have sj : ∀ {js : List (Str × Bool)}, ∀ P, P ∈ js.map (fun j => TupN Free [V.str j.1, .bl j.2]) → Stb Free P := fun {js} P hP => by
        obtain ⟨j, _, rfl⟩ := List.mem_map.mp hP
        exact stb_tupN
      refine s_if (R := Free) (H := H2) (b := false) (et_is (et_test (ev_eq rfl (ev_is rfl) ev_c)) rfl) (Gr.refl free_j) (fun hb => Bool.noConfusion hb) (fun _ H3 g3 gv3 => ?_)
      refine s_if (R := Free) (H := H3) (b := false) (et_is (et_test (ev_eq rfl (ev_is rfl) ev_c)) rfl) (Gr.refl free_j) (fun hb => Bool.noConfusion hb) (fun _ H4 g4 gv4 => ?_)
      have g24 := g3.tr g4
      have s4 : Same H H4 := fun a o q => g24.free _ _ (s2 a o q)
      refine s_set (R := Free) (H := H4) (P := fun u H' => ∃ p xs, u = .ref p ∧ H' p = some (.lst xs) ∧ PsOk (([("old", nameD dO || inS ["any"] dO), ("left", nameD dl || inS ["same"] dl), ("right", nameD dr || inS ["same"] dr), ("add", addD di)] : List (Str × Bool)).map fun j => TupN Free [V.str j.1, .bl j.2]) xs H' ∧ H4 p = none) (ev_lstW sj (ea_cons stb_tupN (jt (io 0 rfl g24 rfl)) (ea_cons stb_tupN (jt (ih 1 rfl g24 rfl)) (ea_cons stb_tupN (jt (ih 2 rfl g24 rfl)) (ea_cons stb_tupN (jt (ev_ladd (ev_rp (it 3 rfl g24 rfl) (rp h3 s4)))) ea_nil)))) (by show 4 ≤ 1000; decide)) (Gr.refl free_j) fun u H5 g5 _ ⟨p5, ys, e, h5, ps, new5⟩ => ?_
      subst e
      dsimp only
      have g25 := g24.tr g5
      have s5 : Same H H5 := fun a o q => g25.free _ _ (s2 a o q)
      refine ⟨.ref p5, rfl, .inl ⟨rfl, _, .inl (.inl h5)⟩, ?_⟩
      refine (ea_cons (R := Free) (H := H5) stb_tupN (jt (z := "more") (ev_ladd (ev_rp (it 4 rfl g25 rfl) (rp h4 s5)))) ea_nil) H5 (Gr.refl free_j) _ fun us H6 g6 pu => ?_
      match us, pu with
      | [u6], ⟨hu6, _⟩ =>
        have h6 := g6.1.free _ _ h5
        have l6 : ys.length = 4 := psOk_len ps
        refine ⟨p5, ys, u6, rfl, rfl, h6, small1000 (by omega), ?_⟩
        have ps6 := psOk_stb sj g6.1 ps
        have ps7 : PsOk ((jsPart dO dl dr di dm).map fun j => TupN Free [V.str j.1, .bl j.2]) (ys ++ [u6]) H6 := psOk_snoc ps6 hu6
        dsimp only
        exact fin (js := jsPart dO dl dr di dm) (by show 5 ≤ 1000; decide) (show (["old", "left", "right", "add", "more"] : List Str).all PyData.strOk = true by decide +kernel) (fun a o z => by
          have na : a ≠ p5 := ne_of_none (s4 a o z) new5
          rw [upd_ne na]
          exact g6.1.free _ _ (s5 a o z)) upd_same (psOk_tup_upd h6 ps7) q
end
section
variable {P : Program} {w : World} {A : Ads} {K : PySem.W.Frag} {mg : Str → Option Value} {base : Heap}
/-! ### what is heard -/
theorem mk_of {C f : Addr} (c : OwnC K C) (m : PySem.W.findIn K (.ref C) "__init__" = some (some (.ref f))) (i : PySem.W.isFn K (.ref f) = true) : Mk K C f := ⟨c.ma, m, i, c.kp⟩
abbrev aSome (K : PySem.W.Frag) (i : Int) : TE := tOp (rIxL K) (tVar 1) (tC (.int i))
abbrev args4 (K : PySem.W.Frag) : TA := tCons (aSome K 0) (tCons (aSome K 1) (tCons (aSome K 2) (tCons (aSome K 3) tNil)))
abbrev args5 (K : PySem.W.Frag) : TA := tCons (aSome K 0) (tCons (aSome K 1) (tCons (aSome K 2) (tCons (aSome K 3) (tCons (aSome K 4) tNil))))
abbrev tbH (A : Ads) (K : PySem.W.Frag) (W : WX) : TS := tIfS (tTest (tOp rEq (tVar 0) (tC (.int 0)))) (tDrop (tMakeS A.Step (spStep3 A K) (WE W) (args4 K)))
  (tIfS (tTest (tOp rEq (tVar 0) (tC (.int 1)))) (tDrop (tMakeS A.Join (spJoin3 A K) (WE W) (args4 K))) (tDrop (tMakeS A.Part (spPart3 A K) (WE W) (args5 K))))
abbrev tsH (A : Ads) (K : PySem.W.Frag) (a : Addr) (cls : Value) (d : Option Addr) : TS := tAsg (tIf (tAnd (tB (tCB (rIsH K a cls d) (tCons (tVar 3) (tCons (tC (.ref A.PollError)) tNil)))) (tNot (tB (tCB (rIsHT K a cls d) (tCons (tVar 3) (tCons (tTup (tCons (tC (.ref A.InvalidBook)) (tCons (tC (.ref A.InvalidText)) tNil))) tNil))))))
  (tXf a cls d A.InvalidRow "word" (tVar 3)) (tC (.str "other"))) (gName 2)
theorem excIR (T : Tx A K mg) : ExcC K A.InvalidRow := T.x_InvalidRow.ec
theorem xfIR (T : Tx A K mg) : XfC K A.InvalidRow := ⟨T.x_InvalidRow.ec.hg, T.x_InvalidRow.ec.hk, T.x_InvalidRow.ec.hs, T.x_InvalidRow.ec.hd⟩
theorem ok_heard (T : Tx A K mg) {fdS fdJ fdP : FuncData} (FS : FnOk P w K mg base (L2.CX P w) 4 A.f_Step_init fdS ["self", "kind", "old", "then", "add"] (spStep3 A K)) (bS : Binds K fdS ["self", "kind", "old", "then", "add"] [])
    (FJ : FnOk P w K mg base (L2.CX P w) 4 A.f_Join_init fdJ ["self", "here", "there", "then", "add"] (spJoin3 A K)) (bJ : Binds K fdJ ["self", "here", "there", "then", "add"] [])
    (FP : FnOk P w K mg base (L2.CX P w) 4 A.f_Part_init fdP ["self", "old", "left", "right", "add", "more"] (spPart3 A K)) (bP : Binds K fdP ["self", "old", "left", "right", "add", "more"] [])
    {f : Addr} {fd : FuncData} (F : Fun K "_law_heard" "_law_heard" s_law_heard f fd) : FnOk P w K mg base CX0 6 f fd ["_law_form", "_law_some"] (spWrong K) := by
  refine F.ok sc_law_heard (fun vs H Q E h => ?_) (fun cdv A' outer s H vs Q E hr h => ?_)
  · obtain ⟨p, xs, ds, _, _, _, h⟩ := h
    rcases h with ⟨_, _, _, _, _, rfl, _⟩ | ⟨_, _, _, _, _, rfl, _⟩ | ⟨_, _, _, _, _, _, rfl, _⟩ <;> rfl
  · obtain ⟨p, xs, ds, hp, hd, ad, h⟩ := h
    refine ⟨_, pss_cons (ps_set (i := 2) sc_law_heard.nd rfl (.inl rfl) pe_non) (pss_cons (ps_try_as (i := 3) (tb := tbH A K) (ts := tsH A K) (Wout := fun _ _ _ _ => False) rfl rfl sc_law_heard.nd rfl rfl ⟨rfl, by decide, .inl T.g_InvalidRow⟩ takes0
      (fun W pn xe tk _ => (pss_one (ps_if (by exact (pt_cmpR op_eq (pv 0) pe_int (nomark _)))
        (pss_one (ps_expr (by exact (pe_makeS (mk_of T.o_Step T.m_Step_init T.i_f_Step_init) FS hr T.g_Step bS (fun σ => passAt tk σ) (by exact (pa_cons (pe_ix ix_list (pv 1) pe_int (fun _ _ => rfl)) (pa_cons (pe_ix ix_list (pv 1) pe_int (fun _ _ => rfl)) (pa_cons (pe_ix ix_list (pv 1) pe_int (fun _ _ => rfl)) (pa_cons (pe_ix ix_list (pv 1) pe_int (fun _ _ => rfl)) pa_nil)))))))))
        (pss_one (ps_if (by exact (pt_cmpR op_eq (pv 0) pe_int (nomark _)))
          (pss_one (ps_expr (by exact (pe_makeS (mk_of T.o_Join T.m_Join_init T.i_f_Join_init) FJ hr T.g_Join bJ (fun σ => passAt tk σ) (by exact (pa_cons (pe_ix ix_list (pv 1) pe_int (fun _ _ => rfl)) (pa_cons (pe_ix ix_list (pv 1) pe_int (fun _ _ => rfl)) (pa_cons (pe_ix ix_list (pv 1) pe_int (fun _ _ => rfl)) (pa_cons (pe_ix ix_list (pv 1) pe_int (fun _ _ => rfl)) pa_nil)))))))))
          (pss_one (ps_expr (by exact (pe_makeS (mk_of T.o_Part T.m_Part_init T.i_f_Part_init) FP hr T.g_Part bP (fun σ => passAt tk σ) (by exact (pa_cons (pe_ix ix_list (pv 1) pe_int (fun _ _ => rfl)) (pa_cons (pe_ix ix_list (pv 1) pe_int (fun _ _ => rfl)) (pa_cons (pe_ix ix_list (pv 1) pe_int (fun _ _ => rfl)) (pa_cons (pe_ix ix_list (pv 1) pe_int (fun _ _ => rfl)) (pa_cons (pe_ix ix_list (pv 1) pe_int (fun _ _ => rfl)) pa_nil)))))))))))))))
      (fun a oe cls d pn hz hf => pss_one (ps_set (i := 2) sc_law_heard.nd rfl (.inl rfl) (by exact (pe_ifExp (PW.pt (pw_and (pt_val (pe_callB (call_isH hz hf) (by rfl) T.z_isinstance (by decide +kernel) (pa_cons (pv 3) (pa_cons (pe_glob (v := .ref A.PollError) rfl T.g_PollError rfl) pa_nil)))) (pw_and1 (pt_not (pt_val (pe_callB (call_isHT hz hf) (by rfl) T.z_isinstance (by decide +kernel) (pa_cons (pv 3) (pa_cons (pe_tup (pa_cons (pe_glob (v := .ref A.InvalidBook) rfl T.g_InvalidBook rfl) (pa_cons (pe_glob (v := .ref A.InvalidText) rfl T.g_InvalidText rfl) pa_nil))) pa_nil))))))))
        (pe_xf (xfIR T) T.na_InvalidRow_word hz hf (pv 3)) pe_str)))))
      (pss_one (ps_ret (pv 2)))), ?_⟩
    -- behind an InvalidRow
    have caught : ∀ {js : List (Str × Bool)} {z : Str} {n : Int} {H1 : Hp} {D : Ends}, (∀ H', Same H H' → D.rt (resV (firstW js)) H') → firstW js = some z → Same H H1 →
        OutW A H1 z (WE (wAs K (.ref A.InvalidRow) 3 (tsH A K) (fun _ _ _ _ => False) { D with nx := fun σ' H' => tRet (tVar 2) D σ' H' }) [some (.int n), some (.ref p), some .non, none]) := fun {js z n H1 D} q hz sm d H2 s2 hd2 hx => by
      refine ⟨true, exm_own T.x_InvalidRow.ec.hs T.k_InvalidRow, fun _ a ha => ?_, fun q => Bool.noConfusion q⟩
      have e3 : EvP Free (tVar 3) [some (.int n), some (.ref p), some .non, some (.ref a)] H2 (Is (.ref a)) := ev_is rfl
      refine s_set (R := Free) (H := H2) (P := Is (.str z)) ?_ (Gr.refl free_j) fun u H3 g3 _ e => ?_
      · refine ev_if (b := true) (et_is (et_and (et_B (ev_isH e3 ev_c (.own _) hx (excIR T) (T.k_PollError.kit T.eP))) fun _ => et_not (et_B (ev_isHT e3 (ev_tupN (vs := [V.ref A.InvalidBook, V.ref A.InvalidText]) (ea_is ev_c (ea_is ev_c ea_nil)) (by show 2 ≤ 1000; decide)) (.cons (.own _) (.cons (.own _) .nil)) hx (excIR T)
          (kitAny_cons (T.k_InvalidBook.kit T.eB) (fun _ => kitAny_cons (r := false) (T.k_InvalidText.kit T.eT) (fun _ => kitAny_nil) fun h => Bool.noConfusion h) fun h => Bool.noConfusion h)))) rfl) (fun _ => ev_xf e3 hx rfl) fun h => Bool.noConfusion h
      · cases e
        have := q H3 fun x o e => g3.free _ _ (s2 x o (sm x o e))
        rw [hz] at this
        exact ⟨.str z, rfl, this⟩
    -- without
    have right : ∀ {js : List (Str × Bool)} {D : Ends} {n : Int} {H1 H' : Hp} {x : Addr}, (∀ H', Same H H' → D.rt (resV (firstW js)) H') → firstW js = none → Same H H1 → H1 x = none → (∀ y o, y ≠ x → H1 y = some o → H' y = some o) → tRet (tVar 2) D [some (.int n), some (.ref p), some .non, none] H' := fun {js D n H1 H' x} q hn sm hx s => by
      have := q H' fun y o e => s y o (ne_of_none (sm y o e) hx) (sm y o e)
      rw [hn] at this
      exact ⟨.non, rfl, this⟩
    have upd2 : ∀ {H1 : Hp} {x dx : Addr} {o1 o2 : HO} {v : V} {d : PyData}, H1 x = none → H1 dx = none → Dp K H1 v d → Dp K (upd (upd H1 dx o1) x o2) v d := fun {H1 x dx o1 o2 v d} hx hdx h => dp_same (fun y o e => by rw [upd_ne (ne_of_none e hx), upd_ne (ne_of_none e hdx)]; exact e) _ _ h
    have eI : ∀ {n : Int} {j : Nat} {x : V}, xs[j]? = some x → EvP Free (aSome K (j : Int)) [some (.int n), some (.ref p), some .non, none] H (Is x) := fun {n j x} hx => ev_ixL (ev_L (ev_varLN (R := Free) rfl hp ⟨List.not_mem_nil, List.not_mem_nil⟩)) ev_c (atI_nat hx)
    have e0 : ∀ {n k : Int}, EvT Free (tTest (tOp rEq (tVar 0) (tC (.int k)))) [some (.int n), some (.ref p), some .non, none] H (decide (n = k)) := fun {n k} => et_is (et_test (ev_eq rfl (ev_is rfl) ev_c)) (by
      by_cases h : n = k
      · rw [h]; simp
      · rw [decide_eq_false h, decide_eq_false fun e => h (V.int.inj e)])
    have moved : ∀ {H1 H2 : Hp} {x dx : Addr} {o1 o2 : HO}, H1 x = none → H1 dx = none → (∀ y o, y ≠ x → (upd (upd H1 dx o1) x o2) y = some o → H2 y = some o) → ∀ y o, y ≠ x → H1 y = some o → H2 y = some o := fun {H1 H2 x dx o1 o2} hx hdx s y o hy e => s y o hy (by rw [upd_ne hy, upd_ne (ne_of_none e hdx)]; exact e)
    have sameN : ∀ {H1 : Hp} {x dx : Addr} {o1 o2 : HO}, H1 x = none → H1 dx = none → Same H1 (upd (upd H1 dx o1) x o2) := fun {H1 x dx o1 o2} hx hdx y o e => by rw [upd_ne (ne_of_none e hx), upd_ne (ne_of_none e hdx)]; exact e
    let D0 : Ends := { nx := fun _ H' => Q .non H', rt := Q }
    rcases h with ⟨dk, dO, dt, di, rfl, rfl, q⟩ | ⟨dh, dO, dt, di, rfl, rfl, q⟩ | ⟨dO, dl, dr, di, dm, rfl, rfl, q⟩
    · obtain ⟨x0, x1, x2, x3, rfl⟩ : ∃ x0 x1 x2 x3, xs = [x0, x1, x2, x3] := by
        have l := dpAll_len (hd H fun _ _ e => e)
        match xs, l with
        | [y0, y1, y2, y3], _ => exact ⟨y0, y1, y2, y3, rfl⟩
      show tbH A K (wAs K (.ref A.InvalidRow) 3 (tsH A K) (fun _ _ _ _ => False) { D0 with nx := fun σ' H' => tRet (tVar 2) D0 σ' H' }) { D0 with nx := fun σ' H' => tRet (tVar 2) D0 σ' H' } [some (.int 0), some (.ref p), some .non, none] H
      refine s_if (R := Free) (H := H) e0 (Gr.refl free_j) (fun _ H0 g0 gv0 => ?_) fun h => Bool.noConfusion h
      refine s_dropM (R := Free) (H := H) (ea_is (eI (j := 0) rfl) (ea_is (eI (j := 1) rfl) (ea_is (eI (j := 2) rfl) (ea_is (eI (j := 3) rfl) ea_nil)))) g0 fun vs H1 g01 g1 ps x dx hx hdx ne => ?_
      match vs, ps with
      | [_, _, _, _], ⟨rfl, rfl, rfl, rfl, _⟩ =>
      have sm : Same H H1 := g0.free.trans g1.1.free
      obtain ⟨_, h0, h1⟩ := dpAll_get (i := 0) (hd H1 sm) rfl
      cases h0
      obtain ⟨_, h0, h2⟩ := dpAll_get (i := 1) (hd H1 sm) rfl
      cases h0
      obtain ⟨_, h0, h3⟩ := dpAll_get (i := 2) (hd H1 sm) rfl
      cases h0
      obtain ⟨_, h0, h4⟩ := dpAll_get (i := 3) (hd H1 sm) rfl
      cases h0
      exact ⟨x, dx, x0, x1, x2, x3, dk, dO, dt, di, rfl, upd_same, upd2 hx hdx h1, upd2 hx hdx h2, upd2 hx hdx h3, upd2 hx hdx h4, ad _ (by simp), ad _ (by simp), ad _ (by simp), ad _ (by simp),
        fun hn H2 s => ⟨rfl, right q hn sm hx (moved hx hdx s)⟩, fun z hz => caught q hz (sm.trans (sameN hx hdx))⟩
    · obtain ⟨x0, x1, x2, x3, rfl⟩ : ∃ x0 x1 x2 x3, xs = [x0, x1, x2, x3] := by
        have l := dpAll_len (hd H fun _ _ e => e)
        match xs, l with
        | [y0, y1, y2, y3], _ => exact ⟨y0, y1, y2, y3, rfl⟩
      show tbH A K (wAs K (.ref A.InvalidRow) 3 (tsH A K) (fun _ _ _ _ => False) { D0 with nx := fun σ' H' => tRet (tVar 2) D0 σ' H' }) { D0 with nx := fun σ' H' => tRet (tVar 2) D0 σ' H' } [some (.int 1), some (.ref p), some .non, none] H
      refine s_if (R := Free) (H := H) e0 (Gr.refl free_j) (fun h => Bool.noConfusion h) fun _ HA gA gvA => ?_
      refine s_if (R := Free) (H := H) e0 gA (fun _ H0 g0 gv0 => ?_) fun h => Bool.noConfusion h
      refine s_dropM (R := Free) (H := H) (ea_is (eI (j := 0) rfl) (ea_is (eI (j := 1) rfl) (ea_is (eI (j := 2) rfl) (ea_is (eI (j := 3) rfl) ea_nil)))) g0 fun vs H1 g01 g1 ps x dx hx hdx ne => ?_
      match vs, ps with
      | [_, _, _, _], ⟨rfl, rfl, rfl, rfl, _⟩ =>
      have sm : Same H H1 := g0.free.trans g1.1.free
      obtain ⟨_, h0, h1⟩ := dpAll_get (i := 0) (hd H1 sm) rfl
      cases h0
      obtain ⟨_, h0, h2⟩ := dpAll_get (i := 1) (hd H1 sm) rfl
      cases h0
      obtain ⟨_, h0, h3⟩ := dpAll_get (i := 2) (hd H1 sm) rfl
      cases h0
      obtain ⟨_, h0, h4⟩ := dpAll_get (i := 3) (hd H1 sm) rfl
      cases h0
      exact ⟨x, dx, x0, x1, x2, x3, dh, dO, dt, di, rfl, upd_same, upd2 hx hdx h1, upd2 hx hdx h2, upd2 hx hdx h3, upd2 hx hdx h4, ad _ (by simp), ad _ (by simp), ad _ (by simp), ad _ (by simp),
        fun hn H2 s => ⟨rfl, right q hn sm hx (moved hx hdx s)⟩, fun z hz => caught q hz (sm.trans (sameN hx hdx))⟩
    · obtain ⟨x0, x1, x2, x3, x4, rfl⟩ : ∃ x0 x1 x2 x3 x4, xs = [x0, x1, x2, x3, x4] := by
        have l := dpAll_len (hd H fun _ _ e => e)
        match xs, l with
        | [y0, y1, y2, y3, y4], _ => exact ⟨y0, y1, y2, y3, y4, rfl⟩
      show tbH A K (wAs K (.ref A.InvalidRow) 3 (tsH A K) (fun _ _ _ _ => False) { D0 with nx := fun σ' H' => tRet (tVar 2) D0 σ' H' }) { D0 with nx := fun σ' H' => tRet (tVar 2) D0 σ' H' } [some (.int 2), some (.ref p), some .non, none] H
      refine s_if (R := Free) (H := H) e0 (Gr.refl free_j) (fun h => Bool.noConfusion h) fun _ HA gA gvA => ?_
      refine s_if (R := Free) (H := H) e0 gA (fun h => Bool.noConfusion h) fun _ H0 g0 gv0 => ?_
      refine s_dropM (R := Free) (H := H) (ea_is (eI (j := 0) rfl) (ea_is (eI (j := 1) rfl) (ea_is (eI (j := 2) rfl) (ea_is (eI (j := 3) rfl) (ea_is (eI (j := 4) rfl) ea_nil))))) g0 fun vs H1 g01 g1 ps x dx hx hdx ne => ?_
      match vs, ps with
      | [_, _, _, _, _], ⟨rfl, rfl, rfl, rfl, rfl, _⟩ =>
      have sm : Same H H1 := g0.free.trans g1.1.free
      obtain ⟨_, h0, h1⟩ := dpAll_get (i := 0) (hd H1 sm) rfl
      cases h0
      obtain ⟨_, h0, h2⟩ := dpAll_get (i := 1) (hd H1 sm) rfl
      cases h0
      obtain ⟨_, h0, h3⟩ := dpAll_get (i := 2) (hd H1 sm) rfl
      cases h0
      obtain ⟨_, h0, h4⟩ := dpAll_get (i := 3) (hd H1 sm) rfl
      cases h0
      obtain ⟨_, h0, h5⟩ := dpAll_get (i := 4) (hd H1 sm) rfl
      cases h0
      exact ⟨x, dx, x0, x1, x2, x3, x4, dO, dl, dr, di, dm, rfl, upd_same, upd2 hx hdx h1, upd2 hx hdx h2, upd2 hx hdx h3, upd2 hx hdx h4, upd2 hx hdx h5, ad _ (by simp), ad _ (by simp), ad _ (by simp), ad _ (by simp), ad _ (by simp),
        fun hn H2 s => ⟨rfl, right q hn sm hx (moved hx hdx s)⟩, fun z hz => caught q hz (sm.trans (sameN hx hdx))⟩
end
/-! ### what is drawn is good -/
def chk (p : Str → Bool) : V → Bool
  | .str z => p z && decide (z.length ≤ 9) && !z.cps.toList.contains 32
  | _ => false
theorem chk_of {xs : List V} {p : Str → Bool} (h : xs.all (chk p) = true) {z : Str} (hz : V.str z ∈ xs) : p z = true ∧ z.length ≤ 9 ∧ z.cps.toList.contains 32 = false := by
  have e := List.all_eq_true.mp h _ hz
  obtain ⟨e1, e2⟩ := Bool.and_eq_true_iff.mp (show (p z && decide (z.length ≤ 9) && !z.cps.toList.contains 32) = true from e)
  obtain ⟨e3, e4⟩ := Bool.and_eq_true_iff.mp e1
  exact ⟨e3, of_decide_eq_true e4, by simpa using e2⟩
theorem chkA : namesA.all (chk fun z => nameOr z [.str "any"]) = true := by decide +kernel
theorem chkS : namesS.all (chk fun z => nameOr z [.str "same"]) = true := by decide +kernel
theorem chkO : namesO.all (chk fun z => nameOr z [.str "one", .str "other"]) = true := by decide +kernel
theorem kinds_ok {k : Str} (h : V.str k ∈ kindsV) : inV (.str k) kindsV = true ∧ k.length ≤ 9 := by
  have e := List.all_eq_true.mp (show kindsV.all (fun v => match v with | .str z => inV (.str z) kindsV && decide (z.length ≤ 9) | _ => false) = true by decide +kernel) _ h
  obtain ⟨e1, e2⟩ := Bool.and_eq_true_iff.mp (show (inV (.str k) kindsV && decide (k.length ≤ 9)) = true from e)
  exact ⟨e1, of_decide_eq_true e2⟩
theorem drawn_good {r : RowD} (h : r.drawn) : r.good := by
  cases r with
  | step k o t a =>
    obtain ⟨d1, d2, d3, d4⟩ := h
    obtain ⟨k1, k2⟩ := kinds_ok d1
    obtain ⟨o1, o2, _⟩ := chk_of chkA d2
    obtain ⟨t1, t2, _⟩ := chk_of chkS d3
    refine ⟨?_, by omega, by omega, by omega⟩
    show (inV (.str k) kindsV && nameOr o [.str "any"] && nameOr t [.str "same"] && addOk a) = true
    rw [k1, o1, t1, d4]
    rfl
  | join k o t a =>
    obtain ⟨d1, d2, d3, d4⟩ := h
    obtain ⟨k1, k2, _⟩ := chk_of chkA d1
    obtain ⟨o1, o2, _⟩ := chk_of chkA d2
    obtain ⟨t1, t2, _⟩ := chk_of chkO d3
    refine ⟨?_, by omega, by omega, by omega⟩
    show (nameOr k [.str "any"] && nameOr o [.str "any"] && nameOr t [.str "one", .str "other"] && addOk a) = true
    rw [k1, o1, t1, d4]
    rfl
  | part k o t a m =>
    obtain ⟨d1, d2, d3, d4, d5⟩ := h
    obtain ⟨k1, k2, _⟩ := chk_of chkA d1
    obtain ⟨o1, o2, _⟩ := chk_of chkS d2
    obtain ⟨t1, t2, _⟩ := chk_of chkS d3
    refine ⟨?_, by omega, by omega, by omega⟩
    show (nameOr k [.str "any"] && nameOr o [.str "same"] && nameOr t [.str "same"] && addOk a && addOk m) = true
    rw [k1, o1, t1, d4, d5]
    rfl
section
variable {P : Program} {w : World} {A : Ads} {K : PySem.W.Frag} {mg : Str → Option Value} {base : Heap}
def RowD.form : RowD → Str
  | .step .. => "step"
  | .join .. => "join"
  | .part .. => "part"
theorem tup_form (r : RowD) : atI r.tup 0 = some (.str r.form) := by cases r <;> rfl
def forms3 : List V := [.str "step", .str "join", .str "part"]
def RowD.no : RowD → Nat
  | .step .. => 0
  | .join .. => 1
  | .part .. => 2
theorem ev_form {R : Res} {σ : L2.St} {H : Hp} {ta tb : TE} (r : RowD) (ha : EvP R ta σ H (LstN R forms3)) (hb : EvP R tb σ H (Is (.str r.form))) : EvP R (tBM K "list" (rIndex K) ta (tCons tb tNil)) σ H (Is (.int (r.no : Int))) := by
  cases r with
  | step => exact ev_index (j := 0) (z := .str "step") rfl (by decide +kernel) rfl (show eqV (.str "step") (.str "step") = true by decide +kernel) (fun m z' hm _ => absurd hm (Nat.not_lt_zero m)) ha hb
  | join => exact ev_index (j := 1) (z := .str "join") rfl (by decide +kernel) rfl (show eqV (.str "join") (.str "join") = true by decide +kernel) (fun m z' hm e => by
      match m, hm with
      | 0, _ => cases e; exact (by decide +kernel : eqV (.str "step") (.str "join") = false)) ha hb
  | part => exact ev_index (j := 2) (z := .str "part") rfl (by decide +kernel) rfl (show eqV (.str "part") (.str "part") = true by decide +kernel) (fun m z' hm e => by
      match m, hm with
      | 0, _ => cases e; exact (by decide +kernel : eqV (.str "step") (.str "part") = false)
      | 1, _ => cases e; exact (by decide +kernel : eqV (.str "join") (.str "part") = false)) ha hb
/-- the arguments as data -/
def RowD.args : RowD → List PyData
  | .step k o t a => [.str k, .str o, .str t, .int a]
  | .join h o t a => [.str h, .str o, .str t, .int a]
  | .part o l r a m => [.str o, .str l, .str r, .int a, .int m]
/-- what is asked of the arguments of a row of this sort -/
def Judged (n : Nat) (ds : List PyData) (js : List (Str × Bool)) : Prop :=
  (∃ dk dO dt di, ds = [dk, dO, dt, di] ∧ n = 0 ∧ js = jsStep dk dO dt di) ∨ (∃ dh dO dt di, ds = [dh, dO, dt, di] ∧ n = 1 ∧ js = jsJoin dh dO dt di) ∨ ∃ dO dl dr di dm, ds = [dO, dl, dr, di, dm] ∧ n = 2 ∧ js = jsPart dO dl dr di dm
def RowD.len : RowD → Nat
  | .part .. => 5
  | _ => 4
theorem judged_ex (r : RowD) {ds : List PyData} (h : ds.length = r.len) : ∃ js, Judged r.no ds js := by
  cases r with
  | step => match ds, h with | [a, b, c, d], _ => exact ⟨_, .inl ⟨a, b, c, d, rfl, rfl, rfl⟩⟩
  | join => match ds, h with | [a, b, c, d], _ => exact ⟨_, .inr (.inl ⟨a, b, c, d, rfl, rfl, rfl⟩)⟩
  | part => match ds, h with | [a, b, c, d, e], _ => exact ⟨_, .inr (.inr ⟨a, b, c, d, e, rfl, rfl, rfl⟩)⟩
theorem okS_of {xs : List V} (h : xs.all (fun v => match v with | .str z => PyData.strOk z && decide (z.length ≤ 9) | _ => true) = true) {z : Str} (hz : V.str z ∈ xs) : ArgD (.str z) := by
  have e := List.all_eq_true.mp h _ hz
  obtain ⟨e1, e2⟩ := Bool.and_eq_true_iff.mp (show (PyData.strOk z && decide (z.length ≤ 9)) = true from e)
  have e3 := of_decide_eq_true e2
  refine ⟨?_, fun y q => by cases q; omega⟩
  show (PyData.strOk z && decide (0 ≤ 64)) = true
  rw [e1]
  rfl
theorem argInt (i : Int) : ArgD (.int i) := ⟨rfl, fun z e => nomatch e⟩
theorem nameOr_D {z : Str} {ws : List Str} (h : nameOr z (ws.map V.str) = true) : (nameD (.str z) || inS ws (.str z)) = true := by
  rw [← inS_V]
  exact h
theorem drawn_args {r : RowD} (h : r.drawn) : (∀ d, d ∈ r.args → ArgD d) ∧ ∃ js, Judged r.no r.args js ∧ firstW js = none := by
  have kA : ∀ {z}, V.str z ∈ namesA → ArgD (.str z) := fun hz => okS_of (xs := namesA) (by decide +kernel) hz
  have kS : ∀ {z}, V.str z ∈ namesS → ArgD (.str z) := fun hz => okS_of (xs := namesS) (by decide +kernel) hz
  have kO : ∀ {z}, V.str z ∈ namesO → ArgD (.str z) := fun hz => okS_of (xs := namesO) (by decide +kernel) hz
  have kK : ∀ {z}, V.str z ∈ kindsV → ArgD (.str z) := fun hz => okS_of (xs := kindsV) (by decide +kernel) hz
  have fw : ∀ {z b js}, b = true → firstW js = none → firstW ((z, b) :: js) = none := fun {z b js} hb h => by
    show (if b then firstW js else some z) = none
    rw [hb]
    exact h
  cases r with
  | step k o t a =>
    obtain ⟨d1, d2, d3, d4⟩ := h
    refine ⟨fun d hd => ?_, _, .inl ⟨_, _, _, _, rfl, rfl, rfl⟩, ?_⟩
    · simp only [RowD.args, List.mem_cons, List.not_mem_nil, or_false] at hd
      rcases hd with rfl | rfl | rfl | rfl
      · exact kK d1
      · exact kA d2
      · exact kS d3
      · exact argInt a
    · refine fw ?_ (fw (nameOr_D (ws := ["any"]) (chk_of chkA d2).1) (fw (nameOr_D (ws := ["same"]) (chk_of chkS d3).1) (fw d4 rfl)))
      rw [← inS_V kindsS k]
      exact (kinds_ok d1).1
  | join k o t a =>
    obtain ⟨d1, d2, d3, d4⟩ := h
    refine ⟨fun d hd => ?_, _, .inr (.inl ⟨_, _, _, _, rfl, rfl, rfl⟩), ?_⟩
    · simp only [RowD.args, List.mem_cons, List.not_mem_nil, or_false] at hd
      rcases hd with rfl | rfl | rfl | rfl
      · exact kA d1
      · exact kA d2
      · exact kO d3
      · exact argInt a
    · exact fw (nameOr_D (ws := ["any"]) (chk_of chkA d1).1) (fw (nameOr_D (ws := ["any"]) (chk_of chkA d2).1) (fw (nameOr_D (ws := ["one", "other"]) (chk_of chkO d3).1) (fw d4 rfl)))
  | part k o t a m =>
    obtain ⟨d1, d2, d3, d4, d5⟩ := h
    refine ⟨fun d hd => ?_, _, .inr (.inr ⟨_, _, _, _, _, rfl, rfl, rfl⟩), ?_⟩
    · simp only [RowD.args, List.mem_cons, List.not_mem_nil, or_false] at hd
      rcases hd with rfl | rfl | rfl | rfl | rfl
      · exact kA d1
      · exact kS d2
      · exact kS d3
      · exact argInt a
      · exact argInt m
    · exact fw (nameOr_D (ws := ["any"]) (chk_of chkA d1).1) (fw (nameOr_D (ws := ["same"]) (chk_of chkS d2).1) (fw (nameOr_D (ws := ["same"]) (chk_of chkS d3).1) (fw d4 (fw d5 rfl))))
theorem args_len (r : RowD) : r.args.length = r.len := by cases r <;> rfl
/-- the values of the arguments -/
def RowD.vals (r : RowD) : List V := cutV r.tup (some 1) none
theorem vals_len (r : RowD) : r.vals.length = r.len := by cases r <;> rfl
theorem vals_ok {R : Res} {H : Hp} (r : RowD) : PsOk (r.args.map (Rp K R)) r.vals H := by
  cases r with
  | step k o t a => exact ⟨rp_flat (v := .str k) rfl, rp_flat (v := .str o) rfl, rp_flat (v := .str t) rfl, rp_flat (v := .int a) rfl, True.intro⟩
  | join k o t a => exact ⟨rp_flat (v := .str k) rfl, rp_flat (v := .str o) rfl, rp_flat (v := .str t) rfl, rp_flat (v := .int a) rfl, True.intro⟩
  | part k o t a m => exact ⟨rp_flat (v := .str k) rfl, rp_flat (v := .str o) rfl, rp_flat (v := .str t) rfl, rp_flat (v := .int a) rfl, rp_flat (v := .int m) rfl, True.intro⟩
theorem told_sp {R : Res} {H1 : Hp} {n : Nat} {ds : List PyData} {xs : List V} {js : List (Str × Bool)} {p : Addr} {E : XK} {Q : VK} (J : Judged n ds js) (ad : ∀ d, d ∈ ds → ArgD d) (hp : H1 p = some (.lst xs)) (j : R.J H1) (ps : ∀ H2, Gr R H1 H2 → DpAll K H2 xs ds) (q : ∀ v H', Gv R H1 H' → Is (resV (firstW js)) v H' → Q v H') : spWrong K [.int (n : Int), .ref p] H1 Q E := by
  refine ⟨p, xs, ds, hp, fun H' s => ps H' (Gv.same j s).1, ad, ?_⟩
  rcases J with ⟨a, b, c, d, rfl, rfl, rfl⟩ | ⟨a, b, c, d, rfl, rfl, rfl⟩ | ⟨a, b, c, d, e, rfl, rfl, rfl⟩
  · exact .inl ⟨a, b, c, d, rfl, rfl, fun H' s => q _ H' (Gv.same j s) rfl⟩
  · exact .inr (.inl ⟨a, b, c, d, rfl, rfl, fun H' s => q _ H' (Gv.same j s) rfl⟩)
  · exact .inr (.inr ⟨a, b, c, d, e, rfl, rfl, fun H' s => q _ H' (Gv.same j s) rfl⟩)
theorem ev_told {R : Res} {σ : L2.St} {H : Hp} {ta tb : TE} {n : Nat} {ds : List PyData} {xs : List V} {js : List (Str × Bool)} {p : Addr} {E : XK} (J : Judged n ds js) (ad : ∀ d, d ∈ ds → ArgD d) (hp : H p = some (.lst xs)) (hd : p ∉ R.D ∧ p ∉ R.h) (ps : PsOk (ds.map (Rp K R)) xs H)
    (h1 : EvP R ta σ H (Is (.int (n : Int)))) (h2 : EvP R tb σ H (Is (.ref p))) : EvP R (tCall (spWrong K) [] E (tCons ta (tCons tb tNil))) σ H (Is (resV (firstW js))) :=
  ev_call (ea_is h1 (ea_is h2 ea_nil)) fun vs H1 g us Q q => by
    cases psOk2 us
    exact told_sp J ad (g.2 p _ hp hd.1 hd.2) g.1 (fun H2 g2 => dpAll_of ps H2 (g.tr g2)) q
theorem resV_D {R : Res} {H : Hp} (o : Option Str) : Rp K R (toD (resV o)) (resV o) H := by cases o <;> exact rp_flat rfl
theorem firstW_mem : ∀ {js : List (Str × Bool)} {z : Str}, firstW js = some z → z ∈ js.map (·.1)
  | (y, b) :: js, z, h => by
    cases b with
    | true => exact List.mem_cons_of_mem _ (firstW_mem (js := js) h)
    | false => cases h; exact List.mem_cons_self
theorem judged_words {n : Nat} {ds : List PyData} {js : List (Str × Bool)} (J : Judged n ds js) {z : Str} (h : z ∈ js.map (·.1)) : z ∈ (["kind", "old", "then", "add", "here", "there", "left", "right", "more"] : List Str) := by
  rcases J with ⟨a, b, c, d, _, _, rfl⟩ | ⟨a, b, c, d, _, _, rfl⟩ | ⟨a, b, c, d, e, _, _, rfl⟩
  · have h : z ∈ (["kind", "old", "then", "add"] : List Str) := h
    simp only [List.mem_cons, List.not_mem_nil, or_false] at h ⊢
    rcases h with rfl | rfl | rfl | rfl <;> simp
  · have h : z ∈ (["here", "there", "then", "add"] : List Str) := h
    simp only [List.mem_cons, List.not_mem_nil, or_false] at h ⊢
    rcases h with rfl | rfl | rfl | rfl <;> simp
  · have h : z ∈ (["old", "left", "right", "add", "more"] : List Str) := h
    simp only [List.mem_cons, List.not_mem_nil, or_false] at h ⊢
    rcases h with rfl | rfl | rfl | rfl | rfl <;> simp
theorem judged_ok {n : Nat} {ds : List PyData} {js : List (Str × Bool)} (J : Judged n ds js) : OkD (toD (resV (firstW js))) := by
  cases h : firstW js with
  | none => exact okD_non
  | some z => exact okD_word (judged_words J (firstW_mem h))
theorem ev_names {a b : Addr} {σ : L2.St} {H : Hp} {ta tb : TE} {E : XK} (h1 : EvP (DealR a b) ta σ H (Is (.ref a))) (h2 : EvP (DealR a b) tb σ H (Is (.int 3))) :
    EvP (DealR a b) (tCall spNames [] E (tCons ta (tCons tb tNil))) σ H (fun u H => ∃ ms : List Str, ms.length = 3 ∧ (∀ m, m ∈ ms → m ∈ names13) ∧ LstN (DealR a b) (ms.map V.str) u H) :=
  ev_dc isDeal_R (ea_is h1 (ea_is h2 ea_nil)) fun vs H1 g ps d Q q => by
    cases psOk2 ps
    exact ⟨a, b, rfl, d, fun x ys H' e i n1 n2 hx d' r => q _ H' d' r ⟨ys, e, i, x, rfl, hx, off_deal n1 n2⟩⟩
theorem deal_offI {R : Res} {a b p : Addr} (I : IsDeal R a b) (hd : p ∉ R.D ∧ p ∉ R.h) : p ≠ a ∧ p ≠ b := by
  have := hd.1
  rw [I.d] at this
  simp at this
  exact this
theorem ev_anyE {R : Res} {a b : Addr} (I : IsDeal R a b) {σ : L2.St} {H : Hp} {ta tb : TE} {E : XK} (h1 : EvP R ta σ H (Is (.ref a))) (h2 : EvP R tb σ H (fun u H => ∃ ms : List Str, ms.length = 3 ∧ (∀ m, m ∈ ms → m ∈ names13) ∧ LstN R (ms.map V.str) u H)) :
    EvP R (tCall spAny [] E (tCons ta (tCons tb tNil))) σ H (fun u H => ∃ r : RowD, r.drawn ∧ TupN R r.tup u H) :=
  ev_dc I (ea_is h1 (ea_cons (P := fun u H => ∃ ms : List Str, ms.length = 3 ∧ (∀ m, m ∈ ms → m ∈ names13) ∧ LstN R (ms.map V.str) u H) (fun v H H' g ⟨ms, l, i, h⟩ => ⟨ms, l, i, stb_lstN v H H' g h⟩) h2 ea_nil)) fun vs H1 g ps d Q q => by
    obtain ⟨u, rfl, ms, ml, mi, p, rfl, hp, hd⟩ := psOk_2 ps
    obtain ⟨n1, n2⟩ := deal_offI I hd
    exact ⟨a, b, p, ms, rfl, d, hp, n1, n2, ml, mi, fun t r H' dr hn ht d' re => q _ H' d' re ⟨r, dr, t, rfl, ht, off g.1 hn⟩⟩
def spLaw (K : PySem.W.Frag) : Sp := fun vs H Q _ => ∃ (l : Addr) (is : List Int), vs = [.ref l] ∧ SqL K H l (is.map V.int) ∧ ∀ H', Q (.bl true) H'
theorem last_good : firstW (jsStep (.str "late yes") (.str "any") (.str "same") (.int 3)) = none ∧ firstW (jsJoin (.str "any") (.str "any") (.str "other") (.int (-3))) = none := by decide +kernel
theorem ok_law (T : Tx A K mg) (c_law_deal : CalX P w K mg base CX0 1 "_law_deal" (spDeal K)) (c_law_names : CalX P w K mg base CX0 3 "_law_names" spNames) (c_law_any_row : CalX P w K mg base CX0 3 "_law_any_row" spAny) (c_law_mixed : CalX P w K mg base CX0 2 "_law_mixed" spMixI)
    (c_law_draw : CalX P w K mg base CX0 1 "_law_draw" spDraw) (c_law_strange : CalX P w K mg base CX0 6 "_law_strange" (spStr3 K)) (c_law_wrong : CalX P w K mg base CX0 2 "_law_wrong" (spWrong K)) (c_law_heard : CalX P w K mg base CX0 6 "_law_heard" (spWrong K))
    {f : Addr} {fd : FuncData} (F : Fun K "law" "law" s_law f fd) : FnG P w K mg base CX0 8 f fd ["_law_script"] (spLaw K) := by
  refine fun_okG F sc_law (fun vs H Q E h => ?_) (fun cdv A' outer s H vs Q E hG hr h => ?_)
  · obtain ⟨l, is, rfl, _⟩ := h; rfl
  · obtain ⟨l, is, rfl, hl, q⟩ := h
    refine ⟨_, (pss_cons (ps_set (i := 1) sc_law.nd rfl (by first | exact .inl rfl | exact .inr rfl) (pe_cal c_law_deal hr (by decide) pass0 (pa_cons (pv 0) (pa_cons pe_int pa_nil))))
      (pss_cons (ps_for PassesOwn.leaving rfl (pi_range1 (by rfl) T.z_range (pa_cons pe_int pa_nil)) (pg_name (i := 2) sc_law.nd rfl (by first | exact .inl rfl | exact .inr rfl)) (pss_cons (ps_set (i := 3) sc_law.nd rfl (by first | exact .inl rfl | exact .inr rfl) (pe_cal c_law_any_row hr (by decide) pass0 (pa_cons (pv 1) (pa_cons (pe_cal c_law_names hr (by decide) pass0 (pa_cons (pv 1) (pa_cons pe_int pa_nil))) pa_nil))))
      (pss_cons (ps_set (i := 4) sc_law.nd rfl (by first | exact .inl rfl | exact .inr rfl) (pe_bm PySem.F.plainAttrs_list PySem.F.slot_list_index PySem.F.type_list_index mt_index (pe_lst (pa_cons pe_str (pa_cons pe_str (pa_cons pe_str pa_nil)))) (pa_cons (pe_ix ix_tup (pv 3) pe_int (fun _ _ => rfl)) pa_nil)))
      (pss_cons (ps_set (i := 5) sc_law.nd rfl (by first | exact .inl rfl | exact .inr rfl) (pe_callTy call_list_of (by rfl) T.z_list (by decide +kernel) (pa_cons (pe_slice sl_tupA (pv 3) (po_some pe_int) po_none) pa_nil)))
      (pss_cons (ps_if (pt_cmpR op_notN (pe_cal c_law_heard hr (by decide) pass0 (pa_cons (pv 4) (pa_cons (pv 5) pa_nil))) pe_non (nomark _)) (pss_one (ps_ret pe_bl)) pss_nil)
      (pss_cons (ps_for PassesOwn.leaving rfl (pi_list (pe_slice sl_list (pe_cal c_law_mixed hr (by decide) pass0 (pa_cons (pv 1) (pa_cons (pe_callTy (call_list_rng rfl) (by rfl) T.z_list (by decide +kernel) (pa_cons (pe_callTy cr_range1 (by rfl) T.z_range (by decide +kernel) (pa_cons (pe_callB call_len_seq (by rfl) T.z_len (by decide +kernel) (pa_cons (pv 5) pa_nil)) pa_nil)) pa_nil)) pa_nil))) po_none (po_some (pe_cal c_law_draw hr (by decide) pass0 (pa_cons (pv 1) (pa_cons pe_int pa_nil)))))) (pg_name (i := 6) sc_law.nd rfl (by first | exact .inl rfl | exact .inr rfl)) (pss_one (ps_asg (pe_cal c_law_strange hr (by decide) pass0 (pa_cons (pv 1) pa_nil)) (pg_sub (pv 5) (pv 6) set_list))))
      (pss_one (ps_if (pt_cmpR op_ne (pe_callB (call_repr_data hG hr) (by rfl) T.z_repr (by decide +kernel) (pa_cons (pe_cal c_law_heard hr (by decide) pass0 (pa_cons (pv 4) (pa_cons (pv 5) pa_nil))) pa_nil)) (pe_callB (call_repr_data hG hr) (by rfl) T.z_repr (by decide +kernel) (pa_cons (pe_cal c_law_wrong hr (by decide) pass0 (pa_cons (pv 4) (pa_cons (pv 5) pa_nil))) pa_nil)) (nomark _)) (pss_one (ps_ret pe_bl)) pss_nil))))))))
      (pss_one (ps_ret (pe_and (pe_cmpR op_isN (pe_cal c_law_heard hr (by decide) pass0 (pa_cons pe_int (pa_cons (pe_lst (pa_cons pe_str (pa_cons pe_str (pa_cons pe_str (pa_cons pe_int pa_nil))))) pa_nil))) pe_non (nomark _)) (pe_one (pe_cmpR op_isN (pe_cal c_law_heard hr (by decide) pass0 (pa_cons pe_int (pa_cons (pe_lst (pa_cons pe_str (pa_cons pe_str (pa_cons pe_str (pa_cons (pe_un un_neg pe_int) pa_nil))))) pa_nil))) pe_non (nomark _)))))))), ?_⟩
    refine ⟨.ref l, rfl, l, is, rfl, hl, fun a b H1 hd1 => ?_⟩
    show tSeq _ _ _ [some (.ref l), some (.ref a), none, none, none, none, none] H1
    have I : IsDeal (DealR a b) a b := isDeal_R
    refine s_rng (R := DealR a b) (H := H1) (m := 40) (ea_is ev_c ea_nil) ⟨by decide, by decide⟩ (Gr.refl hd1) (fun _ σ' H' => DealJ a b H' ∧ ∃ y2 y3 y4 y5 y6 : Option V, σ' = [some (.ref l), some (.ref a), y2, y3, y4, y5, y6])
      (fun H2 g2 _ => ⟨g2.1, none, none, none, none, none, rfl⟩) (fun turn σ' H2 _ hP => ?_) (fun σ' H2 hP => ?_)
    · obtain ⟨hd2, y2, y3, y4, y5, y6, rfl⟩ := hP
      show tSeq _ _ _ [some (.ref l), some (.ref a), some (.int (turn : Int)), y3, y4, y5, y6] H2
      -- a row
      refine s_set (R := DealR a b) (H := H2) (ev_anyE I (ev_is rfl) (ev_names (ev_is rfl) ev_c)) (Gr.refl hd2) fun u H3 g3 gv3 hu => ?_
      obtain ⟨r, dr, t, rfl, ht, td⟩ := hu
      show tSeq _ _ _ [some (.ref l), some (.ref a), some (.int (turn : Int)), some (.ref t), y4, y5, y6] H3
      refine s_set (R := DealR a b) (H := H3) (ev_form r (ev_lstN (vs := forms3) (ea_is ev_c (ea_is ev_c (ea_is ev_c ea_nil))) (by show 3 ≤ 1000; decide)) (ev_ixT (ev_U (ev_varTN rfl ht td)) ev_c (tup_form r))) (Gr.refl gv3.1.1) fun u H4 g4 gv4 e => ?_
      cases e
      show tSeq _ _ _ [some (.ref l), some (.ref a), some (.int (turn : Int)), some (.ref t), some (.int (r.no : Int)), y5, y6] H4
      refine s_set (R := DealR a b) (H := H4) (P := LstN (DealR a b) r.vals) (ev_listOf (ev_imp (ev_slA (ev_varTN rfl (g4.2 t _ ht td.1 td.2) td) (eo_some ev_c) eo_none) fun u H' _ ⟨p', e, h, _⟩ => ⟨p', e, .inr (.inl (.inl h))⟩)) (Gr.refl gv4.1.1) fun u H5 g5 gv5 hu => ?_
      obtain ⟨p, rfl, hp, pd⟩ := hu
      show tSeq _ _ _ [some (.ref l), some (.ref a), some (.int (turn : Int)), some (.ref t), some (.int (r.no : Int)), some (.ref p), y6] H5
      obtain ⟨ad, js, J, hn⟩ := drawn_args dr
      refine s_if1 (R := DealR a b) (H := H5) (b := false) (et_is (et_test (ev_notN (ev_told J ad hp pd (vals_ok r) (ev_is rfl) (ev_is rfl)) ev_c)) (by rw [hn]; rfl)) (Gr.refl gv5.1.1) (fun hb => Bool.noConfusion hb) fun _ H6 g6 gv6 => ?_
      have hp6 := g6.2 p _ hp pd.1 pd.2
      obtain ⟨pa, pb⟩ := deal_off pd
      have I2 : IsDeal ((DealR a b).add p) a b := I.add ⟨pa, pb⟩
      have ll : r.len ≤ 5 := by cases r <;> exact Nat.le_of_ble_eq_true rfl
      -- some of it strange
      dsimp only
      show tSeq _ _ _ [some (.ref l), some (.ref a), some (.int (turn : Int)), some (.ref t), some (.int (r.no : Int)), some (.ref p), y6] H6
      refine s_forP (R := DealR a b) (H := H6) (P := fun xs u H' => ∃ ys : List Int, ys.length ≤ 5 ∧ (∀ y, y ∈ ys → ∃ j : Nat, y = (j : Int) ∧ j < r.len) ∧ xs = ys.map V.int ∧ ∃ q0, u = .ref q0 ∧ H6 q0 = none) ?_ (Gr.refl gv6.1.1) fun q0 xs H7 g7 gv7 hq hq0 qd => ?_
      · refine ev_imp (ev_slDraw (φ := fun y => ∃ j : Nat, y = (j : Int) ∧ j < r.len) (n := 3) (M := 5) (ev_imp (ev_mixI I (zs := rangeV r.len) (ev_is rfl) (ev_rangeV (n := r.len) (by omega) (ev_val (ev_len (xs := r.vals) (ev_imp (ev_varLN (R := DealR a b) rfl hp6 pd) fun u H' _ ⟨p', e, h, _⟩ => ⟨p', e, .inl (.inl (.inl h))⟩)) (by rw [vals_len]))) (by unfold rangeV; simp; omega)) fun u H' _ ⟨ys, yl, yi, h⟩ => ⟨ys, by rw [yl]; unfold rangeV; simp; omega, fun y hy => rangeV_mem (yi y hy), h⟩)
          (ev_draw I (ev_is rfl) ev_c (by decide) (by decide))) fun u H' _ ⟨l2, xs, e, ⟨ys, yl, yi, ex, hn2⟩, hl2, ld⟩ => ⟨l2, xs, e, ⟨ys, yl, yi, ex, l2, e, hn2⟩, hl2, ld⟩
      obtain ⟨ys, yl, yi, rfl, q1, e1, hq1⟩ := hq
      cases e1
      have hp7 := g7.2 p _ hp6 pd.1 pd.2
      have nqp : q0 ≠ p := fun e => by rw [e, hp6] at hq1; cases hq1
      have n2 := deal_off qd
      have gA : Gr ((DealR a b).add p) H7 H7 := Gr.refl ⟨g7.1, by rw [hp7]; exact fun z => nomatch z⟩
      refine ⟨fun i σ' H' => Gr ((DealR a b).add p) H7 H' ∧ H' q0 = some (.lst (ys.map V.int)) ∧ ∃ (y6 : Option V) (zs : List V) (ds : List PyData), σ' = [some (.ref l), some (.ref a), some (.int (turn : Int)), some (.ref t), some (.int (r.no : Int)), some (.ref p), y6] ∧ H' p = some (.lst zs) ∧ ds.length = r.len ∧ (∀ d, d ∈ ds → ArgD d) ∧ PsOk (ds.map (Rp K ((DealR a b).add p))) zs H',
        ⟨gA, hq0, y6, r.vals, r.args, rfl, hp7, args_len r, ad, vals_ok r⟩, fun i σ' H' _ h => h.2.1, fun i x σ' H8 hi h hx => ?_, fun σ' H8 h => ?_⟩
      · obtain ⟨g8, hq8, z6, zs, ds, rfl, hp8, dl, da, ps⟩ := h
        obtain ⟨y, hy, rfl⟩ : ∃ y, ys[i]? = some y ∧ x = V.int y := by
          rw [List.getElem?_map] at hx
          cases hy : ys[i]? with
          | none => rw [hy] at hx; cases hx
          | some y => rw [hy] at hx; exact ⟨y, rfl, (Option.some.inj hx).symm⟩
        obtain ⟨j, rfl, hj⟩ := yi y (List.mem_of_getElem? hy)
        show tAsg _ _ _ [some (.ref l), some (.ref a), some (.int (turn : Int)), some (.ref t), some (.int (r.no : Int)), some (.ref p), some (.int (j : Int))] H8
        refine ⟨.ref a, rfl, (DealR a b).add p, a, b, rfl, I2, g8.1, fun v d H9 tdd rp gv9 => ?_⟩
        have hp9 : H9 p = some (.lst zs) := (gv9.2 p List.mem_cons_self).trans hp8
        have hq9 : H9 q0 = some (.lst (ys.map V.int)) := gv9.1.2 q0 _ hq8 qd.1 fun z => by
          rcases List.mem_cons.mp z with z | z
          · exact nqp z
          · exact qd.2 z
        have zl : zs.length = r.len := by
          have := psOk_len ps
          rw [List.length_map] at this
          omega
        have gm : Gr ((DealR a b).add p) H9 (upd H9 p (.lst (zs.set j v))) := add_mut pd gv9.at.1
        refine ⟨_, rfl, _, rfl, p, zs, (j : Int), j, rfl, rfl, hp9, ?_, (g8.trans gv9).tr gm, ?_, some (.int (j : Int)), zs.set j v, ds.set j d, rfl, upd_same, ?_, fun e he => ?_, ?_⟩
        · unfold ixN
          rw [if_pos (by omega), if_pos (by omega)]
          rfl
        · rw [upd_ne nqp]
          exact hq9
        · rw [List.length_set]
          exact dl
        · rcases List.mem_or_eq_of_mem_set he with h | rfl
          · exact da e h
          · exact tdd.arg (by decide)
        · refine psOk_set j (psOk_imp' (fun P hP => ?_) (gv9.1.tr gm) ps) (Al.gr gm rp)
          obtain ⟨d', _, rfl⟩ := List.mem_map.mp hP
          exact stb_rp
      · obtain ⟨g8, hq8, z6, zs, ds, rfl, hp8, dl, da, ps⟩ := h
        obtain ⟨js2, J2⟩ := judged_ex r dl
        have ps8 : PsOk (ds.map (Rp K (DealR a b))) zs H8 := psOk_out hp8 pd ps
        have e1 : ∀ {ta tb : TE} {σ : L2.St} {E : XK}, EvP (DealR a b) ta σ H8 (Is (.int (r.no : Int))) → EvP (DealR a b) tb σ H8 (Is (.ref p)) → EvP (DealR a b) (tCB (rReprD K) (tCons (tCall (spWrong K) [] E (tCons ta (tCons tb tNil))) tNil)) σ H8 (Is (.str (toD (resV (firstW js2))).shown)) := fun h1 h2 =>
          ev_reprD (judged_ok J2) (ev_rp (ev_told J2 da hp8 pd ps8 h1 h2) (resV_D _))
        refine s_if1 (R := DealR a b) (H := H8) (b := false) (et_is (et_test (ev_ne rfl (e1 (ev_is rfl) (ev_is rfl)) (e1 (ev_is rfl) (ev_is rfl)))) (by simp)) (Gr.refl g8.1.1) (fun hb => Bool.noConfusion hb) fun _ H9 g9 gv9 => ?_
        exact ⟨gv9.1.1, _, _, _, _, _, rfl⟩
    · obtain ⟨hd2, y2, y3, y4, y5, y6, rfl⟩ := hP
      have lit : ∀ {n : Nat} {js : List (Str × Bool)} {vs : List V} {ts : TA} {σ : L2.St} {H2 : Hp} {E : XK}, DealJ a b H2 → Judged n (vs.map toD) js → firstW js = none → vs.all flatV = true → vs.length ≤ 1000 → (∀ d, d ∈ vs.map toD → ArgD d) → EvA (DealR a b) ts σ H2 (vs.map Is) →
          EvP (DealR a b) (tOp (fun x y H Q => y = .non ∧ Q (.bl (decide (x = .non))) H) (tCall (spWrong K) [] E (tCons (tC (.int (n : Int))) (tCons (tLst ts) tNil))) (tC .non)) σ H2 (Is (.bl true)) := fun {n js vs ts σ H2 E} hd J hn hf hl ad h => by
        refine ev_val (ev_isN (x := resV (firstW js)) ?_ ev_c) (by rw [hn]; rfl)
        refine ev_call (ea_is ev_c (ea_cons stb_lstN (ev_lstN h hl) ea_nil)) fun us H1 g ps Q q => ?_
        obtain ⟨u, rfl, p, rfl, hp, pd⟩ := psOk_2 ps
        exact told_sp (R := DealR a b) J ad hp g.1 (fun H2 g2 => dpAll_of (psOk_flat (R := DealR a b) (H := H1) hf) H2 g2) q
      refine s_ret (R := DealR a b) (H := H2) (P := Is (.bl true)) (ev_val (ev_and (lit (n := 0) (vs := [V.str "late yes", .str "any", .str "same", .int 3]) hd2 (.inl ⟨_, _, _, _, rfl, rfl, rfl⟩) last_good.1 rfl (by show 4 ≤ 1000; decide) (fun d hd => ?_) (ea_is ev_c (ea_is ev_c (ea_is ev_c (ea_is ev_c ea_nil))))) fun _ => lit (n := 1) (vs := [V.str "any", .str "any", .str "other", .int (-3)]) hd2 (.inr (.inl ⟨_, _, _, _, rfl, rfl, rfl⟩)) last_good.2 rfl (by show 4 ≤ 1000; decide) (fun d hd => ?_) (ea_is ev_c (ea_is ev_c (ea_is ev_c (ea_is (ev_neg ev_c) ea_nil))))) rfl) (Gr.refl hd2) fun u H3 _ _ e => ?_
      · simp only [List.map_cons, List.map_nil, List.mem_cons, List.not_mem_nil, or_false, toD] at hd
        rcases hd with rfl | rfl | rfl | rfl
        · exact ⟨by decide +kernel, fun z e => by cases e; decide⟩
        · exact ⟨by decide +kernel, fun z e => by cases e; decide⟩
        · exact ⟨by decide +kernel, fun z e => by cases e; decide⟩
        · exact argInt _
      · simp only [List.map_cons, List.map_nil, List.mem_cons, List.not_mem_nil, or_false, toD] at hd
        rcases hd with rfl | rfl | rfl | rfl
        · exact ⟨by decide +kernel, fun z e => by cases e; decide⟩
        · exact ⟨by decide +kernel, fun z e => by cases e; decide⟩
        · exact ⟨by decide +kernel, fun z e => by cases e; decide⟩
        · exact argInt _
      · cases e
        exact q H3
end
section
variable {P : Program} {w : World} {A : Ads} {K : PySem.W.Frag} {mg : Str → Option Value}
theorem binds_all {x qual : Str} {st : Stmt} {f : Addr} {fd : FuncData} {ps : List Str} (F : Fun K x qual st f fd)
    (b : ∀ (kV doc pm : Value) (an : Option Addr) (cdv ct : Value) (us : List Value), us.length = ps.length → bindArgs (PySem.W.fnOf x qual (defArgs st) (defBody st) (defScope st) .none kV doc pm an cdv ct) ⟨us, []⟩ = pure (ps.zip us)) (s : Shared) (us : List Value) (hl : us.length = ps.length) : BindsTo s fd ⟨us, []⟩ (ps.zip us) := by
  obtain ⟨_, _, kV, doc, pm, an, cdv, ct, _, rfl, _, _⟩ := F.ex
  intro M A E Q q
  rw [b kV doc pm an cdv ct us hl]
  exact wpAny_pure q
theorem whole (T : Tx A K mg) : ∃ fd : FuncData, (∀ (s : Shared) (u : Value), BindsTo s fd ⟨[u], []⟩ [("_law_script", u)]) ∧ ∀ base : Heap, FnG P w K mg base CX0 8 A.f_law fd ["_law_script"] (spLaw K) := by
  obtain ⟨_, fd, F⟩ := T.d_law
  refine ⟨fd, fun s u => binds_all (ps := ["_law_script"]) F (fun _ _ _ _ _ _ us h => by match us, h with | [u0], _ => rfl) s [u] rfl, fun base => ?_⟩
  · skip
    have c_is_integer : CalX P w K mg base CX0 1 "is_integer" (spInt3 K) := cal_of T.d_is_integer (fun _ F => ok_int3 T F) (fun _ _ _ _ _ _ us h => by match us, h with | [u0], _ => rfl)
    have c_is_name : CalX P w K mg base CX0 1 "is_name" (spName3 K) := cal_of T.d_is_name (fun _ F => fn_or (ok_is_name T F) (ok_nostr T F)) (fun _ _ _ _ _ _ us h => by match us, h with | [u0], _ => rfl)
    have c_is_mark_or : CalX P w K mg base CX0 2 "_is_mark_or" (spMark3 K) := cal_of T.d_is_mark_or (fun _ F => ok_mark3 T c_is_name F) (fun _ _ _ _ _ _ us h => by match us, h with | [u0, u1], _ => rfl)
    have c_is_added : CalX P w K mg base CX0 2 "_is_added" (spAdd3 K) := cal_of T.d_is_added (fun _ F => ok_add3 T c_is_integer F) (fun _ _ _ _ _ _ us h => by match us, h with | [u0], _ => rfl)
    obtain ⟨fdI, Fi⟩ := T.d_InvalidRow_init
    have FI := ok_irow (P := P) (w := w) (mg := mg) (base := base) Fi
    have bI : Binds K fdI ["self", "word"] [] := Fi.binds (fun _ _ _ _ _ _ us h => by match us, h with | [u0, u1], _ => rfl)
    have c_refuse_wrong : CalX P w K mg base (L2.CX P w) 3 "_refuse_wrong" (spRef3 A K) := cal_of T.d_refuse_wrong (fun _ F => ok_ref3 T FI bI F) (fun _ _ _ _ _ _ us h => by match us, h with | [u0], _ => rfl)
    obtain ⟨fdR, Fr⟩ := T.d_Row_init
    have FR := ok_rowi (P := P) (w := w) (base := base) T Fr
    have bR : Binds K fdR ["self", "words"] [] := Fr.binds (fun _ _ _ _ _ _ us h => by match us, h with | [u0, u1], _ => rfl)
    obtain ⟨fdStep, FStep⟩ := T.d_Step_init
    have GStep := ok_Step3 (P := P) (w := w) (base := base) T c_refuse_wrong c_is_mark_or c_is_added FR bR FStep
    have bStep := FStep.binds (ps := ["self", "kind", "old", "then", "add"]) (fun _ _ _ _ _ _ us h => by match us, h with | [u0, u1, u2, u3, u4], _ => rfl)
    obtain ⟨fdJoin, FJoin⟩ := T.d_Join_init
    have GJoin := ok_Join3 (P := P) (w := w) (base := base) T c_refuse_wrong c_is_mark_or c_is_added FR bR FJoin
    have bJoin := FJoin.binds (ps := ["self", "here", "there", "then", "add"]) (fun _ _ _ _ _ _ us h => by match us, h with | [u0, u1, u2, u3, u4], _ => rfl)
    obtain ⟨fdPart, FPart⟩ := T.d_Part_init
    have GPart := ok_Part3 (P := P) (w := w) (base := base) T c_refuse_wrong c_is_mark_or c_is_added FR bR FPart
    have bPart := FPart.binds (ps := ["self", "old", "left", "right", "add", "more"]) (fun _ _ _ _ _ _ us h => by match us, h with | [u0, u1, u2, u3, u4, u5], _ => rfl)
    have c_law_draw : CalX P w K mg base CX0 1 "_law_draw" spDraw := cal_of T.d_law_draw (fun _ F => ok_draw T F) (fun _ _ _ _ _ _ us h => by match us, h with | [u0, u1], _ => rfl)
    have c_law_deal : CalX P w K mg base CX0 1 "_law_deal" (spDeal K) := cal_of T.d_law_deal (fun _ F => ok_deal T F) (fun _ _ _ _ _ _ us h => by match us, h with | [u0, u1], _ => rfl)
    have c_law_pick : CalX P w K mg base CX0 2 "_law_pick" spPick := cal_of T.d_law_pick (fun _ F => ok_pick T c_law_draw F) (fun _ _ _ _ _ _ us h => by match us, h with | [u0, u1], _ => rfl)
    have c_law_mixed : CalX P w K mg base CX0 2 "_law_mixed" spMixed := cal_of T.d_law_mixed (fun _ F => ok_mixed T c_law_draw F) (fun _ _ _ _ _ _ us h => by match us, h with | [u0, u1], _ => rfl)
    have c_law_names : CalX P w K mg base CX0 3 "_law_names" spNames := cal_of T.d_law_names (fun _ F => ok_names T c_law_mixed F) (fun _ _ _ _ _ _ us h => by match us, h with | [u0, u1], _ => rfl)
    have c_law_kinds : CalX P w K mg base CX0 1 "_law_kinds" spKinds := cal_of T.d_law_kinds (fun _ F => ok_kinds T F) (fun _ _ _ _ _ _ us h => by match us, h with | [], _ => rfl)
    have c_law_any_row : CalX P w K mg base CX0 3 "_law_any_row" spAny := cal_of T.d_law_any_row (fun _ F => ok_any T c_law_draw c_law_pick c_law_kinds F) (fun _ _ _ _ _ _ us h => by match us, h with | [u0, u1], _ => rfl)
    have t0 : CalX P w K mg base CX0 2 "_law_thing" (fun _ _ _ _ => False) := cal_of T.d_law_thing (fun _ F => (⟨fun _ _ _ _ h => h.elim, fun _ _ _ _ _ _ _ _ _ _ _ _ _ h => h.elim⟩ : FnOk P w K mg base CX0 2 A.f_law_thing _ ["_law_deal_here", "_law_deep"] (fun _ _ _ _ => False))) (fun _ _ _ _ _ _ us h => by match us, h with | [u0, u1], _ => rfl)
    have t1 : CalX P w K mg base CX0 3 "_law_thing" (spThing K 0) := cal_of T.d_law_thing (fun _ F => ok_thing T 0 2 (by decide) _ (fun h => absurd rfl h) t0 c_law_draw c_law_pick F) (fun _ _ _ _ _ _ us h => by match us, h with | [u0, u1], _ => rfl)
    have t2 : CalX P w K mg base CX0 4 "_law_thing" (spThing K 1) := cal_of T.d_law_thing (fun _ F => ok_thing T 1 3 (by decide) _ (fun _ => rfl) t1 c_law_draw c_law_pick F) (fun _ _ _ _ _ _ us h => by match us, h with | [u0, u1], _ => rfl)
    have t3 : CalX P w K mg base CX0 5 "_law_thing" (spThing K 2) := cal_of T.d_law_thing (fun _ F => ok_thing T 2 4 (by decide) _ (fun _ => rfl) t2 c_law_draw c_law_pick F) (fun _ _ _ _ _ _ us h => by match us, h with | [u0, u1], _ => rfl)
    have c_law_is_name : CalX P w K mg base CX0 1 "_law_is_name" (spLName K) := cal_of T.d_law_is_name (fun _ F => ok_lname T F) (fun _ _ _ _ _ _ us h => by match us, h with | [u0], _ => rfl)
    have c_law_is_add : CalX P w K mg base CX0 1 "_law_is_add" (spLAdd K) := cal_of T.d_law_is_add (fun _ F => ok_ladd T F) (fun _ _ _ _ _ _ us h => by match us, h with | [u0], _ => rfl)
    have c_law_strange : CalX P w K mg base CX0 6 "_law_strange" (spStr3 K) := cal_of T.d_law_strange (fun _ F => ok_strange T t3 c_law_draw c_law_pick F) (fun _ _ _ _ _ _ us h => by match us, h with | [u0], _ => rfl)
    have c_law_wrong : CalX P w K mg base CX0 2 "_law_wrong" (spWrong K) := cal_of T.d_law_wrong (fun _ F => ok_wrong T c_law_is_name c_law_is_add c_law_kinds F) (fun _ _ _ _ _ _ us h => by match us, h with | [u0, u1], _ => rfl)
    have c_law_heard : CalX P w K mg base CX0 6 "_law_heard" (spWrong K) := cal_of T.d_law_heard (fun _ F => ok_heard T GStep bStep GJoin bJoin GPart bPart F) (fun _ _ _ _ _ _ us h => by match us, h with | [u0, u1], _ => rfl)
    have c_mixI : CalX P w K mg base CX0 2 "_law_mixed" spMixI := cal_of T.d_law_mixed (fun _ F => ok_mixI T c_law_draw F) (fun _ _ _ _ _ _ us h => by match us, h with | [u0, u1], _ => rfl)
    exact ok_law T c_law_deal c_law_names c_law_any_row c_mixI c_law_draw c_law_strange c_law_wrong c_law_heard F
end
theorem gather {K : PySem.W.Frag} {h : Heap} {mg : Str → Option Value} (X : K.In h) (G : h.Ns mainGlobals mg) {f_is_integer f_is_name f_refuse_wrong f_is_mark_or f_is_added Row Step Join Part PollError InvalidRow InvalidBook InvalidText f_Step_init f_Join_init f_Part_init f_Row_init KEYWORDS KINDS f_InvalidRow_init f_law_deal f_law_draw f_law_pick f_law_mixed f_law_names f_law_kinds f_law_any_row f_law_thing f_law_is_name f_law_is_add f_law_strange f_law_wrong f_law_heard f_law : Addr}
    {oc1 kV1 dc1 pm1 cd1 ct1 : Value} {od1 an1 : Option Addr} {sl1 : Array (Option Value)}
    {oc2 kV2 dc2 pm2 cd2 ct2 : Value} {od2 an2 : Option Addr} {sl2 : Array (Option Value)}
    {oc3 kV3 dc3 pm3 cd3 ct3 : Value} {od3 an3 : Option Addr} {sl3 : Array (Option Value)}
    {oc4 kV4 dc4 pm4 cd4 ct4 : Value} {od4 an4 : Option Addr} {sl4 : Array (Option Value)}
    {oc5 kV5 dc5 pm5 cd5 ct5 : Value} {od5 an5 : Option Addr} {sl5 : Array (Option Value)}
    {oc6 kV6 dc6 pm6 cd6 ct6 : Value} {od6 an6 : Option Addr} {sl6 : Array (Option Value)}
    {oc7 kV7 dc7 pm7 cd7 ct7 : Value} {od7 an7 : Option Addr} {sl7 : Array (Option Value)}
    {oc8 kV8 dc8 pm8 cd8 ct8 : Value} {od8 an8 : Option Addr} {sl8 : Array (Option Value)}
    {oc9 kV9 dc9 pm9 cd9 ct9 : Value} {od9 an9 : Option Addr} {sl9 : Array (Option Value)}
    {oTKEYWORDS : Obj} {iTKEYWORDS : Array Value} {nTKEYWORDS : Nat}
    {oTKINDS : Obj} {iTKINDS : Array Value} {nTKINDS : Nat}
    {oc10 kV10 dc10 pm10 cd10 ct10 : Value} {od10 an10 : Option Addr} {sl10 : Array (Option Value)}
    {nmInvalidRow qnInvalidRow : Str} {naInvalidRow : Addr} {bsInvalidRow bmInvalidRow : List Value} {snInvalidRow : List Str} {suInvalidRow : List Value} {abInvalidRow : Bool} {coInvalidRow : Option Bool} {ddInvalidRow : Option Addr} {kaInvalidRow kbInvalidRow kcInvalidRow kdInvalidRow keInvalidRow : Option Value}
    {oc11 kV11 dc11 pm11 cd11 ct11 : Value} {od11 an11 : Option Addr} {sl11 : Array (Option Value)}
    {oc12 kV12 dc12 pm12 cd12 ct12 : Value} {od12 an12 : Option Addr} {sl12 : Array (Option Value)}
    {oc13 kV13 dc13 pm13 cd13 ct13 : Value} {od13 an13 : Option Addr} {sl13 : Array (Option Value)}
    {oc14 kV14 dc14 pm14 cd14 ct14 : Value} {od14 an14 : Option Addr} {sl14 : Array (Option Value)}
    {oc15 kV15 dc15 pm15 cd15 ct15 : Value} {od15 an15 : Option Addr} {sl15 : Array (Option Value)}
    {oc16 kV16 dc16 pm16 cd16 ct16 : Value} {od16 an16 : Option Addr} {sl16 : Array (Option Value)}
    {oc17 kV17 dc17 pm17 cd17 ct17 : Value} {od17 an17 : Option Addr} {sl17 : Array (Option Value)}
    {oc18 kV18 dc18 pm18 cd18 ct18 : Value} {od18 an18 : Option Addr} {sl18 : Array (Option Value)}
    {oc19 kV19 dc19 pm19 cd19 ct19 : Value} {od19 an19 : Option Addr} {sl19 : Array (Option Value)}
    {oc20 kV20 dc20 pm20 cd20 ct20 : Value} {od20 an20 : Option Addr} {sl20 : Array (Option Value)}
    {oc21 kV21 dc21 pm21 cd21 ct21 : Value} {od21 an21 : Option Addr} {sl21 : Array (Option Value)}
    {oc22 kV22 dc22 pm22 cd22 ct22 : Value} {od22 an22 : Option Addr} {sl22 : Array (Option Value)}
    {oc23 kV23 dc23 pm23 cd23 ct23 : Value} {od23 an23 : Option Addr} {sl23 : Array (Option Value)}
    {oc24 kV24 dc24 pm24 cd24 ct24 : Value} {od24 an24 : Option Addr} {sl24 : Array (Option Value)}
    (z_isinstance : PySem.W.nsIn K mainGlobals "isinstance" = some none)
    (z_int : PySem.W.nsIn K mainGlobals "int" = some none)
    (z_bool : PySem.W.nsIn K mainGlobals "bool" = some none)
    (z_str : PySem.W.nsIn K mainGlobals "str" = some none)
    (z_len : PySem.W.nsIn K mainGlobals "len" = some none)
    (z_all : PySem.W.nsIn K mainGlobals "all" = some none)
    (z_tuple : PySem.W.nsIn K mainGlobals "tuple" = some none)
    (z_range : PySem.W.nsIn K mainGlobals "range" = some none)
    (z_list : PySem.W.nsIn K mainGlobals "list" = some none)
    (z_abs : PySem.W.nsIn K mainGlobals "abs" = some none)
    (z_repr : PySem.W.nsIn K mainGlobals "repr" = some none)
    (g_is_integer : PySem.W.nsIn K mainGlobals "is_integer" = some (some (.ref f_is_integer)))
    (l1 : K.lookup f_is_integer = some ⟨oc1, od1, .func (PySem.W.fnOf "is_integer" "is_integer" (defArgs s_is_integer) (defBody s_is_integer) (defScope s_is_integer) .none kV1 dc1 pm1 an1 cd1 ct1), sl1⟩)
    (c1 : PySem.W.codeIn K cd1 "is_integer" = true)
    (k1 : PySem.W.keepIn K (.ref f_is_integer) = true)
    (g_is_name : PySem.W.nsIn K mainGlobals "is_name" = some (some (.ref f_is_name)))
    (l2 : K.lookup f_is_name = some ⟨oc2, od2, .func (PySem.W.fnOf "is_name" "is_name" (defArgs s_is_name) (defBody s_is_name) (defScope s_is_name) .none kV2 dc2 pm2 an2 cd2 ct2), sl2⟩)
    (c2 : PySem.W.codeIn K cd2 "is_name" = true)
    (k2 : PySem.W.keepIn K (.ref f_is_name) = true)
    (g_refuse_wrong : PySem.W.nsIn K mainGlobals "_refuse_wrong" = some (some (.ref f_refuse_wrong)))
    (l3 : K.lookup f_refuse_wrong = some ⟨oc3, od3, .func (PySem.W.fnOf "_refuse_wrong" "_refuse_wrong" (defArgs s_refuse_wrong) (defBody s_refuse_wrong) (defScope s_refuse_wrong) .none kV3 dc3 pm3 an3 cd3 ct3), sl3⟩)
    (c3 : PySem.W.codeIn K cd3 "_refuse_wrong" = true)
    (k3 : PySem.W.keepIn K (.ref f_refuse_wrong) = true)
    (g_is_mark_or : PySem.W.nsIn K mainGlobals "_is_mark_or" = some (some (.ref f_is_mark_or)))
    (l4 : K.lookup f_is_mark_or = some ⟨oc4, od4, .func (PySem.W.fnOf "_is_mark_or" "_is_mark_or" (defArgs s_is_mark_or) (defBody s_is_mark_or) (defScope s_is_mark_or) .none kV4 dc4 pm4 an4 cd4 ct4), sl4⟩)
    (c4 : PySem.W.codeIn K cd4 "_is_mark_or" = true)
    (k4 : PySem.W.keepIn K (.ref f_is_mark_or) = true)
    (g_is_added : PySem.W.nsIn K mainGlobals "_is_added" = some (some (.ref f_is_added)))
    (l5 : K.lookup f_is_added = some ⟨oc5, od5, .func (PySem.W.fnOf "_is_added" "_is_added" (defArgs s_is_added) (defBody s_is_added) (defScope s_is_added) .none kV5 dc5 pm5 an5 cd5 ct5), sl5⟩)
    (c5 : PySem.W.codeIn K cd5 "_is_added" = true)
    (k5 : PySem.W.keepIn K (.ref f_is_added) = true)
    (g_Row : PySem.W.nsIn K mainGlobals "Row" = some (some (.ref Row)))
    (g_Step : PySem.W.nsIn K mainGlobals "Step" = some (some (.ref Step)))
    (g_Join : PySem.W.nsIn K mainGlobals "Join" = some (some (.ref Join)))
    (g_Part : PySem.W.nsIn K mainGlobals "Part" = some (some (.ref Part)))
    (g_PollError : PySem.W.nsIn K mainGlobals "PollError" = some (some (.ref PollError)))
    (g_InvalidRow : PySem.W.nsIn K mainGlobals "InvalidRow" = some (some (.ref InvalidRow)))
    (g_InvalidBook : PySem.W.nsIn K mainGlobals "InvalidBook" = some (some (.ref InvalidBook)))
    (g_InvalidText : PySem.W.nsIn K mainGlobals "InvalidText" = some (some (.ref InvalidText)))
    (m_Step_init : PySem.W.findIn K (.ref Step) "__init__" = some (some (.ref f_Step_init)))
    (n_f_Step_init : PySem.W.isFn K (.ref f_Step_init) = true)
    (l6 : K.lookup f_Step_init = some ⟨oc6, od6, .func (PySem.W.fnOf "__init__" "Step.__init__" (defArgs s_Step_init) (defBody s_Step_init) (defScope s_Step_init) .none kV6 dc6 pm6 an6 cd6 ct6), sl6⟩)
    (c6 : PySem.W.codeIn K cd6 "Step.__init__" = true)
    (k6 : PySem.W.keepIn K (.ref f_Step_init) = true)
    (m_Join_init : PySem.W.findIn K (.ref Join) "__init__" = some (some (.ref f_Join_init)))
    (n_f_Join_init : PySem.W.isFn K (.ref f_Join_init) = true)
    (l7 : K.lookup f_Join_init = some ⟨oc7, od7, .func (PySem.W.fnOf "__init__" "Join.__init__" (defArgs s_Join_init) (defBody s_Join_init) (defScope s_Join_init) .none kV7 dc7 pm7 an7 cd7 ct7), sl7⟩)
    (c7 : PySem.W.codeIn K cd7 "Join.__init__" = true)
    (k7 : PySem.W.keepIn K (.ref f_Join_init) = true)
    (m_Part_init : PySem.W.findIn K (.ref Part) "__init__" = some (some (.ref f_Part_init)))
    (n_f_Part_init : PySem.W.isFn K (.ref f_Part_init) = true)
    (l8 : K.lookup f_Part_init = some ⟨oc8, od8, .func (PySem.W.fnOf "__init__" "Part.__init__" (defArgs s_Part_init) (defBody s_Part_init) (defScope s_Part_init) .none kV8 dc8 pm8 an8 cd8 ct8), sl8⟩)
    (c8 : PySem.W.codeIn K cd8 "Part.__init__" = true)
    (k8 : PySem.W.keepIn K (.ref f_Part_init) = true)
    (m_Row_init : PySem.W.findIn K (.ref Row) "__init__" = some (some (.ref f_Row_init)))
    (n_f_Row_init : PySem.W.isFn K (.ref f_Row_init) = true)
    (l9 : K.lookup f_Row_init = some ⟨oc9, od9, .func (PySem.W.fnOf "__init__" "Row.__init__" (defArgs s_Row_init) (defBody s_Row_init) (defScope s_Row_init) .none kV9 dc9 pm9 an9 cd9 ct9), sl9⟩)
    (c9 : PySem.W.codeIn K cd9 "Row.__init__" = true)
    (k9 : PySem.W.keepIn K (.ref f_Row_init) = true)
    (g_KEYWORDS : PySem.W.nsIn K mainGlobals "KEYWORDS" = some (some (.ref KEYWORDS)))
    (lTKEYWORDS : K.lookup KEYWORDS = some oTKEYWORDS)
    (cTKEYWORDS : oTKEYWORDS.cls = .type "tuple")
    (dTKEYWORDS : oTKEYWORDS.data = .seq iTKEYWORDS nTKEYWORDS)
    (vTKEYWORDS : Vals [.str "any", .str "by", .str "one", .str "same", .str "to"] iTKEYWORDS.toList)
    (g_KINDS : PySem.W.nsIn K mainGlobals "KINDS" = some (some (.ref KINDS)))
    (lTKINDS : K.lookup KINDS = some oTKINDS)
    (cTKINDS : oTKINDS.cls = .type "tuple")
    (dTKINDS : oTKINDS.data = .seq iTKINDS nTKINDS)
    (vTKINDS : Vals [.str "yes", .str "no", .str "late yes", .str "late no", .str "word", .str "strike", .str "back", .str "cut"] iTKINDS.toList)
    (opg_Row : PySem.W.plainGet K Row Str.empty = true)
    (ohd_Row : PySem.W.hasDictIn K Row = true)
    (opo_Row : PySem.W.plainOver K Row = true)
    (osa_Row : PySem.W.findIn K (.ref Row) "__setattr__" = some (some (.builtin "object.__setattr__")))
    (oma_Row : PySem.W.makesIn K Row = true)
    (okp_Row : PySem.W.keepIn K (.ref Row) = true)
    (oha_Row : PySem.W.findIn K (.ref Row) "__class__" = some (some (.builtin "object.__class__")))
    (one_Row : PySem.W.findIn K (.ref Row) "__ne__" = some (some (.builtin "object.__ne__")))
    (omo_Row : PySem.W.mroIn K Row (.type "object") = some true)
    (oic_Row : PySem.W.isClsIn K Row = true)
    (oty_Row : PySem.W.typeIn K (.ref Row) = some (.type "type"))
    (ome_Row : PySem.W.subIn K (.ref Row) (.ref Row) = some true)
    (opg_Step : PySem.W.plainGet K Step Str.empty = true)
    (ohd_Step : PySem.W.hasDictIn K Step = true)
    (opo_Step : PySem.W.plainOver K Step = true)
    (osa_Step : PySem.W.findIn K (.ref Step) "__setattr__" = some (some (.builtin "object.__setattr__")))
    (oma_Step : PySem.W.makesIn K Step = true)
    (okp_Step : PySem.W.keepIn K (.ref Step) = true)
    (oha_Step : PySem.W.findIn K (.ref Step) "__class__" = some (some (.builtin "object.__class__")))
    (one_Step : PySem.W.findIn K (.ref Step) "__ne__" = some (some (.builtin "object.__ne__")))
    (omo_Step : PySem.W.mroIn K Step (.type "object") = some true)
    (oic_Step : PySem.W.isClsIn K Step = true)
    (oty_Step : PySem.W.typeIn K (.ref Step) = some (.type "type"))
    (ome_Step : PySem.W.subIn K (.ref Step) (.ref Step) = some true)
    (opg_Join : PySem.W.plainGet K Join Str.empty = true)
    (ohd_Join : PySem.W.hasDictIn K Join = true)
    (opo_Join : PySem.W.plainOver K Join = true)
    (osa_Join : PySem.W.findIn K (.ref Join) "__setattr__" = some (some (.builtin "object.__setattr__")))
    (oma_Join : PySem.W.makesIn K Join = true)
    (okp_Join : PySem.W.keepIn K (.ref Join) = true)
    (oha_Join : PySem.W.findIn K (.ref Join) "__class__" = some (some (.builtin "object.__class__")))
    (one_Join : PySem.W.findIn K (.ref Join) "__ne__" = some (some (.builtin "object.__ne__")))
    (omo_Join : PySem.W.mroIn K Join (.type "object") = some true)
    (oic_Join : PySem.W.isClsIn K Join = true)
    (oty_Join : PySem.W.typeIn K (.ref Join) = some (.type "type"))
    (ome_Join : PySem.W.subIn K (.ref Join) (.ref Join) = some true)
    (opg_Part : PySem.W.plainGet K Part Str.empty = true)
    (ohd_Part : PySem.W.hasDictIn K Part = true)
    (opo_Part : PySem.W.plainOver K Part = true)
    (osa_Part : PySem.W.findIn K (.ref Part) "__setattr__" = some (some (.builtin "object.__setattr__")))
    (oma_Part : PySem.W.makesIn K Part = true)
    (okp_Part : PySem.W.keepIn K (.ref Part) = true)
    (oha_Part : PySem.W.findIn K (.ref Part) "__class__" = some (some (.builtin "object.__class__")))
    (one_Part : PySem.W.findIn K (.ref Part) "__ne__" = some (some (.builtin "object.__ne__")))
    (omo_Part : PySem.W.mroIn K Part (.type "object") = some true)
    (oic_Part : PySem.W.isClsIn K Part = true)
    (oty_Part : PySem.W.typeIn K (.ref Part) = some (.type "type"))
    (ome_Part : PySem.W.subIn K (.ref Part) (.ref Part) = some true)
    (h_rowOff : PySem.W.findCls K (.ref Row) (.type "type") "__init__" = some (.val (.ref f_Row_init)))
    (h_rowRd : PySem.W.readsIn K Row (.type "type") = true)
    (h_rowGa : PySem.W.specialIn K (.ref Row) "__getattribute__" = some (some (.builtin "type.__getattribute__")))
    (h_rowKeep : PySem.W.keepIn K (.ref f_Row_init) = true)
    (h_ogt : PySem.W.specialIn K (.builtin "object.__class__") "__get__" = some (some (.builtin "getset_descriptor.__get__")))
    (h_otk : PySem.W.takesIn K (.builtin "object.__class__") = some true)
    (na_Step_words : PySem.W.findIn K (.ref Step) "words" = some none)
    (na_Step_kind : PySem.W.findIn K (.ref Step) "kind" = some none)
    (na_Step_old : PySem.W.findIn K (.ref Step) "old" = some none)
    (na_Step_then : PySem.W.findIn K (.ref Step) "then" = some none)
    (na_Step_add : PySem.W.findIn K (.ref Step) "add" = some none)
    (na_Join_words : PySem.W.findIn K (.ref Join) "words" = some none)
    (na_Join_here : PySem.W.findIn K (.ref Join) "here" = some none)
    (na_Join_there : PySem.W.findIn K (.ref Join) "there" = some none)
    (na_Join_then : PySem.W.findIn K (.ref Join) "then" = some none)
    (na_Join_add : PySem.W.findIn K (.ref Join) "add" = some none)
    (na_Part_words : PySem.W.findIn K (.ref Part) "words" = some none)
    (na_Part_old : PySem.W.findIn K (.ref Part) "old" = some none)
    (na_Part_left : PySem.W.findIn K (.ref Part) "left" = some none)
    (na_Part_right : PySem.W.findIn K (.ref Part) "right" = some none)
    (na_Part_add : PySem.W.findIn K (.ref Part) "add" = some none)
    (na_Part_more : PySem.W.findIn K (.ref Part) "more" = some none)
    (m_InvalidRow_init : PySem.W.findIn K (.ref InvalidRow) "__init__" = some (some (.ref f_InvalidRow_init)))
    (n_f_InvalidRow_init : PySem.W.isFn K (.ref f_InvalidRow_init) = true)
    (l10 : K.lookup f_InvalidRow_init = some ⟨oc10, od10, .func (PySem.W.fnOf "__init__" "InvalidRow.__init__" (defArgs s_InvalidRow_init) (defBody s_InvalidRow_init) (defScope s_InvalidRow_init) .none kV10 dc10 pm10 an10 cd10 ct10), sl10⟩)
    (c10 : PySem.W.codeIn K cd10 "InvalidRow.__init__" = true)
    (k10 : PySem.W.keepIn K (.ref f_InvalidRow_init) = true)
    (ft_f_InvalidRow_init : PySem.W.typeIn K (.ref f_InvalidRow_init) = some (.type "function"))
    (xg_InvalidRow : PySem.W.findIn K (.ref InvalidRow) "__getattribute__" = some (some (.builtin "BaseException.__getattribute__")))
    (xk_InvalidRow : PySem.W.findIn K (.ref InvalidRow) "__getattr__" = some none)
    (xs_InvalidRow : PySem.W.subIn K (.ref InvalidRow) (.type "BaseException") = some true)
    (xd_InvalidRow : PySem.W.hasDictIn K InvalidRow = true)
    (xa_InvalidRow : PySem.W.findIn K (.ref InvalidRow) "__class__" = some (some (.builtin "object.__class__")))
    (xm_InvalidRow : PySem.W.mroIn K InvalidRow (.type "object") = some true)
    (xe_InvalidRow : PySem.W.keepIn K (.ref InvalidRow) = true)
    (xl_InvalidRow : K.lookup InvalidRow = some (excClassObj nmInvalidRow qnInvalidRow InvalidRow naInvalidRow bsInvalidRow bmInvalidRow true snInvalidRow suInvalidRow abInvalidRow coInvalidRow ddInvalidRow kaInvalidRow kbInvalidRow kcInvalidRow kdInvalidRow keInvalidRow "ValueError.__new__"))
    (xp_InvalidRow : xpassVE bmInvalidRow = true)
    (xb_InvalidRow : PySem.W.findIn K (.ref InvalidRow) "__setattr__" = some (some (.builtin "object.__setattr__")))
    (xt_InvalidRow : PySem.W.typeIn K (.ref InvalidRow) = some (.type "type"))
    (na_InvalidRow_word : PySem.W.findIn K (.ref InvalidRow) "word" = some none)
    (kc_PollError : PySem.W.isClsIn K PollError = true)
    (kt_PollError : PySem.W.typeIn K (.ref PollError) = some (.type "type"))
    (km_PollError : PySem.W.subIn K (.ref PollError) (.ref PollError) = some true)
    (kc_InvalidBook : PySem.W.isClsIn K InvalidBook = true)
    (kt_InvalidBook : PySem.W.typeIn K (.ref InvalidBook) = some (.type "type"))
    (km_InvalidBook : PySem.W.subIn K (.ref InvalidBook) (.ref InvalidBook) = some true)
    (kc_InvalidText : PySem.W.isClsIn K InvalidText = true)
    (kt_InvalidText : PySem.W.typeIn K (.ref InvalidText) = some (.type "type"))
    (km_InvalidText : PySem.W.subIn K (.ref InvalidText) (.ref InvalidText) = some true)
    (kc_InvalidRow : PySem.W.isClsIn K InvalidRow = true)
    (kt_InvalidRow : PySem.W.typeIn K (.ref InvalidRow) = some (.type "type"))
    (km_InvalidRow : PySem.W.subIn K (.ref InvalidRow) (.ref InvalidRow) = some true)
    (h_eP : PySem.W.subIn K (.ref InvalidRow) (.ref PollError) = some true)
    (h_eB : PySem.W.subIn K (.ref InvalidRow) (.ref InvalidBook) = some false)
    (h_eT : PySem.W.subIn K (.ref InvalidRow) (.ref InvalidText) = some false)
    (h_eR : PySem.W.subIn K (.ref InvalidRow) (.ref InvalidRow) = some true)
    (g_law_deal : PySem.W.nsIn K mainGlobals "_law_deal" = some (some (.ref f_law_deal)))
    (l11 : K.lookup f_law_deal = some ⟨oc11, od11, .func (PySem.W.fnOf "_law_deal" "_law_deal" (defArgs s_law_deal) (defBody s_law_deal) (defScope s_law_deal) .none kV11 dc11 pm11 an11 cd11 ct11), sl11⟩)
    (c11 : PySem.W.codeIn K cd11 "_law_deal" = true)
    (k11 : PySem.W.keepIn K (.ref f_law_deal) = true)
    (g_law_draw : PySem.W.nsIn K mainGlobals "_law_draw" = some (some (.ref f_law_draw)))
    (l12 : K.lookup f_law_draw = some ⟨oc12, od12, .func (PySem.W.fnOf "_law_draw" "_law_draw" (defArgs s_law_draw) (defBody s_law_draw) (defScope s_law_draw) .none kV12 dc12 pm12 an12 cd12 ct12), sl12⟩)
    (c12 : PySem.W.codeIn K cd12 "_law_draw" = true)
    (k12 : PySem.W.keepIn K (.ref f_law_draw) = true)
    (g_law_pick : PySem.W.nsIn K mainGlobals "_law_pick" = some (some (.ref f_law_pick)))
    (l13 : K.lookup f_law_pick = some ⟨oc13, od13, .func (PySem.W.fnOf "_law_pick" "_law_pick" (defArgs s_law_pick) (defBody s_law_pick) (defScope s_law_pick) .none kV13 dc13 pm13 an13 cd13 ct13), sl13⟩)
    (c13 : PySem.W.codeIn K cd13 "_law_pick" = true)
    (k13 : PySem.W.keepIn K (.ref f_law_pick) = true)
    (g_law_mixed : PySem.W.nsIn K mainGlobals "_law_mixed" = some (some (.ref f_law_mixed)))
    (l14 : K.lookup f_law_mixed = some ⟨oc14, od14, .func (PySem.W.fnOf "_law_mixed" "_law_mixed" (defArgs s_law_mixed) (defBody s_law_mixed) (defScope s_law_mixed) .none kV14 dc14 pm14 an14 cd14 ct14), sl14⟩)
    (c14 : PySem.W.codeIn K cd14 "_law_mixed" = true)
    (k14 : PySem.W.keepIn K (.ref f_law_mixed) = true)
    (g_law_names : PySem.W.nsIn K mainGlobals "_law_names" = some (some (.ref f_law_names)))
    (l15 : K.lookup f_law_names = some ⟨oc15, od15, .func (PySem.W.fnOf "_law_names" "_law_names" (defArgs s_law_names) (defBody s_law_names) (defScope s_law_names) .none kV15 dc15 pm15 an15 cd15 ct15), sl15⟩)
    (c15 : PySem.W.codeIn K cd15 "_law_names" = true)
    (k15 : PySem.W.keepIn K (.ref f_law_names) = true)
    (g_law_kinds : PySem.W.nsIn K mainGlobals "_law_kinds" = some (some (.ref f_law_kinds)))
    (l16 : K.lookup f_law_kinds = some ⟨oc16, od16, .func (PySem.W.fnOf "_law_kinds" "_law_kinds" (defArgs s_law_kinds) (defBody s_law_kinds) (defScope s_law_kinds) .none kV16 dc16 pm16 an16 cd16 ct16), sl16⟩)
    (c16 : PySem.W.codeIn K cd16 "_law_kinds" = true)
    (k16 : PySem.W.keepIn K (.ref f_law_kinds) = true)
    (g_law_any_row : PySem.W.nsIn K mainGlobals "_law_any_row" = some (some (.ref f_law_any_row)))
    (l17 : K.lookup f_law_any_row = some ⟨oc17, od17, .func (PySem.W.fnOf "_law_any_row" "_law_any_row" (defArgs s_law_any_row) (defBody s_law_any_row) (defScope s_law_any_row) .none kV17 dc17 pm17 an17 cd17 ct17), sl17⟩)
    (c17 : PySem.W.codeIn K cd17 "_law_any_row" = true)
    (k17 : PySem.W.keepIn K (.ref f_law_any_row) = true)
    (g_law_thing : PySem.W.nsIn K mainGlobals "_law_thing" = some (some (.ref f_law_thing)))
    (l18 : K.lookup f_law_thing = some ⟨oc18, od18, .func (PySem.W.fnOf "_law_thing" "_law_thing" (defArgs s_law_thing) (defBody s_law_thing) (defScope s_law_thing) .none kV18 dc18 pm18 an18 cd18 ct18), sl18⟩)
    (c18 : PySem.W.codeIn K cd18 "_law_thing" = true)
    (k18 : PySem.W.keepIn K (.ref f_law_thing) = true)
    (g_law_is_name : PySem.W.nsIn K mainGlobals "_law_is_name" = some (some (.ref f_law_is_name)))
    (l19 : K.lookup f_law_is_name = some ⟨oc19, od19, .func (PySem.W.fnOf "_law_is_name" "_law_is_name" (defArgs s_law_is_name) (defBody s_law_is_name) (defScope s_law_is_name) .none kV19 dc19 pm19 an19 cd19 ct19), sl19⟩)
    (c19 : PySem.W.codeIn K cd19 "_law_is_name" = true)
    (k19 : PySem.W.keepIn K (.ref f_law_is_name) = true)
    (g_law_is_add : PySem.W.nsIn K mainGlobals "_law_is_add" = some (some (.ref f_law_is_add)))
    (l20 : K.lookup f_law_is_add = some ⟨oc20, od20, .func (PySem.W.fnOf "_law_is_add" "_law_is_add" (defArgs s_law_is_add) (defBody s_law_is_add) (defScope s_law_is_add) .none kV20 dc20 pm20 an20 cd20 ct20), sl20⟩)
    (c20 : PySem.W.codeIn K cd20 "_law_is_add" = true)
    (k20 : PySem.W.keepIn K (.ref f_law_is_add) = true)
    (g_law_strange : PySem.W.nsIn K mainGlobals "_law_strange" = some (some (.ref f_law_strange)))
    (l21 : K.lookup f_law_strange = some ⟨oc21, od21, .func (PySem.W.fnOf "_law_strange" "_law_strange" (defArgs s_law_strange) (defBody s_law_strange) (defScope s_law_strange) .none kV21 dc21 pm21 an21 cd21 ct21), sl21⟩)
    (c21 : PySem.W.codeIn K cd21 "_law_strange" = true)
    (k21 : PySem.W.keepIn K (.ref f_law_strange) = true)
    (g_law_wrong : PySem.W.nsIn K mainGlobals "_law_wrong" = some (some (.ref f_law_wrong)))
    (l22 : K.lookup f_law_wrong = some ⟨oc22, od22, .func (PySem.W.fnOf "_law_wrong" "_law_wrong" (defArgs s_law_wrong) (defBody s_law_wrong) (defScope s_law_wrong) .none kV22 dc22 pm22 an22 cd22 ct22), sl22⟩)
    (c22 : PySem.W.codeIn K cd22 "_law_wrong" = true)
    (k22 : PySem.W.keepIn K (.ref f_law_wrong) = true)
    (g_law_heard : PySem.W.nsIn K mainGlobals "_law_heard" = some (some (.ref f_law_heard)))
    (l23 : K.lookup f_law_heard = some ⟨oc23, od23, .func (PySem.W.fnOf "_law_heard" "_law_heard" (defArgs s_law_heard) (defBody s_law_heard) (defScope s_law_heard) .none kV23 dc23 pm23 an23 cd23 ct23), sl23⟩)
    (c23 : PySem.W.codeIn K cd23 "_law_heard" = true)
    (k23 : PySem.W.keepIn K (.ref f_law_heard) = true)
    (g_law : PySem.W.nsIn K mainGlobals "law" = some (some (.ref f_law)))
    (l24 : K.lookup f_law = some ⟨oc24, od24, .func (PySem.W.fnOf "law" "law" (defArgs s_law) (defBody s_law) (defScope s_law) .none kV24 dc24 pm24 an24 cd24 ct24), sl24⟩)
    (c24 : PySem.W.codeIn K cd24 "law" = true)
    (k24 : PySem.W.keepIn K (.ref f_law) = true) :
    ∃ A : Ads, Tx A K mg := ⟨⟨f_is_integer, f_is_name, f_refuse_wrong, f_is_mark_or, f_is_added, Row, Step, Join, Part, PollError, InvalidRow, InvalidBook, InvalidText, f_Step_init, f_Join_init, f_Part_init, f_Row_init, KEYWORDS, KINDS, f_InvalidRow_init, f_law_deal, f_law_draw, f_law_pick, f_law_mixed, f_law_names, f_law_kinds, f_law_any_row, f_law_thing, f_law_is_name, f_law_is_add, f_law_strange, f_law_wrong, f_law_heard, f_law⟩, {
    z_isinstance := PySem.W.mg_none_of X G z_isinstance,
    z_int := PySem.W.mg_none_of X G z_int,
    z_bool := PySem.W.mg_none_of X G z_bool,
    z_str := PySem.W.mg_none_of X G z_str,
    z_len := PySem.W.mg_none_of X G z_len,
    z_all := PySem.W.mg_none_of X G z_all,
    z_tuple := PySem.W.mg_none_of X G z_tuple,
    z_range := PySem.W.mg_none_of X G z_range,
    z_list := PySem.W.mg_none_of X G z_list,
    z_abs := PySem.W.mg_none_of X G z_abs,
    z_repr := PySem.W.mg_none_of X G z_repr,
    d_is_integer := ⟨PySem.W.mg_of X G g_is_integer, _, fun_mk (st := s_is_integer) l1 c1 k1⟩,
    d_is_name := ⟨PySem.W.mg_of X G g_is_name, _, fun_mk (st := s_is_name) l2 c2 k2⟩,
    d_refuse_wrong := ⟨PySem.W.mg_of X G g_refuse_wrong, _, fun_mk (st := s_refuse_wrong) l3 c3 k3⟩,
    d_is_mark_or := ⟨PySem.W.mg_of X G g_is_mark_or, _, fun_mk (st := s_is_mark_or) l4 c4 k4⟩,
    d_is_added := ⟨PySem.W.mg_of X G g_is_added, _, fun_mk (st := s_is_added) l5 c5 k5⟩,
    g_Row := PySem.W.mg_of X G g_Row,
    g_Step := PySem.W.mg_of X G g_Step,
    g_Join := PySem.W.mg_of X G g_Join,
    g_Part := PySem.W.mg_of X G g_Part,
    g_PollError := PySem.W.mg_of X G g_PollError,
    g_InvalidRow := PySem.W.mg_of X G g_InvalidRow,
    g_InvalidBook := PySem.W.mg_of X G g_InvalidBook,
    g_InvalidText := PySem.W.mg_of X G g_InvalidText,
    m_Step_init := m_Step_init,
    i_f_Step_init := n_f_Step_init,
    d_Step_init := ⟨_, fun_mk (st := s_Step_init) l6 c6 k6⟩,
    m_Join_init := m_Join_init,
    i_f_Join_init := n_f_Join_init,
    d_Join_init := ⟨_, fun_mk (st := s_Join_init) l7 c7 k7⟩,
    m_Part_init := m_Part_init,
    i_f_Part_init := n_f_Part_init,
    d_Part_init := ⟨_, fun_mk (st := s_Part_init) l8 c8 k8⟩,
    m_Row_init := m_Row_init,
    i_f_Row_init := n_f_Row_init,
    d_Row_init := ⟨_, fun_mk (st := s_Row_init) l9 c9 k9⟩,
    g_KEYWORDS := PySem.W.mg_of X G g_KEYWORDS,
    t_KEYWORDS := fun H => .inr ⟨oTKEYWORDS, iTKEYWORDS, nTKEYWORDS, lTKEYWORDS, cTKEYWORDS, dTKEYWORDS, by have e := vTKEYWORDS.length; rw [← Array.length_toList, ← e]; exact (by decide : 5 ≤ 1000) |> small, vTKEYWORDS⟩,
    g_KINDS := PySem.W.mg_of X G g_KINDS,
    t_KINDS := fun H => .inr ⟨oTKINDS, iTKINDS, nTKINDS, lTKINDS, cTKINDS, dTKINDS, by have e := vTKINDS.length; rw [← Array.length_toList, ← e]; exact (by decide : 8 ≤ 1000) |> small, vTKINDS⟩,
    o_Row := ⟨opg_Row, ohd_Row, opo_Row, osa_Row, oma_Row, okp_Row, oha_Row, one_Row, omo_Row, oic_Row, oty_Row, ome_Row⟩,
    o_Step := ⟨opg_Step, ohd_Step, opo_Step, osa_Step, oma_Step, okp_Step, oha_Step, one_Step, omo_Step, oic_Step, oty_Step, ome_Step⟩,
    o_Join := ⟨opg_Join, ohd_Join, opo_Join, osa_Join, oma_Join, okp_Join, oha_Join, one_Join, omo_Join, oic_Join, oty_Join, ome_Join⟩,
    o_Part := ⟨opg_Part, ohd_Part, opo_Part, osa_Part, oma_Part, okp_Part, oha_Part, one_Part, omo_Part, oic_Part, oty_Part, ome_Part⟩,
    rowOff := h_rowOff,
    rowRd := h_rowRd,
    rowGa := h_rowGa,
    rowKeep := h_rowKeep,
    ogt := h_ogt,
    otk := h_otk,
    na_Step_words := na_Step_words,
    na_Step_kind := na_Step_kind,
    na_Step_old := na_Step_old,
    na_Step_then := na_Step_then,
    na_Step_add := na_Step_add,
    na_Join_words := na_Join_words,
    na_Join_here := na_Join_here,
    na_Join_there := na_Join_there,
    na_Join_then := na_Join_then,
    na_Join_add := na_Join_add,
    na_Part_words := na_Part_words,
    na_Part_old := na_Part_old,
    na_Part_left := na_Part_left,
    na_Part_right := na_Part_right,
    na_Part_add := na_Part_add,
    na_Part_more := na_Part_more,
    m_InvalidRow_init := m_InvalidRow_init,
    i_f_InvalidRow_init := n_f_InvalidRow_init,
    d_InvalidRow_init := ⟨_, fun_mk (st := s_InvalidRow_init) l10 c10 k10⟩,
    ft_f_InvalidRow_init := ft_f_InvalidRow_init,
    x_InvalidRow := xcVE xl_InvalidRow xp_InvalidRow xb_InvalidRow xe_InvalidRow ⟨xg_InvalidRow, xk_InvalidRow, xs_InvalidRow, xd_InvalidRow, xa_InvalidRow, h_ogt, h_otk, xm_InvalidRow⟩,
    q_InvalidRow := oexVE xl_InvalidRow xp_InvalidRow xb_InvalidRow xs_InvalidRow xt_InvalidRow xe_InvalidRow,
    na_InvalidRow_word := na_InvalidRow_word,
    k_PollError := ⟨kc_PollError, kt_PollError, km_PollError⟩,
    k_InvalidBook := ⟨kc_InvalidBook, kt_InvalidBook, km_InvalidBook⟩,
    k_InvalidText := ⟨kc_InvalidText, kt_InvalidText, km_InvalidText⟩,
    k_InvalidRow := ⟨kc_InvalidRow, kt_InvalidRow, km_InvalidRow⟩,
    eP := h_eP,
    eB := h_eB,
    eT := h_eT,
    eR := h_eR,
    d_law_deal := ⟨PySem.W.mg_of X G g_law_deal, _, fun_mk (st := s_law_deal) l11 c11 k11⟩,
    d_law_draw := ⟨PySem.W.mg_of X G g_law_draw, _, fun_mk (st := s_law_draw) l12 c12 k12⟩,
    d_law_pick := ⟨PySem.W.mg_of X G g_law_pick, _, fun_mk (st := s_law_pick) l13 c13 k13⟩,
    d_law_mixed := ⟨PySem.W.mg_of X G g_law_mixed, _, fun_mk (st := s_law_mixed) l14 c14 k14⟩,
    d_law_names := ⟨PySem.W.mg_of X G g_law_names, _, fun_mk (st := s_law_names) l15 c15 k15⟩,
    d_law_kinds := ⟨PySem.W.mg_of X G g_law_kinds, _, fun_mk (st := s_law_kinds) l16 c16 k16⟩,
    d_law_any_row := ⟨PySem.W.mg_of X G g_law_any_row, _, fun_mk (st := s_law_any_row) l17 c17 k17⟩,
    d_law_thing := ⟨PySem.W.mg_of X G g_law_thing, _, fun_mk (st := s_law_thing) l18 c18 k18⟩,
    d_law_is_name := ⟨PySem.W.mg_of X G g_law_is_name, _, fun_mk (st := s_law_is_name) l19 c19 k19⟩,
    d_law_is_add := ⟨PySem.W.mg_of X G g_law_is_add, _, fun_mk (st := s_law_is_add) l20 c20 k20⟩,
    d_law_strange := ⟨PySem.W.mg_of X G g_law_strange, _, fun_mk (st := s_law_strange) l21 c21 k21⟩,
    d_law_wrong := ⟨PySem.W.mg_of X G g_law_wrong, _, fun_mk (st := s_law_wrong) l22 c22 k22⟩,
    d_law_heard := ⟨PySem.W.mg_of X G g_law_heard, _, fun_mk (st := s_law_heard) l23 c23 k23⟩,
    d_law := ⟨PySem.W.mg_of X G g_law, _, fun_mk (st := s_law) l24 c24 k24⟩ }⟩

end Fk


open PySem PySem.W PyProof.Rows
theorem PySem.Challenge.cw_forkpolls_k03_rows_refused_holds : PySem.Challenge.rw_forkpolls_k03_rows_refused.Holds := by
  w_on; o_law; k_head; (case hw => w_witness2)
  k_fill
  refine Fk.walk_ofG (l := PySem.Challenge.rw_forkpolls_k03_rows_refused) (n := 63) (k := 8) (x := "_law_script") (CX := fun _ => L2.CX0) (sp := fun w => Fk.spLaw _) rfl (by decide) rfl ⟨rfl, by decide, by decide⟩ (fun w h Y => PySem.W.kIn_of Y) ?F (fun _ _ a ns _ _ hS => ⟨a, ns, rfl, hS, fun _ => rfl⟩) (fun _ _ _ _ _ h => h)
  case F =>
    intro w mg fa h KX G hmg
    refine' Exists.elim (Fk.gather KX G ?z_isinstance ?z_int ?z_bool ?z_str ?z_len ?z_all ?z_tuple ?z_range ?z_list ?z_abs ?z_repr ?g_is_integer ?l1 ?c1 ?k1 ?g_is_name ?l2 ?c2 ?k2 ?g_refuse_wrong ?l3 ?c3 ?k3 ?g_is_mark_or ?l4 ?c4 ?k4 ?g_is_added ?l5 ?c5 ?k5 ?g_Row ?g_Step ?g_Join ?g_Part ?g_PollError ?g_InvalidRow ?g_InvalidBook ?g_InvalidText ?m_Step_init ?n_f_Step_init ?l6 ?c6 ?k6 ?m_Join_init ?n_f_Join_init ?l7 ?c7 ?k7 ?m_Part_init ?n_f_Part_init ?l8 ?c8 ?k8 ?m_Row_init ?n_f_Row_init ?l9 ?c9 ?k9 ?g_KEYWORDS ?lTKEYWORDS ?cTKEYWORDS ?dTKEYWORDS ?vTKEYWORDS ?g_KINDS ?lTKINDS ?cTKINDS ?dTKINDS ?vTKINDS ?opg_Row ?ohd_Row ?opo_Row ?osa_Row ?oma_Row ?okp_Row ?oha_Row ?one_Row ?omo_Row ?oic_Row ?oty_Row ?ome_Row ?opg_Step ?ohd_Step ?opo_Step ?osa_Step ?oma_Step ?okp_Step ?oha_Step ?one_Step ?omo_Step ?oic_Step ?oty_Step ?ome_Step ?opg_Join ?ohd_Join ?opo_Join ?osa_Join ?oma_Join ?okp_Join ?oha_Join ?one_Join ?omo_Join ?oic_Join ?oty_Join ?ome_Join ?opg_Part ?ohd_Part ?opo_Part ?osa_Part ?oma_Part ?okp_Part ?oha_Part ?one_Part ?omo_Part ?oic_Part ?oty_Part ?ome_Part ?h_rowOff ?h_rowRd ?h_rowGa ?h_rowKeep ?h_ogt ?h_otk ?na_Step_words ?na_Step_kind ?na_Step_old ?na_Step_then ?na_Step_add ?na_Join_words ?na_Join_here ?na_Join_there ?na_Join_then ?na_Join_add ?na_Part_words ?na_Part_old ?na_Part_left ?na_Part_right ?na_Part_add ?na_Part_more ?m_InvalidRow_init ?n_f_InvalidRow_init ?l10 ?c10 ?k10 ?ft_f_InvalidRow_init ?xg_InvalidRow ?xk_InvalidRow ?xs_InvalidRow ?xd_InvalidRow ?xa_InvalidRow ?xm_InvalidRow ?xe_InvalidRow ?xl_InvalidRow ?xp_InvalidRow ?xb_InvalidRow ?xt_InvalidRow ?na_InvalidRow_word ?kc_PollError ?kt_PollError ?km_PollError ?kc_InvalidBook ?kt_InvalidBook ?km_InvalidBook ?kc_InvalidText ?kt_InvalidText ?km_InvalidText ?kc_InvalidRow ?kt_InvalidRow ?km_InvalidRow ?h_eP ?h_eB ?h_eT ?h_eR ?g_law_deal ?l11 ?c11 ?k11 ?g_law_draw ?l12 ?c12 ?k12 ?g_law_pick ?l13 ?c13 ?k13 ?g_law_mixed ?l14 ?c14 ?k14 ?g_law_names ?l15 ?c15 ?k15 ?g_law_kinds ?l16 ?c16 ?k16 ?g_law_any_row ?l17 ?c17 ?k17 ?g_law_thing ?l18 ?c18 ?k18 ?g_law_is_name ?l19 ?c19 ?k19 ?g_law_is_add ?l20 ?c20 ?k20 ?g_law_strange ?l21 ?c21 ?k21 ?g_law_wrong ?l22 ?c22 ?k22 ?g_law_heard ?l23 ?c23 ?k23 ?g_law ?l24 ?c24 ?k24) ?use
    (case z_isinstance => k_is)
    (case z_int => k_is)
    (case z_bool => k_is)
    (case z_str => k_is)
    (case z_len => k_is)
    (case z_all => k_is)
    (case z_tuple => k_is)
    (case z_range => k_is)
    (case z_list => k_is)
    (case z_abs => k_is)
    (case z_repr => k_is)
    (case g_is_integer => k_is)
    (case l1 => k_is)
    (case c1 => k_is)
    (case k1 => k_is)
    (case g_is_name => k_is)
    (case l2 => k_is)
    (case c2 => k_is)
    (case k2 => k_is)
    (case g_refuse_wrong => k_is)
    (case l3 => k_is)
    (case c3 => k_is)
    (case k3 => k_is)
    (case g_is_mark_or => k_is)
    (case l4 => k_is)
    (case c4 => k_is)
    (case k4 => k_is)
    (case g_is_added => k_is)
    (case l5 => k_is)
    (case c5 => k_is)
    (case k5 => k_is)
    (case g_Row => k_is)
    (case g_Step => k_is)
    (case g_Join => k_is)
    (case g_Part => k_is)
    (case g_PollError => k_is)
    (case g_InvalidRow => k_is)
    (case g_InvalidBook => k_is)
    (case g_InvalidText => k_is)
    (case m_Step_init => k_is)
    (case n_f_Step_init => k_is)
    (case l6 => k_is)
    (case c6 => k_is)
    (case k6 => k_is)
    (case m_Join_init => k_is)
    (case n_f_Join_init => k_is)
    (case l7 => k_is)
    (case c7 => k_is)
    (case k7 => k_is)
    (case m_Part_init => k_is)
    (case n_f_Part_init => k_is)
    (case l8 => k_is)
    (case c8 => k_is)
    (case k8 => k_is)
    (case m_Row_init => k_is)
    (case n_f_Row_init => k_is)
    (case l9 => k_is)
    (case c9 => k_is)
    (case k9 => k_is)
    (case g_KEYWORDS => k_is)
    (case lTKEYWORDS => k_is)
    (case cTKEYWORDS => rfl)
    (case dTKEYWORDS => rfl)
    (case vTKEYWORDS => exact .cons ⟨_, rfl⟩ (.cons ⟨_, rfl⟩ (.cons ⟨_, rfl⟩ (.cons ⟨_, rfl⟩ (.cons ⟨_, rfl⟩ (.nil))))))
    (case g_KINDS => k_is)
    (case lTKINDS => k_is)
    (case cTKINDS => rfl)
    (case dTKINDS => rfl)
    (case vTKINDS => exact .cons ⟨_, rfl⟩ (.cons ⟨_, rfl⟩ (.cons ⟨_, rfl⟩ (.cons ⟨_, rfl⟩ (.cons ⟨_, rfl⟩ (.cons ⟨_, rfl⟩ (.cons ⟨_, rfl⟩ (.cons ⟨_, rfl⟩ (.nil)))))))))
    (case opg_Row => k_is)
    (case ohd_Row => k_is)
    (case opo_Row => k_is)
    (case osa_Row => k_is)
    (case oma_Row => k_is)
    (case okp_Row => k_is)
    (case oha_Row => k_is)
    (case one_Row => k_is)
    (case omo_Row => k_is)
    (case oic_Row => k_is)
    (case oty_Row => k_is)
    (case ome_Row => k_is)
    (case opg_Step => k_is)
    (case ohd_Step => k_is)
    (case opo_Step => k_is)
    (case osa_Step => k_is)
    (case oma_Step => k_is)
    (case okp_Step => k_is)
    (case oha_Step => k_is)
    (case one_Step => k_is)
    (case omo_Step => k_is)
    (case oic_Step => k_is)
    (case oty_Step => k_is)
    (case ome_Step => k_is)
    (case opg_Join => k_is)
    (case ohd_Join => k_is)
    (case opo_Join => k_is)
    (case osa_Join => k_is)
    (case oma_Join => k_is)
    (case okp_Join => k_is)
    (case oha_Join => k_is)
    (case one_Join => k_is)
    (case omo_Join => k_is)
    (case oic_Join => k_is)
    (case oty_Join => k_is)
    (case ome_Join => k_is)
    (case opg_Part => k_is)
    (case ohd_Part => k_is)
    (case opo_Part => k_is)
    (case osa_Part => k_is)
    (case oma_Part => k_is)
    (case okp_Part => k_is)
    (case oha_Part => k_is)
    (case one_Part => k_is)
    (case omo_Part => k_is)
    (case oic_Part => k_is)
    (case oty_Part => k_is)
    (case ome_Part => k_is)
    (case h_rowOff => k_is)
    (case h_rowRd => k_is)
    (case h_rowGa => k_is)
    (case h_rowKeep => k_is)
    (case h_ogt => k_is)
    (case h_otk => k_is)
    (case na_Step_words => k_is)
    (case na_Step_kind => k_is)
    (case na_Step_old => k_is)
    (case na_Step_then => k_is)
    (case na_Step_add => k_is)
    (case na_Join_words => k_is)
    (case na_Join_here => k_is)
    (case na_Join_there => k_is)
    (case na_Join_then => k_is)
    (case na_Join_add => k_is)
    (case na_Part_words => k_is)
    (case na_Part_old => k_is)
    (case na_Part_left => k_is)
    (case na_Part_right => k_is)
    (case na_Part_add => k_is)
    (case na_Part_more => k_is)
    (case m_InvalidRow_init => k_is)
    (case n_f_InvalidRow_init => k_is)
    (case l10 => k_is)
    (case c10 => k_is)
    (case k10 => k_is)
    (case ft_f_InvalidRow_init => k_is)
    (case xg_InvalidRow => k_is)
    (case xk_InvalidRow => k_is)
    (case xs_InvalidRow => k_is)
    (case xd_InvalidRow => k_is)
    (case xa_InvalidRow => k_is)
    (case xm_InvalidRow => k_is)
    (case xe_InvalidRow => k_is)
    (case xl_InvalidRow => k_is)
    (case xp_InvalidRow => rfl)
    (case xb_InvalidRow => k_is)
    (case xt_InvalidRow => k_is)
    (case na_InvalidRow_word => k_is)
    (case kc_PollError => k_is)
    (case kt_PollError => k_is)
    (case km_PollError => k_is)
    (case kc_InvalidBook => k_is)
    (case kt_InvalidBook => k_is)
    (case km_InvalidBook => k_is)
    (case kc_InvalidText => k_is)
    (case kt_InvalidText => k_is)
    (case km_InvalidText => k_is)
    (case kc_InvalidRow => k_is)
    (case kt_InvalidRow => k_is)
    (case km_InvalidRow => k_is)
    (case h_eP => k_is)
    (case h_eB => k_is)
    (case h_eT => k_is)
    (case h_eR => k_is)
    (case g_law_deal => k_is)
    (case l11 => k_is)
    (case c11 => k_is)
    (case k11 => k_is)
    (case g_law_draw => k_is)
    (case l12 => k_is)
    (case c12 => k_is)
    (case k12 => k_is)
    (case g_law_pick => k_is)
    (case l13 => k_is)
    (case c13 => k_is)
    (case k13 => k_is)
    (case g_law_mixed => k_is)
    (case l14 => k_is)
    (case c14 => k_is)
    (case k14 => k_is)
    (case g_law_names => k_is)
    (case l15 => k_is)
    (case c15 => k_is)
    (case k15 => k_is)
    (case g_law_kinds => k_is)
    (case l16 => k_is)
    (case c16 => k_is)
    (case k16 => k_is)
    (case g_law_any_row => k_is)
    (case l17 => k_is)
    (case c17 => k_is)
    (case k17 => k_is)
    (case g_law_thing => k_is)
    (case l18 => k_is)
    (case c18 => k_is)
    (case k18 => k_is)
    (case g_law_is_name => k_is)
    (case l19 => k_is)
    (case c19 => k_is)
    (case k19 => k_is)
    (case g_law_is_add => k_is)
    (case l20 => k_is)
    (case c20 => k_is)
    (case k20 => k_is)
    (case g_law_strange => k_is)
    (case l21 => k_is)
    (case c21 => k_is)
    (case k21 => k_is)
    (case g_law_wrong => k_is)
    (case l22 => k_is)
    (case c22 => k_is)
    (case k22 => k_is)
    (case g_law_heard => k_is)
    (case l23 => k_is)
    (case c23 => k_is)
    (case k23 => k_is)
    (case g_law => k_is)
    (case l24 => k_is)
    (case c24 => k_is)
    (case k24 => k_is)
    intro A T
    obtain ⟨fd, hb, hF⟩ := Fk.whole (P := PySem.Challenge.rw_forkpolls_k03_rows_refused.prog) (w := w) T
    have e : fa = A.f_law := by
      have e1 := hmg.symm.trans T.d_law.1
      exact Value.ref.inj (Option.some.inj e1)
    subst e
    exact ⟨fd, hb, fun base _ _ => hF base⟩


